import PyProof.Rows.All
import Wide.All
import OpenK.AllK
import Wide.FinOn
import Lean
import PyProof.EqAt
import PyProof.EqKinds
import PyProof.TupleCall
import PySem.Challenge.RW_twinstride_k13_whole_names_and_numbers_o
set_option Elab.async false
set_option linter.all false
set_option maxRecDepth 100000
set_option maxHeartbeats 4000000
set_option compiler.extract_closed false
set_option Elab.async false
set_option linter.all false
set_option maxRecDepth 100000
namespace L2
open PySem PySem.Spec PyProof.Rows
abbrev bR:=Sum Int Str
def kM:bR->Value->Bool
 |.inl k,v=>Value.isInt k v
 |.inr x,v=>Value.isStrOf x v
def keyH(w:World):bR->Int
 |.inl k=>hashInt k
 |.inr x=>hashStr w x
theorem bI:∀{k:bR} {v:Value},kM k v=true->(∃i t,k=Sum.inl i/\v=Value.int i t)\/(∃x t,k=Sum.inr x/\v=Value.str x t)
 |.inl i,v,h=>by
  obtain ⟨t,e⟩:=Value.isInt_shape (k:=i) (v:=v) h;exact .inl ⟨i,t,rfl,e⟩
 |.inr x,v,h=>by
  obtain ⟨t,e⟩:=Value.isStrOf_shape (x:=x) (v:=v) h;exact .inr ⟨x,t,rfl,e⟩
theorem rT(i:Int)(t:Tok):kM (.inl i) (.int i t)=true:=by simp [kM,Value.isInt]
theorem sE(x:Str)(t:Tok):kM (.inr x) (.str x t)=true:=by simp [kM,Value.isStrOf]
theorem CT(a b:Int):decide ((Sum.inl a:bR)=Sum.inl b)=(a==b):=by
 by_cases e:a=b
 ·subst e;simp
 ·have h:¬(Sum.inl a:bR)=Sum.inl b:=fun q=>e (Sum.inl.inj q)
  rw [decide_eq_false h];exact (beq_eq_false_iff_ne.mpr e).symm
theorem CW(a b:Str):decide ((Sum.inr a:bR)=Sum.inr b)=decide (a=b):=by
 by_cases e:a=b
 ·subst e;simp
 ·have h:¬(Sum.inr a:bR)=Sum.inr b:=fun q=>e (Sum.inr.inj q)
  rw [decide_eq_false h,decide_eq_false e]
theorem DR(a:Int)(b:Str):decide ((Sum.inl a:bR)=Sum.inr b)=false:=decide_eq_false (fun q=>nomatch q)
theorem Cb(a:Str)(b:Int):decide ((Sum.inr a:bR)=Sum.inl b)=false:=decide_eq_false (fun q=>nomatch q)
def bJ(prog:Program)(w:World):PySem.KeyKind prog w bR where
 is:=kM
 hash:=keyH w
 inj:=fun v a b ha hb=>by
  rcases bI ha with ⟨i,t,rfl,rfl⟩|⟨x,t,rfl,rfl⟩
  ·rcases bI hb with ⟨j,u,rfl,e⟩|⟨y,u,rfl,e⟩
   ·injection e with e1 _;rw [e1]
   ·exact nomatch e
  ·rcases bI hb with ⟨j,u,rfl,e⟩|⟨y,u,rfl,e⟩
   ·exact nomatch e
   ·injection e with e1 _;rw [e1]
 byValue:=fun k v h=>by
  rcases bI h with ⟨i,t,rfl,rfl⟩|⟨x,t,rfl,rfl⟩<;>rfl
 pyHash:=fun hv h=>by
  rcases bI hv with ⟨i,t,rfl,rfl⟩|⟨x,t,rfl,rfl⟩
  ·exact wpAny_pyHash_int h
  ·exact wpAny_pyHash_str h
 eqBool:=fun hu hv h=>by
  rcases bI hu with ⟨i,t,rfl,rfl⟩|⟨x,t,rfl,rfl⟩
  ·rcases bI hv with ⟨j,u,rfl,rfl⟩|⟨y,u,rfl,rfl⟩
   ·rw [CT] at h;exact wpAny_eqBool_int h
   ·rw [DR] at h;exact SeqAt.EqAt.int_str i t y u _ _ _ _ h
  ·rcases bI hv with ⟨j,u,rfl,rfl⟩|⟨y,u,rfl,rfl⟩
   ·rw [Cb] at h;exact SeqAt.EqAt.str_int x t j u _ _ _ _ h
   ·rw [CW] at h;exact wpAny_eqBool_str h
 «strs»:=fun k x t v h=>by
  rcases bI h with ⟨i,u,rfl,e⟩|⟨y,u,rfl,e⟩
  ·exact nomatch e
  ·injection e with e1 _
   subst e1;cases v<;>rfl
theorem nS(prog:Program)(w:World)(i:Int)(t:Tok):(bJ prog w).is (.inl i) (.int i t)=true:=rT i t
theorem mO(prog:Program)(w:World)(x:Str)(t:Tok):(bJ prog w).is (.inr x) (.str x t)=true:=sE x t
end L2
namespace L2
open PySem PySem.Spec PyProof.Rows
inductive V where
 |non|bl (b:Bool)|int (i:Int)|str (x:Str)|byt (b:Array UInt8)|flt (b:UInt64)|ref (a:Addr)|ty (n:String)
 deriving DecidableEq
def RelV:V->Value->Prop
 |.non,u=>u=Value.none
 |.bl b,u=>u=Value.bool b
 |.int i,u=>∃t,u=Value.int i t
 |.str x,u=>∃t,u=Value.str x t
 |.byt b,u=>∃t,u=Value.bytes b t
 |.flt b,u=>∃t,u=Value.float b t
 |.ref a,u=>u=Value.ref a
 |.ty n,u=>u=Value.type n
abbrev Vals:List V->List Value->Prop:=Paired RelV
theorem Vals.length{xs:List V}{us:List Value}(r:Vals xs us):xs.length=us.length:=Paired.length r
theorem Vals.get:∀{xs:List V} {us:List Value} {i:Nat} {x:V},Vals xs us->xs[i]?=some x->∃u,us[i]?=some u/\RelV x u
 |_,_,_,_,.nil,e=>by simp at e
 |_,_,0,_,.cons r _,e=>by simp at e;subst e;exact ⟨_,rfl,r⟩
 |_,_,i+1,x,.cons _ t,e=>by
  obtain ⟨u,h1,h2⟩:=Vals.get (i:=i) (x:=x) t (by simpa using e)
  exact ⟨u,by simpa using h1,h2⟩
theorem Vals.set{x:V}{u:Value}(r:RelV x u):∀{xs:List V} {us:List Value} (i:Nat),Vals xs us->Vals (xs.set i x) (us.set i u)
 |_,_,_,.nil=>.nil
 |_,_,0,.cons _ t=>.cons r t
 |_,_,i+1,.cons q t=>.cons q (Vals.set r i t)
theorem Vals.append:∀{xs ys:List V} {us ws:List Value},Vals xs us->Vals ys ws->Vals (xs++ys) (us++ws)
 |_,_,_,_,.nil,s=>s
 |_,_,_,_,.cons r t,s=>.cons r (Vals.append t s)
theorem Vals.take:∀{xs:List V} {us:List Value} (n:Nat),Vals xs us->Vals (xs.take n) (us.take n)
 |_,_,0,_=>.nil
 |_,_,_+1,.nil=>.nil
 |_,_,n+1,.cons r t=>.cons r (Vals.take n t)
theorem Vals.drop:∀{xs:List V} {us:List Value} (n:Nat),Vals xs us->Vals (xs.drop n) (us.drop n)
 |_,_,0,r=>r
 |_,_,_+1,.nil=>.nil
 |_,_,n+1,.cons _ t=>Vals.drop n t
def RelO:Option V->Option Value->Prop
 |some v,some u=>RelV v u
 |none,none=>True
 |_,_=>False
def KV{κ:Type}:List (κ×V)->List (κ×Value)->Prop:=Paired fun (p:κ×V) (q:κ×Value)=>p.1=q.1/\RelV p.2 q.2
def kV:bR->V
 |.inl i=>.int i
 |.inr x=>.str x
inductive HO where
  |lst (xs:List V)
  |tup (xs:List V)
  |dK (kvs:List (bR×V))|dT (kvs:List (List bR×V))
  |set (S:Int->Bool) (n:Nat)
  |ins (C dx:Addr) (fs:List (Str×V))
  |own (x:Addr)
  |xd (fs:List (Str×V))
  |met (f x:Addr)
  |rng (lo hi:Int)
  |frz (o:Obj) (u:HO)
  |tbl (ps:Array Value)
  |ext (φ:Heap->Prop)
abbrev Hp:=Addr->Option HO
def upd(H:Hp)(a:Addr)(o:HO):Hp:=fun b=>if b=a then some o else H b
theorem upd_same{H:Hp}{a:Addr}{o:HO}:upd H a o a=some o:=by unfold upd;rw [if_pos rfl]
theorem upd_ne{H:Hp}{a b:Addr}{o:HO}(h:b≠a):upd H a o b=H b:=by unfold upd;rw [if_neg h]
theorem Ey{H:Hp}{a b:Addr}{o u:HO}(h:H a=some o)(h':H b=some u)(d:o≠u):a≠b:=by
 intro e;subst e;rw [h] at h';exact d (Option.some.inj h')
theorem br{H:Hp}{a b:Addr}{o:HO}(h:H a=some o)(h':H b=none):a≠b:=by
 intro e;subst e;rw [h] at h';cases h'
section
variable (P:Program)(w:World)
def ObjOk(H:Hp)(h:Heap)(a:Addr):HO->Prop
 |.lst xs=>xs.length<=sizeLine/\∃(its:List Value) (n:Nat),Vals xs its/\h.get? a=some { cls:=.type "list",data:=.seq its.toArray n }
 |.tup xs=>xs.length<=sizeLine/\∃its:List Value,Vals xs its/\∃o,h.get? a=some o/\(o.cls=.type "tuple"/\∃n,o.data=.seq its.toArray n)/\o.dict=none
 |.dK kvs=>kvs.length<=sizeLine/\(a==sysModules)=false/\∃vs,KV kvs vs/\h.DictOf (bJ P w) a vs
 |.dT kvs=>kvs.length<=sizeLine/\(a==sysModules)=false/\∃xs:List (List bR×Addr×Value),
   Paired (fun (p:List bR×V) (q:List bR×Addr×Value)=>p.1=q.1/\H q.2.1=some (.tup (p.1.map kV))/\RelV p.2 q.2.2) kvs xs/\
   ∃o es ep,h.get? a=some o/\o.ExactDict/\o.data=.dict es ep/\es.toList=xs.map (entryOfKey (tupleKind (bJ P w)))/\(xs.map (·.1)).Nodup
 |.set S n=>h.SetOf (intKind P w) a S n
 |.ins C dx fs=>H dx=some (.own a)/\fs.length<=1000/\dx≠a/\h.get? a=some (W.instObj C dx)/\
   ∃mA,h.Ns1 dx mA/\(∀f,RelO (fs.lookup f) (mA f))/\PySem.Within mA (fs.map (·.1))
 |.own _=>∃o,h.get? a=some o
 |.xd fs=>∃mA,h.Ns1 a mA/\∀f,RelO (fs.lookup f) (mA f)
 |.rng lo hi=>∃t u v,h.get? a=some { cls:=.type "range",data:=.fields #[.int lo t,.int hi u,.int 1 v] }
 |.frz o u=>h.get? a=some o/\ObjOk H h a u
 |.tbl ps=>h.get? a=some { cls:=.none,data:=.fields ps }
 |.met f x=>h.get? a=some (W.methodObj (.ref f) (.ref x))
 |.ext φ=>φ h/\(∃o,h.get? a=some o)/\∀h1 h2:Heap,φ h1->(∀o,h1.get? a=some o->h2.get? a=some o)->φ h2
def HOk(H:Hp)(h:Heap):Prop:=∀a o,H a=some o->ObjOk P w H h a o
end
section
variable {P:Program}{w:World}{H H':Hp}{h h':Heap}{a:Addr}{o:HO}
theorem ObjOk.lt(x:ObjOk P w H h a o):a<h.objs.size:=by
 cases o with
 |lst xs=>obtain ⟨_,_,_,_,e⟩:=x;exact Heap.lt_size e
 |tup xs=>obtain ⟨_,_,_,_,e,_⟩:=x;exact Heap.lt_size e
 |dK kvs=>obtain ⟨_,_,_,_,o,_,_,e,_⟩:=x;exact Heap.lt_size e
 |dT kvs=>obtain ⟨_,_,_,_,o,_,_,e,_⟩:=x;exact Heap.lt_size e
 |set S n=>obtain ⟨o,_,_,_,e,_⟩:=x;exact Heap.lt_size e
 |ins C dx fs=>obtain ⟨_,_,_,e,_⟩:=x;exact Heap.lt_size e
 |own y=>obtain ⟨_,e⟩:=x;exact Heap.lt_size e
 |xd fs=>obtain ⟨_,⟨_,_,_,e,_⟩,_⟩:=x;exact Heap.lt_size e
 |rng lo hi=>obtain ⟨_,_,_,e⟩:=x;exact Heap.lt_size e
 |frz ob u=>obtain ⟨e,_⟩:=x;exact Heap.lt_size e
 |tbl ps=>exact Heap.lt_size (show h.get? a=some _ from x)
 |met f y=>exact Heap.lt_size (show h.get? a=some _ from x)
 |ext φ=>obtain ⟨_,⟨_,e⟩,_⟩:=x;exact Heap.lt_size e
theorem du{α β:Type}{F G:α->β->Prop}:∀{l₁:List α} {l₂:List β},Paired F l₁ l₂->(∀a b,F a b->G a b)->Paired G l₁ l₂
 |_,_,.nil,_=>.nil
 |_,_,.cons r t,f=>.cons (f _ _ r) (du t f)
theorem ObjOk.stay(x:ObjOk P w H h a o)(k:∀b u,(b=a\/H b=some (.own a))->h.get? b=some u->h'.get? b=some u)
  (ho:∀b,H b=some (.own a)->H' b=some (.own a)) (ht:∀b xs,H b=some (.tup xs)->H' b=some (.tup xs)):ObjOk P w H' h' a o:=by
 induction o with
 |lst xs=>obtain ⟨z,its,n,r,e⟩:=x;exact ⟨z,its,n,r,k _ _ (.inl rfl) e⟩
 |tup xs=>obtain ⟨z,its,r,ob,e,c⟩:=x;exact ⟨z,its,r,ob,k _ _ (.inl rfl) e,c⟩
 |dK kvs=>obtain ⟨z,y,vs,r,ob,es,ep,e,c⟩:=x;exact ⟨z,y,vs,r,ob,es,ep,k _ _ (.inl rfl) e,c⟩
 |dT kvs=>
  obtain ⟨z,y,xs,r,ob,es,ep,e,c⟩:=x;exact ⟨z,y,xs,du r fun p q z=>⟨z.1,ht _ _ z.2.1,z.2.2⟩,ob,es,ep,k _ _ (.inl rfl) e,c⟩
 |set S n=>obtain ⟨ob,es,ep,t,e,c⟩:=x;exact ⟨ob,es,ep,t,k _ _ (.inl rfl) e,c⟩
 |ins C dx fs=>
  obtain ⟨d,z,ne,e,mA,⟨od,es,ep,e2,c⟩,r⟩:=x;exact ⟨ho _ d,z,ne,k _ _ (.inl rfl) e,mA,⟨od,es,ep,k _ _ (.inr d) e2,c⟩,r⟩
 |own y=>obtain ⟨ob,e⟩:=x;exact ⟨ob,k _ _ (.inl rfl) e⟩
 |xd fs=>obtain ⟨mA,⟨od,es,ep,e,c⟩,r⟩:=x;exact ⟨mA,⟨od,es,ep,k _ _ (.inl rfl) e,c⟩,r⟩
 |rng lo hi=>obtain ⟨t,u,v,e⟩:=x;exact ⟨t,u,v,k _ _ (.inl rfl) e⟩
 |frz ob u ih=>obtain ⟨e,q⟩:=x;exact ⟨k _ _ (.inl rfl) e,ih q⟩
 |tbl ps=>
  have e:h.get? a=some { cls:=.none,data:=.fields ps }:=x;show h'.get? a=some { cls:=.none,data:=.fields ps };exact k a _ (.inl rfl) e
 |met f y=>
  have e:h.get? a=some (W.methodObj (.ref f) (.ref y)):=x;show h'.get? a=some (W.methodObj (.ref f) (.ref y));exact k a _ (.inl rfl) e
 |ext φ=>obtain ⟨p,⟨o,e⟩,st⟩:=x;exact ⟨st _ _ p fun o q=>k _ _ (.inl rfl) q,⟨o,k _ _ (.inl rfl) e⟩,st⟩
theorem HOk.lt(x:HOk P w H h)(e:H a=some o):a<h.objs.size:=(x a o e).lt
theorem HOk.fresh(x:HOk P w H h)(e:h.objs.size<=a):H a=none:=by
 cases q:H a with
 |none=>rfl
 |some u=>exact absurd (Nat.lt_of_lt_of_le (x.lt q) e) (Nat.lt_irrefl _)
theorem HOk.kept(x:HOk P w H h)(k:∀b u,h.get? b=some u->h'.get? b=some u):HOk P w H h':=fun a o e=>
 (x a o e).stay (fun b u _ q=>k b u q) (fun _ q=>q) fun _ _ q=>q
theorem HOk.laid(x:HOk P w H h)(k:∀b u,h.get? b=some u->h'.get? b=some u)(hp:h.objs.size<=a)(new:ObjOk P w (upd H a o) h' a o):HOk P w (upd H a o) h':=fun b u e=>by
 have hn:=x.fresh hp
 by_cases hb:b=a
 ·subst hb;rw [upd_same] at e;cases e;exact new
 ·rw [upd_ne hb] at e
  exact (x b u e).stay (fun c v _ q=>k c v q) (fun c q=>by rw [upd_ne (br q hn)];exact q) fun c xs q=>by rw [upd_ne (br q hn)];exact q
end
def Rd(H:Hp)(a:Addr)(u:HO):Prop:=H a=some u\/∃o,H a=some (.frz o u)
theorem Rd.ok{P:Program}{w:World}{H:Hp}{h:Heap}{a:Addr}{u:HO}(r:Rd H a u)(x:HOk P w H h):ObjOk P w H h a u:=by
 rcases r with r|⟨o,r⟩
 ·exact x a u r
 ·obtain ⟨_,q⟩:=x a _ r
  exact q
def EA:Option HO->Prop
 |some (.lst _)=>True
 |some (.dK _)=>True
 |some (.dT _)=>True
 |some (.set _ _)=>True
 |some (.ins _ _ _)=>True
 |some (.ext _)=>True
 |_=>False
section
variable {P:Program}{w:World}{H:Hp}{h h':Heap}{x e:Addr}{o':HO}
theorem HOk.write(ok:HOk P w H h)(mu:EA (H x))(he:e=x\/H e=some (.own x))(k:∀b u,b≠e->h.get? b=some u->h'.get? b=some u)(heo:∃u,h'.get? e=some u)
  (new:ObjOk P w (upd H x o') h' x o'):HOk P w (upd H x o') h':=fun b u q=>by
 have nown:∀c y,H c=some (.own y)->c≠x:=fun c y r z=>by subst z;rw [r] at mu;exact mu
 have ntup:∀c xs,H c=some (.tup xs)->c≠x:=fun c xs r z=>by subst z;rw [r] at mu;exact mu
 by_cases hb:b=x
 ·subst hb;rw [upd_same] at q;cases q;exact new
 ·rw [upd_ne hb] at q
  by_cases hbe:b=e
  ·have q':H b=some (.own x):=by
    rcases he with z|z
    ·exact absurd (hbe.trans z) hb
    ·rw [hbe];exact z
   rw [q] at q';cases q';obtain ⟨v,hv⟩:=heo;exact ⟨v,by rw [hbe];exact hv⟩
  ·refine (ok b u q).stay (fun c v hc r=>k c v ?_ r) (fun c r=>by rw [upd_ne (nown c b r)];exact r) fun c xs r=>by rw [upd_ne (ntup c xs r)];exact r
   rcases hc with rfl|hc
   ·exact hbe
   ·rintro rfl
    rcases he with z|z
    ·exact nown c b hc z
    ·rw [hc] at z;cases z;exact hb rfl
end
structure Un(fs ex:List Addr)(H H':Hp)(h h':Heap):Prop where
 keep:∀b o,h.get? b=some o->H b=none->b∉fs->b∉ex->h'.get? b=some o
 slot:∀b o,h.get? b=some o->H b=none->b∈fs->b∉ex->∃sl,h'.get? b=some { o with slots:=sl }
 free:∀b o,h.get? b=some o->H b=none->b∉ex->H' b=none
 there:∀b o,h.get? b=some o->b∉ex->∃o',h'.get? b=some o'
 tups:∀b xs,H b=some (.tup xs)->H' b=some (.tup xs)
 frzs:∀b o u,H b=some (.frz o u)->H' b=some (.frz o u)
 tbls:∀b ps,H b=some (.tbl ps)->∃more,H' b=some (.tbl (ps++more))
section
variable {fs fs' ex ex':List Addr}{H H1 H2:Hp}{h h1 h2 h':Heap}{a x e:Addr}{o:HO}
theorem Un.any(u:Un fs ex H H1 h h1){b:Addr}{ob:Obj}(q:h.get? b=some ob)(n:H b=none)(hx:b∉ex):∃sl,h1.get? b=some { ob with slots:=sl }:=by
 by_cases hb:b∈fs
 ·exact u.slot b ob q n hb hx
 ·exact ⟨ob.slots,u.keep b ob q n hb hx⟩
theorem Un.kept(k:∀b u,h.get? b=some u->h'.get? b=some u):Un fs ex H H h h':=
 ⟨fun b ob q _ _ _=>k b ob q,fun b ob q _ _ _=>⟨ob.slots,k b ob q⟩,fun _ _ _ n _=>n,fun b ob q _=>⟨ob,k b ob q⟩,fun _ _ q=>q,fun _ _ _ q=>q,fun _ ps q=>⟨#[],by rw [q];simp⟩⟩
theorem Un.refl:Un fs ex H H h h:=Un.kept fun _ _ q=>q
theorem Un.laid(k:∀b u,h.get? b=some u->h'.get? b=some u)(hp:h.objs.size<=a)(hn:H a=none):Un fs ex H (upd H a o) h h' where
 keep:=fun b u q _ _ _=>k b u q
 slot:=fun b u q _ _ _=>⟨u.slots,k b u q⟩
 free:=fun b u q n _=>by rw [upd_ne (Nat.ne_of_lt (Nat.lt_of_lt_of_le (Heap.lt_size q) hp))];exact n
 there:=fun b u q _=>⟨u,k b u q⟩
 tups:=fun b xs q=>by rw [upd_ne (br q hn)];exact q
 frzs:=fun b u xs q=>by rw [upd_ne (br q hn)];exact q
 tbls:=fun b ps q=>⟨#[],by rw [upd_ne (br q hn),q];simp⟩
theorem Un.write(mu:EA (H x))(he:e=x\/H e=some (.own x))(k:∀b u,b≠e->h.get? b=some u->h'.get? b=some u)(heo:∃u,h'.get? e=some u):Un fs ex H (upd H x o) h h':=by
 have hx:∀b,H b=none->b≠x:=fun b n z=>by subst z;rw [n] at mu;exact mu
 have hb:∀b,H b=none->b≠e:=fun b n z=>by
  subst z;rcases he with r|r
  ·exact hx b n r
  ·rw [n] at r;cases r
 have hm:∀b u,H b=some u->¬EA (some u)->b≠x:=fun b u q nm z=>by subst z;rw [q] at mu;exact nm mu
 refine ⟨fun b u q n _ _=>k b u (hb b n) q,fun b u q n _ _=>⟨u.slots,k b u (hb b n) q⟩,fun b u q n _=>by rw [upd_ne (hx b n)];exact n,fun b u q _=>?_,
  fun b xs q=>by rw [upd_ne (hm b _ q fun z=>z)];exact q,fun b u xs q=>by rw [upd_ne (hm b _ q fun z=>z)];exact q,fun b ps q=>⟨#[],by rw [upd_ne (hm b _ q fun z=>z),q];simp⟩⟩
 by_cases hbe:b=e
 ·subst hbe;exact heo
 ·exact ⟨u,k b u hbe q⟩
end
def trk(h:Heap)(H:Hp):List Addr:=(List.range h.objs.size).filter fun a=>(H a).isSome
def lE(h:Heap)(H:Hp):Heap:=W.hideAll h (trk h H)
theorem tm(h:Heap)(H:Hp):(lE h H).objs.size=h.objs.size:=W.hideAll_size _ _
theorem wX{h:Heap}{H:Hp}{b:Addr}{o:Obj}(e:h.get? b=some o)(n:H b=none):(lE h H).get? b=some o:=
 W.hideAll_get _ e fun hm=>by
  have q:(H b).isSome=true:=(List.mem_filter.mp hm).2;rw [n] at q;simp at q
theorem yK{h:Heap}{H:Hp}{b:Addr}{o:Obj}(e:(lE h H).get? b=some o):h.get? b=some o/\H b=none:=by
 have e':h.get? b=some o:=W.of_hideAll (trk h H) e;refine ⟨e',?_⟩;cases q:H b with
 |none=>rfl
 |some x=>
  have hm:b∈trk h H:=List.mem_filter.mpr ⟨List.mem_range.mpr (Heap.lt_size e'),by simp [q]⟩
  have z:(lE h H).get? b=none:=W.hideAll_none (trk h H) hm;rw [z] at e;cases e
end L2
namespace L2
open PySem PySem.Spec PyProof.Rows
structure Mod(K:W.Frag)(mg:Str->Option Value)(base:Heap):Prop where
 kin:K.In base
 glob:base.Ns mainGlobals mg
 blt:∃mb,base.Ns builtinsNs mb/\∀x:Str,x≠"__name__"->mb x=bootBuiltins x
 nolimit:base.NoLimit
structure Cx where
 prog:Program
 w:World
 K:W.Frag
 mg:Str->Option Value
 base:Heap
 A:Around
 N:List Str
 s₀:Shared
 H₀:Hp
 env:Env
 outer:List Env
 stack:List Env
 ex:List Addr
 fn:Str->Bool
 calm:Bool
 pn:List (Addr×Obj)
 xe:Value->Shared->Prop
def fA(l:List Env):List Addr:=l.filterMap (·.frame)
abbrev Cx.fs(X:Cx):List Addr:=fA X.outer
def Eh(sc:Scope)(x:Str):Prop:=sc.names.lookup x=some .local\/sc.names.lookup x=some .cell\/sc.names.lookup x=some .free
def AI(sc:Scope)(x:Str):Prop:=sc.names.lookup x=some .local\/sc.names.lookup x=some .cell
def Look(env:Env)(h:Heap)(m:Str->Option Value)(x:Str)(u:Value):Prop:=
 (env.kindOf x=some .local/\m x=some u)\/((env.kindOf x=some .cell\/env.kindOf x=some .free)/\∃c,env.cells.lookup x=some c/\h.IsCell c (some u))
structure Cx.Ok(X:Cx):Prop where
 mod:Mod X.K X.mg X.base
 kind:X.env.scope.kind=.function
 glob:X.env.globals=mainGlobals
 blt:X.env.builtins=builtinsNs
 above:X.s₀.heap.objs.size<=X.env.locals
 inj:∀x y c,X.env.cells.lookup x=some c->X.env.cells.lookup y=some c->x=y
 has:∀x,(X.env.kindOf x=some .cell\/X.env.kindOf x=some .free)->∃c,X.env.cells.lookup x=some c
 cab:∀x c,X.fn x=true->X.env.cells.lookup x=some c->X.s₀.heap.objs.size<=c
 hd:X.calm=true->X.A.handled=none
 frames:X.A.frames=some X.stack
 stk:X.stack=X.outer\/(X.stack=X.env::X.outer/\X.env.frame=some X.env.locals)
 exf:∀b∈X.ex,b≠X.env.locals/\∀x c,X.env.cells.lookup x=some c->c≠b
 bs:∀b o,X.base.get? b=some o->X.s₀.heap.get? b=some o/\X.H₀ b=none
 bsz:X.base.objs.size<=X.s₀.heap.objs.size
 noex:∀b o,X.base.get? b=some o->b∉X.ex
 exfs:∀b∈X.ex,b∉X.fs
 funs:X.s₀.heap.FunFrames X.base X.outer
 frf:∀b∈X.fs,X.H₀ b=none
structure Inv(X:Cx)(pins:List (Addr×Obj))(σ:List (Option V))(H:Hp)(s:Shared):Prop where
 ok:X.Ok
 os:s.os=X.s₀.os
 bare:AllBare s.gens
 base:Un X.fs X.ex X.H₀ H X.s₀.heap s.heap
 loc:∃m,s.heap.Ns X.env.locals m/\∀(i:Nat) (x:Str) (v:V),X.N[i]?=some x->σ[i]?=some (some v)->Eh X.env.scope x->∃u,RelV v u/\Look X.env s.heap m x u
 cell:∀x c,X.env.cells.lookup x=some c->∃v,s.heap.IsCell c v
 free:H X.env.locals=none
 freeC:∀x c,X.env.cells.lookup x=some c->H c=none
 pin:∀p∈X.pn++pins,s.heap.get? p.1=some p.2/\H p.1=none/\p.1≠X.env.locals/\p.1∉X.fs/\∀v,p.2.data≠.cell v
 hok:HOk X.prog X.w H s.heap
 len:σ.length=X.N.length
section
variable {X:Cx}{pins:List (Addr×Obj)}{σ:List (Option V)}{H H':Hp}{s:Shared}{h':Heap}
theorem Cx.Ok.nofr(ok:X.Ok){b:Addr}{o:Obj}(e:X.base.get? b=some o):b∉X.fs:=fun hb=>by
 have:=(ok.funs.mem hb).1;rw [e] at this;cases this
theorem Inv.bs(I:Inv X pins σ H s):∀b o,X.base.get? b=some o->s.heap.get? b=some o/\H b=none:=fun b o e=>
 ⟨I.base.keep b o (I.ok.bs b o e).1 (I.ok.bs b o e).2 (I.ok.nofr e) (I.ok.noex b o e),I.base.free b o (I.ok.bs b o e).1 (I.ok.bs b o e).2 (I.ok.noex b o e)⟩
theorem Inv.bk(I:Inv X pins σ H s):∀b o,X.base.get? b=some o->s.heap.get? b=some o:=fun b o e=>(I.bs b o e).1
theorem Inv.mod(I:Inv X pins σ H s):Mod X.K X.mg X.base:=I.ok.mod
theorem Inv.kIn(I:Inv X pins σ H s):X.K.In s.heap:=I.ok.mod.kin.keeps I.bk
theorem Inv.lt(I:Inv X pins σ H s):X.env.locals<s.heap.objs.size:=let ⟨_,hn,_⟩:=I.loc;hn.lt
theorem Inv.sz(I:Inv X pins σ H s):X.s₀.heap.objs.size<=s.heap.objs.size:=Nat.le_trans I.ok.above (Nat.le_of_lt I.lt)
theorem Inv.nofs(I:Inv X pins σ H s){a:Addr}(h:s.heap.objs.size<=a):a∉X.fs:=fun hb=>by
 obtain ⟨_,o,ho,_⟩:=I.ok.funs.mem hb;exact absurd (Nat.lt_of_lt_of_le (Heap.lt_size ho) (Nat.le_trans I.sz h)) (Nat.lt_irrefl _)
theorem Inv.cne(I:Inv X pins σ H s):∀x c,X.env.cells.lookup x=some c->c≠X.env.locals:=fun x c e z=>by
 obtain ⟨v,o,ho,hd⟩:=I.cell x c e;obtain ⟨m,⟨o',es,ep,ho',hd',_⟩,_⟩:=I.loc;rw [z,ho'] at ho;cases ho;rw [hd'] at hd;cases hd
theorem Inv.funs(I:Inv X pins σ H s):s.heap.FunFrames X.base X.outer:=by
 have all:∀(l:List Env),(∀b∈fA l,b∈X.fs)->X.s₀.heap.FunFrames X.base l->s.heap.FunFrames X.base l:=by
  intro l
  induction l with
  |nil=>intro _ _;trivial
  |cons env r ih=>
   intro hs hl;obtain ⟨hk,⟨L,o,hf,hn,ho,hd⟩,hr⟩:=hl;have hL:L∈X.fs:=hs L (by unfold fA;rw [List.filterMap_cons,hf];exact List.mem_cons_self)
   obtain ⟨sl,e⟩:=I.base.slot L o ho (I.ok.frf L hL) hL fun z=>I.ok.exfs L z hL;exact ⟨hk,⟨L,_,hf,hn,e,hd⟩,ih (fun b hb=>hs b (by unfold fA;rw [List.filterMap_cons,hf];exact List.mem_cons_of_mem _ hb)) hr⟩
 exact all X.outer (fun _ hb=>hb) I.ok.funs
theorem Inv.stack(I:Inv X pins σ H s):s.heap.FunFrames X.base X.stack:=by
 rcases I.ok.stk with e|⟨e,hf⟩
 ·rw [e];exact I.funs
 ·rw [e]
  obtain ⟨m,hn,_⟩:=I.loc;refine .cons (by rw [I.ok.kind];decide) hf hn ?_ I.funs
  exact Heap.get?_none_of_le (Nat.le_trans I.ok.bsz I.ok.above)
theorem Inv.stkSub(I:Inv X pins σ H s):∀b∈fA X.stack,b∈X.env.locals::X.fs:=fun b hb=>by
 rcases I.ok.stk with e|⟨e,hf⟩
 ·rw [e] at hb;exact List.mem_cons_of_mem _ hb
 ·rw [e] at hb
  unfold fA at hb;rw [List.filterMap_cons,hf] at hb;exact hb
theorem Inv.stkFree(I:Inv X pins σ H s):∀b∈fA X.stack,H b=none:=fun b hb=>by
 rcases List.mem_cons.mp (I.stkSub b hb) with e|hb
 ·rw [e];exact I.free
 ·obtain ⟨_,o,ho,_⟩:=I.ok.funs.mem hb
  exact I.base.free b o ho (I.ok.frf b hb) fun z=>I.ok.exfs b z hb
theorem Inv.step{g':Array GenState}{t':Nat}{d':Drawn}{ch:List Addr}(I:Inv X pins σ H s)
  (hch:∀b∈ch,(b∈X.ex\/X.s₀.heap.objs.size<=b)/\b≠X.env.locals/\(∀x c,X.env.cells.lookup x=some c->c≠b)/\∀p∈X.pn++pins,p.1≠b)
  (keep:∀b o,b≠X.env.locals->b∉X.fs->b∉ch->s.heap.get? b=some o->H b=none->h'.get? b=some o)
  (slot:∀b o,b≠X.env.locals->b∈X.fs->b∉ch->s.heap.get? b=some o->H b=none->∃sl,h'.get? b=some { o with slots:=sl }) (free:∀b o,b∉ch->s.heap.get? b=some o->H b=none->H' b=none)
  (there:∀b o,b∉ch->s.heap.get? b=some o->∃o',h'.get? b=some o')
  (tups:∀b xs,H b=some (.tup xs)->H' b=some (.tup xs)) (frzs:∀b o u,H b=some (.frz o u)->H' b=some (.frz o u)) (tbls:∀b ps,H b=some (.tbl ps)->∃more,H' b=some (.tbl (ps++more)))
  (ns:∀m,s.heap.Ns X.env.locals m->h'.Ns X.env.locals m) (hok:HOk X.prog X.w H' h') (hg:AllBare g'):
  Inv X pins σ H' { s with heap:=h',gens:=g',drawn:=d',toks:=t' }:=by
 have neL:∀b o,X.s₀.heap.get? b=some o->b≠X.env.locals:=fun b o e=>Nat.ne_of_lt (Nat.lt_of_lt_of_le (Heap.lt_size e) I.ok.above);have neC:∀b o,X.s₀.heap.get? b=some o->b∉X.ex->b∉ch:=fun b o e hx hb=>by
  rcases (hch b hb).1 with z|z
  ·exact hx z
  ·exact absurd (Nat.lt_of_lt_of_le (Heap.lt_size e) z) (Nat.lt_irrefl _)
 have cellK:∀x c,X.env.cells.lookup x=some c->∀v,s.heap.IsCell c v->h'.IsCell c v:=fun x c e v ⟨o,ho,hd⟩=>by
  have nch:c∉ch:=fun z=>(hch c z).2.2.1 x c e rfl
  by_cases hc:c∈X.fs
  ·obtain ⟨sl,q⟩:=slot c o (I.cne x c e) hc nch ho (I.freeC x c e)
   exact ⟨_,q,hd⟩
  ·exact ⟨o,keep c o (I.cne x c e) hc nch ho (I.freeC x c e),hd⟩
 refine ⟨I.ok,I.os,hg,⟨fun b o e n hb hx=>?_,fun b o e n hb hx=>?_,fun b o e n hx=>?_,fun b o e hx=>?_,fun b xs e=>tups b xs (I.base.tups b xs e),fun b o xs e=>frzs b o xs (I.base.frzs b o xs e),fun b ps e=>?_⟩,?_,fun x c e=>?_,?_,fun x c e=>?_,fun p hp=>?_,hok,I.len⟩
 ·exact keep b o (neL b o e) hb (neC b o e hx) (I.base.keep b o e n hb hx) (I.base.free b o e n hx)
 ·obtain ⟨sl,e1⟩:=I.base.slot b o e n hb hx
  obtain ⟨sl',e2⟩:=slot b _ (neL b o e) hb (neC b o e hx) e1 (I.base.free b o e n hx);exact ⟨sl',e2⟩
 ·obtain ⟨o',e1⟩:=I.base.there b o e hx
  exact free b o' (neC b o e hx) e1 (I.base.free b o e n hx)
 ·obtain ⟨o',e1⟩:=I.base.there b o e hx
  exact there b o' (neC b o e hx) e1
 ·obtain ⟨m1,e1⟩:=I.base.tbls b ps e
  obtain ⟨m2,e2⟩:=tbls b _ e1;exact ⟨m1++m2,by rw [e2,Array.append_assoc]⟩
 ·obtain ⟨m,hn,hl⟩:=I.loc
  refine ⟨m,ns m hn,fun i x v e1 e2 e3=>?_⟩;obtain ⟨u,r,l⟩:=hl i x v e1 e2 e3;refine ⟨u,r,?_⟩;rcases l with l|⟨k,c,e,z⟩
  ·exact .inl l
  ·exact .inr ⟨k,c,e,cellK x c e _ z⟩
 ·obtain ⟨v,z⟩:=I.cell x c e
  exact ⟨v,cellK x c e v z⟩
 ·obtain ⟨m,⟨o,_,_,ho,_⟩,_⟩:=I.loc
  exact free _ o (fun z=>(hch _ z).2.1 rfl) ho I.free
 ·obtain ⟨v,o,ho,hd⟩:=I.cell x c e
  exact free c o (fun z=>(hch c z).2.2.1 x c e rfl) ho (I.freeC x c e)
 ·obtain ⟨e,n,ne,nf,d⟩:=I.pin p hp
  have nch:p.1∉ch:=fun z=>(hch p.1 z).2.2.2 p hp rfl;exact ⟨keep p.1 p.2 ne nf nch e n,free p.1 p.2 nch e n,ne,nf,d⟩
theorem Inv.un{t':Nat}(I:Inv X pins σ H s)(u:Un X.fs [] H H' s.heap h')(hok:HOk X.prog X.w H' h'):Inv X pins σ H' { s with heap:=h',toks:=t' }:=by
 obtain ⟨m,⟨o,es,ep,ho,r⟩,_⟩:=id I.loc;obtain ⟨sl,hL⟩:=u.any ho I.free (by simp)
 exact I.step (g':=s.gens) (d':=s.drawn) (ch:=[]) (fun _ z=>nomatch z) (fun b o _ hb _ e n=>u.keep b o e n hb (by simp)) (fun b o _ hb _ e n=>u.slot b o e n hb (by simp)) (fun b o _ e n=>u.free b o e n (by simp)) (fun b o _ e=>u.there b o e (by simp)) u.tups u.frzs u.tbls (fun m' hm=>by
  obtain ⟨o',es',ep',ho',r'⟩:=hm;rw [ho] at ho';cases ho';exact ⟨_,es',ep',hL,r'⟩) hok I.bare
theorem Inv.call{g':Array GenState}{t':Nat}{d':Drawn}{ch:List Addr}(I:Inv X pins σ H s)(u:Un (fA X.stack) ch H H' s.heap h')(hok:HOk X.prog X.w H' h')(hg:AllBare g')
  (hch:∀b∈ch,(b∈X.ex\/X.s₀.heap.objs.size<=b)/\b≠X.env.locals/\(∀x c,X.env.cells.lookup x=some c->c≠b)/\∀p∈X.pn++pins,p.1≠b):
  Inv X pins σ H' { s with heap:=h',gens:=g',drawn:=d',toks:=t' }:=by
 obtain ⟨m,⟨o,es,ep,ho,r⟩,_⟩:=id I.loc;obtain ⟨sl,hL⟩:=u.any ho I.free fun z=>(hch _ z).2.1 rfl;exact I.step (ch:=ch) hch (fun b o hL hb hc e n=>u.keep b o e n (fun z=>(List.mem_cons.mp (I.stkSub b z)).elim hL hb) hc) (fun b o _ _ hc e n=>u.any e n hc) (fun b o hc e n=>u.free b o e n hc) (fun b o hc e=>u.there b o e hc) u.tups u.frzs u.tbls (fun m' hm=>by
  obtain ⟨o',es',ep',ho',r'⟩:=hm;rw [ho] at ho';cases ho';exact ⟨_,es',ep',hL,r'⟩) hok hg
theorem Inv.turned{t':Nat}{it:Addr}(I:Inv X pins σ H s)(k:∀b o,b≠it->s.heap.get? b=some o->h'.get? b=some o)(hn:H it=none)(hL:it≠X.env.locals)
  (h1:it∈X.ex\/X.s₀.heap.objs.size<=it) (h2:∀x c,X.env.cells.lookup x=some c->c≠it) (h3:∀p∈X.pn++pins,p.1≠it):Inv X pins σ H { s with heap:=h',toks:=t' }:=by
 have nit:∀b u,H b=some u->b≠it:=fun b u e z=>by rw [z,hn] at e;cases e
 refine I.step (g':=s.gens) (d':=s.drawn) (ch:=[it]) (fun b hb=>?_) (fun b o _ _ hc e _=>k b o (fun z=>hc (by simp [z])) e) (fun b o _ _ hc e _=>⟨o.slots,k b o (fun z=>hc (by simp [z])) e⟩) (fun _ _ _ _ n=>n)
  (fun b o hc e=>⟨o,k b o (fun z=>hc (by simp [z])) e⟩) (fun _ _ e=>e) (fun _ _ _ e=>e) (fun b ps e=>⟨#[],by rw [e];simp⟩) (fun m hm=>?_) (fun b u e=>?_) I.bare
 ·have e:b=it:=by simpa using hb
  subst e;exact ⟨h1,hL,h2,h3⟩
 ·obtain ⟨o,es,ep,ho,r⟩:=hm
  exact ⟨o,es,ep,k _ o (Ne.symm hL) ho,r⟩
 ·refine (I.hok b u e).stay (fun c v hc q=>k c v ?_ q) (fun _ q=>q) fun _ _ q=>q
  rcases hc with z|z
  ·rw [z];exact nit b u e
  ·exact nit c _ z
theorem Inv.tok(I:Inv X pins σ H s)(t:Nat):Inv X pins σ H { s with toks:=t }:=I.un (h':=s.heap) (t':=t) Un.refl I.hok
theorem Inv.kept{t':Nat}(I:Inv X pins σ H s)(k:∀b u,s.heap.get? b=some u->h'.get? b=some u):Inv X pins σ H { s with heap:=h',toks:=t' }:=I.un (Un.kept k) (I.hok.kept k)
theorem Inv.laid{a:Addr}{o:HO}{t':Nat}(I:Inv X pins σ H s)(k:∀b u,s.heap.get? b=some u->h'.get? b=some u)(hp:s.heap.objs.size<=a)(new:ObjOk X.prog X.w (upd H a o) h' a o):
  Inv X pins σ (upd H a o) { s with heap:=h',toks:=t' }:=I.un (Un.laid k hp (I.hok.fresh hp)) (I.hok.laid k hp new)
theorem Inv.write{x e:Addr}{o:HO}{t':Nat}(I:Inv X pins σ H s)(mu:EA (H x))(he:e=x\/H e=some (.own x))(k:∀b u,b≠e->s.heap.get? b=some u->h'.get? b=some u)(heo:∃u,h'.get? e=some u)
  (new:ObjOk X.prog X.w (upd H x o) h' x o):Inv X pins σ (upd H x o) { s with heap:=h',toks:=t' }:=I.un (Un.write mu he k heo) (I.hok.write mu he k heo new)
theorem Inv.pins_of{pins':List (Addr×Obj)}(I:Inv X pins σ H s)(h:∀p∈pins',s.heap.get? p.1=some p.2/\H p.1=none/\p.1≠X.env.locals/\p.1∉X.fs/\∀v,p.2.data≠.cell v):Inv X pins' σ H s:=
 ⟨I.ok,I.os,I.bare,I.base,I.loc,I.cell,I.free,I.freeC,fun p hp=>(List.mem_append.mp hp).elim (fun z=>I.pin p (List.mem_append_left _ z)) (h p),I.hok,I.len⟩
theorem oA{N:List Str}(hN:N.Nodup){i j:Nat}{x:Str}(a:N[i]?=some x)(b:N[j]?=some x):i=j:=by
 obtain ⟨h1,e1⟩:=List.getElem?_eq_some_iff.mp a;obtain ⟨h2,e2⟩:=List.getElem?_eq_some_iff.mp b;exact (List.getElem_inj hN).mp (e1.trans e2.symm)
theorem tw{M:Model}{A:Around}{E:Value->Shared->Prop}{i:Nat}{x:Str}{v:V}{u:Value}{Q:Unit->Shared->Prop}(I:Inv X pins σ H s)(hN:X.N.Nodup)(hi:X.N[i]?=some x)(hx:AI X.env.scope x)(r:RelV v u)
  (h:∀s',Inv X pins (σ.set i (some v)) H s'->(∃a,Heap.SameBut a s.heap s'.heap/\(a=X.env.locals\/X.env.cells.lookup x=some a))->Q () s') (hf:X.fn x=true\/X.env.scope.names.lookup x=some .local:=by first|exact .inl rfl|exact .inr rfl|assumption):wpAny M A (storeName X.env x u) Q E s:=by
 obtain ⟨m,hn,hl⟩:=id I.loc;have hcls:(X.env.scope.kind==.class||(X.env.scope.kind==.module&&X.env.locals != X.env.globals))=false:=by rw [I.ok.kind];rfl
 have hiσ:i<σ.length:=by rw [I.len];exact (List.getElem?_eq_some_iff.mp hi).1
 have cne:=I.cne;have tracked:∀{a:Addr} {h':Heap},(∃o,s.heap.get? a=some o/\H a=none)->Heap.SameBut a s.heap h'->HOk X.prog X.w H h':=fun {a h'} ha hs b ob e=>by
  obtain ⟨_,_,hfree⟩:=ha;refine (I.hok b ob e).stay (fun c w' hc q=>(hs.2 c ?_).trans q) (fun _ q=>q) fun _ _ q=>q
  rintro rfl
  rcases hc with rfl|hc
  ·rw [hfree] at e;cases e
  ·rw [hfree] at hc;cases hc
 rcases hx with hk|hk
 ·refine wpAny_storeName_local hk hn (fun h' hn' hs=>?_) hcls
  obtain ⟨oL,_,_,hoL,_⟩:=id hn;refine h _ ⟨I.ok,I.os,I.bare,⟨fun b o e n hb hx=>?_,fun b o e n hb hx=>?_,I.base.free,fun b o e hx=>?_,I.base.tups,I.base.frzs,I.base.tbls⟩,⟨_,hn',fun j y v' e1 e2 e3=>?_⟩,fun y c e=>?_,I.free,I.freeC,fun p hp=>?_,tracked ⟨oL,hoL,I.free⟩ hs,by simpa using I.len⟩ ⟨_,hs,.inl rfl⟩
  ·exact (hs.2 b (Nat.ne_of_lt (Nat.lt_of_lt_of_le (Heap.lt_size e) I.ok.above))).trans (I.base.keep b o e n hb hx)
  ·obtain ⟨sl,e1⟩:=I.base.slot b o e n hb hx
   exact ⟨sl,(hs.2 b (Nat.ne_of_lt (Nat.lt_of_lt_of_le (Heap.lt_size e) I.ok.above))).trans e1⟩
  ·obtain ⟨o',e1⟩:=I.base.there b o e hx
   exact ⟨o',(hs.2 b (Nat.ne_of_lt (Nat.lt_of_lt_of_le (Heap.lt_size e) I.ok.above))).trans e1⟩
  ·by_cases hj:j=i
   ·subst hj
    rw [hi] at e1;cases e1;rw [List.getElem?_set_self hiσ] at e2;cases e2;exact ⟨u,r,.inl ⟨hk,by simp⟩⟩
   ·rw [List.getElem?_set_ne (Ne.symm hj)] at e2
    obtain ⟨u',r',q⟩:=hl j y v' e1 e2 e3;refine ⟨u',r',?_⟩;rcases q with ⟨k,e⟩|⟨k,c,e,z⟩
    ·refine .inl ⟨k,?_⟩
     have:y≠x:=fun e=>hj (oA hN e1 (e▸hi));simp [this,e]
    ·exact .inr ⟨k,c,e,z.sameBut hs (cne y c e)⟩
  ·obtain ⟨w',z⟩:=I.cell y c e
   exact ⟨w',z.sameBut hs (cne y c e)⟩
  ·obtain ⟨e,n,ne,nf,d⟩:=I.pin p hp
   exact ⟨(hs.2 p.1 ne).trans e,n,ne,nf,d⟩
 ·have hfn:X.fn x=true:=by
   rcases hf with z|z
   ·exact z
   ·rw [z] at hk;cases hk
  obtain ⟨c,hc⟩:=I.ok.has x (.inl hk);obtain ⟨w',z⟩:=I.cell x c hc;refine wpAny_storeName_cell I.ok.kind hk hc z (fun h' hc' hs=>?_);obtain ⟨oc,hoc,hocd⟩:=id z;refine h { s with heap:=h' } ⟨I.ok,I.os,I.bare,⟨fun b o e n hb hx=>?_,fun b o e n hb hx=>?_,I.base.free,fun b o e hx=>?_,I.base.tups,I.base.frzs,I.base.tbls⟩,⟨m,hn.sameBut hs (Ne.symm (cne x c hc)),fun j y v' e1 e2 e3=>?_⟩,fun y c' e=>?_,I.free,I.freeC,fun p hp=>?_,tracked ⟨oc,hoc,I.freeC x c hc⟩ hs,by simpa using I.len⟩ ⟨c,hs,.inr hc⟩
  ·exact (hs.2 b (Nat.ne_of_lt (Nat.lt_of_lt_of_le (Heap.lt_size e) (I.ok.cab x c hfn hc)))).trans (I.base.keep b o e n hb hx)
  ·obtain ⟨sl,e1⟩:=I.base.slot b o e n hb hx
   exact ⟨sl,(hs.2 b (Nat.ne_of_lt (Nat.lt_of_lt_of_le (Heap.lt_size e) (I.ok.cab x c hfn hc)))).trans e1⟩
  ·obtain ⟨o',e1⟩:=I.base.there b o e hx
   exact ⟨o',(hs.2 b (Nat.ne_of_lt (Nat.lt_of_lt_of_le (Heap.lt_size e) (I.ok.cab x c hfn hc)))).trans e1⟩
  ·by_cases hj:j=i
   ·subst hj
    rw [hi] at e1;cases e1;rw [List.getElem?_set_self hiσ] at e2;cases e2;exact ⟨u,r,.inr ⟨.inl hk,c,hc,hc'⟩⟩
   ·rw [List.getElem?_set_ne (Ne.symm hj)] at e2
    obtain ⟨u',r',q⟩:=hl j y v' e1 e2 e3;refine ⟨u',r',?_⟩;rcases q with q|⟨k,c',e,z'⟩
    ·exact .inl q
    ·refine .inr ⟨k,c',e,z'.sameBut hs ?_⟩
     rintro rfl
     exact hj (oA hN e1 (I.ok.inj _ _ _ e hc▸hi))
  ·by_cases hcc:c'=c
   ·subst hcc;exact ⟨_,hc'⟩
   ·obtain ⟨w2,z2⟩:=I.cell y c' e
    exact ⟨w2,z2.sameBut hs hcc⟩
  ·obtain ⟨e,n,ne,nf,d⟩:=I.pin p hp
   refine ⟨(hs.2 p.1 ?_).trans e,n,ne,nf,d⟩;intro q;rw [q,hoc] at e;have q':oc=p.2:=Option.some.inj e;exact d w' (by rw [<- q'];exact hocd)
theorem store_ok{M:Model}{A:Around}{E:Value->Shared->Prop}{i:Nat}{x:Str}{v:V}{u:Value}{Q:Unit->Shared->Prop}(I:Inv X pins σ H s)(hN:X.N.Nodup)(hi:X.N[i]?=some x)(hx:AI X.env.scope x)(r:RelV v u)
  (h:∀s',Inv X pins (σ.set i (some v)) H s'->Q () s') (hf:X.fn x=true\/X.env.scope.names.lookup x=some .local:=by first|exact .inl rfl|exact .inr rfl|assumption):wpAny M A (storeName X.env x u) Q E s:=
 tw I hN hi hx r (fun s' I' _=>h s' I') hf
theorem Inv.call'{s':Shared}{ch:List Addr}(I:Inv X pins σ H s)(ho:s'.os=s.os)(u:Un (fA X.stack) ch H H' s.heap s'.heap)(hok:HOk X.prog X.w H' s'.heap)(hg:AllBare s'.gens)
  (hch:∀b∈ch,(b∈X.ex\/X.s₀.heap.objs.size<=b)/\b≠X.env.locals/\(∀x c,X.env.cells.lookup x=some c->c≠b)/\∀p∈X.pn++pins,p.1≠b):Inv X pins σ H' s':=by
 obtain ⟨h',g',d',t',o'⟩:=s';have e:o'=s.os:=ho;subst e;exact I.call (g':=g') (t':=t') (d':=d') u hok hg hch
end
abbrev XK:=Value->Option Addr->Hp->Prop
abbrev St:=List (Option V)
abbrev VK:=V->Hp->Prop
abbrev TE:=St->Hp->VK->Prop
abbrev TT:=St->Hp->(Bool->Hp->Prop)->Prop
abbrev TA:=St->Hp->(List V->Hp->Prop)->Prop
structure Ends where
 nx:St->Hp->Prop
 rt:VK
 bk:St->Hp->Prop:=fun _ _=>False
 ct:St->Hp->Prop:=fun _ _=>False
abbrev TS:=Ends->St->Hp->Prop
inductive EP(X:Cx)(pins:List (Addr×Obj))(σ:St)(Q:VK)(u:Value)(s':Shared):Prop
 |mk (v:V) (H':Hp) (h0:Inv X pins σ H' s') (h1:RelV v u) (h2:Q v H'):EP X pins σ Q u s'
inductive TP(X:Cx)(pins:List (Addr×Obj))(σ:St)(Q:Bool->Hp->Prop)(b:Bool)(s':Shared):Prop
 |mk (H':Hp) (h0:Inv X pins σ H' s') (h1:Q b H'):TP X pins σ Q b s'
inductive AP(X:Cx)(pins:List (Addr×Obj))(σ:St)(Q:List V->Hp->Prop)(us:List Value)(s':Shared):Prop
 |mk (vs:List V) (H':Hp) (h0:Inv X pins σ H' s') (h1:Vals vs us) (h2:Q vs H'):AP X pins σ Q us s'
def SP(X:Cx)(pins:List (Addr×Obj))(D:Ends)(f:Flow)(s':Shared):Prop:=
 match f with
 |.next=>∃σ' H',Inv X pins σ' H' s'/\D.nx σ' H'
 |.brk=>∃σ' H',Inv X pins σ' H' s'/\D.bk σ' H'
 |.cont=>∃σ' H',Inv X pins σ' H' s'/\D.ct σ' H'
 |.ret u=>∃v σ' H',Inv X pins σ' H' s'/\RelV v u/\D.rt v H'
def PE(X:Cx)(e:Expr)(t:TE):Prop:=
 ∀(pins:List (Addr×Obj)) (s:Shared) (σ:St) (H:Hp) (Q:VK),Inv X pins σ H s->t σ H Q->wpAny (model X.prog X.w) X.A (eval e X.env) (EP X pins σ Q) X.xe s
def PT(X:Cx)(e:Expr)(t:TT):Prop:=
 ∀(pins:List (Addr×Obj)) (s:Shared) (σ:St) (H:Hp) (Q:Bool->Hp->Prop),Inv X pins σ H s->t σ H Q->wpAny (model X.prog X.w) X.A (isTrue e X.env (eval e X.env)) (TP X pins σ Q) X.xe s
def PW(X:Cx)(e:Expr)(t:TT):Prop:=
 ∀(whole:Sem Value) (pins:List (Addr×Obj)) (s:Shared) (σ:St) (H:Hp) (Q:Bool->Hp->Prop),Inv X pins σ H s->t σ H Q->wpAny (model X.prog X.w) X.A (isTrue e X.env whole) (TP X pins σ Q) X.xe s
theorem G2{X:Cx}{e:Expr}{t:TT}(h:PW X e t):PT X e t:=h _
def PA(X:Cx)(es:List Expr)(t:TA):Prop:=
 ∀(pos:Pos) (pins:List (Addr×Obj)) (s:Shared) (σ:St) (H:Hp) (Q:List V->Hp->Prop),Inv X pins σ H s->t σ H Q->wpAny (model X.prog X.w) X.A (spliced (backTo pos (starEach es X.env))) (AP X pins σ Q) X.xe s
def PS(X:Cx)(st:Stmt)(t:TS):Prop:=
 ∀(pins:List (Addr×Obj)) (s:Shared) (σ:St) (H:Hp) (D:Ends),Inv X pins σ H s->t D σ H->wpAny (model X.prog X.w) X.A (exec st X.env) (SP X pins D) X.xe s
def qW(X:Cx)(st:List Stmt)(t:TS):Prop:=
 ∀(pins:List (Addr×Obj)) (s:Shared) (σ:St) (H:Hp) (D:Ends),Inv X pins σ H s->t D σ H->wpAny (model X.prog X.w) X.A (execs st X.env) (SP X pins D) X.xe s
theorem thn{α:Type}{t:Sem α}{Q Q':α->Shared->Prop}{M:Model}{A:Around}{E:Value->Shared->Prop}{s:Shared}(h:wpAny M A t Q E s)(hQ:∀a s,Q a s->Q' a s):wpAny M A t Q' E s:=wpAny_mono h hQ fun _ _ x=>x
end L2
namespace L2
open PySem PySem.Spec PyProof.Rows
section
variable {X:Cx}
theorem bin{a b:Expr}{ta tb:TE}(ha:PE X a ta)(hb:PE X b tb){pins:List (Addr×Obj)}{s:Shared}{σ:St}{H:Hp}{R:V->V->Hp->Prop}(I:Inv X pins σ H s)(h:ta σ H fun x H1=>tb σ H1 fun y H2=>R x y H2)
  {α:Type} {Q:α->Shared->Prop} {f:Value->Value->Sem α}
  (hf:∀v u s2 x y H2,Inv X pins σ H2 s2->RelV x v->RelV y u->R x y H2->wpAny (model X.prog X.w) X.A (f v u) Q X.xe s2):
  wpAny (model X.prog X.w) X.A (eval a X.env) (fun v s₁=>wpAny (model X.prog X.w) X.A (eval b X.env) (fun u s₂=>wpAny (model X.prog X.w) X.A (f v u) Q X.xe s₂) X.xe s₁) X.xe s:=by
 refine thn (ha pins s σ H _ I h) fun v s1 ⟨x,H1,I1,r1,q1⟩=>?_;refine thn (hb pins s1 σ H1 _ I1 q1) fun u s2 ⟨y,H2,I2,r2,q2⟩=>?_;exact hf v u s2 x y H2 I2 r1 r2 q2
def tVar(i:Nat):TE:=fun σ H Q=>∃v,σ[i]?=some (some v)/\Q v H
def tC(v:V):TE:=fun _ H Q=>Q v H
theorem Eb{i:Nat}{x:Str}{pos:Pos}(hN:X.N[i]?=some x)(hv:Eh X.env.scope x)(hd:(x==("__debug__":Str))=false:=by decide)(hcd:(x==("__classdict__":Str))=false:=by decide):PE X (.Name x pos) (tVar i):=by
 intro pins s σ H Q I h;obtain ⟨v,e,h⟩:=h;obtain ⟨m,hn,hl⟩:=I.loc;obtain ⟨u,r,l⟩:=hl i x v hN e hv;have fin:EP X pins σ Q u s:=⟨v,H,I,r,h⟩;rcases l with ⟨hk,hm⟩|⟨hk,c,hc,hcell⟩
 ·exact wpAny_Name (wpAny_loadName_local I.ok.kind hk hn hm fin) hd
 ·rcases hk with hk|hk
  ·exact wpAny_Name (wpAny_loadName_cell I.ok.kind hk hc hcell fin) hd
  ·exact wpAny_Name (wpAny_loadName_free I.ok.kind hk hc hcell fin hcd) hd
theorem Bb{i j pos}:PE X (.Constant (.int i) j pos) (tC (.int i)):=fun _ _ _ H _ I h=>wpAny_Constant_int ⟨.int i,H,I.tok _,⟨_,rfl⟩,h⟩
theorem FE{b j pos}:PE X (.Constant (.bool b) j pos) (tC (.bl b)):=fun _ _ _ H _ I h=>Constant_bool ⟨.bl b,H,I,rfl,h⟩
theorem CG{j pos}:PE X (.Constant .none j pos) (tC .non):=fun _ _ _ H _ I h=>Constant_none ⟨.non,H,I,rfl,h⟩
theorem tX{x j pos}:PE X (.Constant (.str x) j pos) (tC (.str x)):=fun _ _ _ H _ I h=>Calls.Constant_str ⟨.str x,H,I.tok _,⟨_,rfl⟩,h⟩
def Gl(X:Cx)(x:Str):Prop:=X.env.kindOf x=some .globalImplicit
theorem ld_glob{E:Value->Shared->Prop}{pins:List (Addr×Obj)}{s:Shared}{σ:St}{H:Hp}{x:Str}{u:Value}{pos:Pos}{Q:Value->Shared->Prop}(I:Inv X pins σ H s)(hg:Gl X x)(hm:X.mg x=some u)(h:Q u s)
  (hd:(x==("__debug__":Str))=false:=by decide):wpAny (model X.prog X.w) X.A (eval (.Name x pos) X.env) Q E s:=
 Calls.Name_function_global I.ok.kind hg (Calls.loadGlobal_global (by rw [I.ok.glob];exact I.mod.glob.keeps I.bk) hm h) hd
theorem ld_blt{E:Value->Shared->Prop}{pins:List (Addr×Obj)}{s:Shared}{σ:St}{H:Hp}{x:Str}{u:Value}{pos:Pos}{Q:Value->Shared->Prop}(I:Inv X pins σ H s)(hg:Gl X x)(hm:X.mg x=none)(hv:bootBuiltins x=some u)(h:Q u s)
  (hn:x≠"__name__":=by decide) (hd:(x==("__debug__":Str))=false:=by decide):wpAny (model X.prog X.w) X.A (eval (.Name x pos) X.env) Q E s:=by
 obtain ⟨mb,h1,h2⟩:=I.mod.blt;exact Calls.Name_function_global I.ok.kind hg (Calls.loadGlobal_builtin (by rw [I.ok.glob];exact I.mod.glob.keeps I.bk) hm (by rw [I.ok.blt];exact h1.keeps I.bk) ((h2 x hn).trans hv) h) hd
theorem za{x:Str}{v:V}{u:Value}{pos:Pos}(hg:Gl X x)(hm:X.mg x=some u)(r:RelV v u)(hd:(x==("__debug__":Str))=false:=by decide):PE X (.Name x pos) (tC v):=
 fun _ _ _ H _ I h=>ld_glob I hg hm ⟨v,H,I,r,h⟩ hd
theorem y0{x:Str}{v:V}{u:Value}{pos:Pos}(hg:Gl X x)(hm:X.mg x=none)(hv:bootBuiltins x=some u)(r:RelV v u)(hn:x≠"__name__":=by decide)(hd:(x==("__debug__":Str))=false:=by decide):PE X (.Name x pos) (tC v):=
 fun _ _ _ H _ I h=>ld_blt I hg hm hv ⟨v,H,I,r,h⟩ hn hd
variable {a b:Expr}{ta tb:TE}{pos:Pos}
variable {tA tB':TT}{rest:List Expr}
def tAnd(t u:TT):TT:=fun σ H Q=>t σ H fun c H1=>if c=true then u σ H1 Q else Q false H1
def tOr(t u:TT):TT:=fun σ H Q=>t σ H fun c H1=>if c=true then Q true H1 else u σ H1 Q
def tNot(t:TT):TT:=fun σ H Q=>t σ H fun c H1=>Q (!c) H1
theorem yI(ha:PT X a tA):PW X (.BoolOp .And [a] pos) tA:=by
 intro wh pins s σ H Q I h;refine isTrue_and (thn (ha pins s σ H Q I h) fun c s1 e=>?_);cases c with
 |true=>exact isTrue_and_nil e
 |false=>exact e
theorem B_(ha:PT X a tA):PW X (.BoolOp .Or [a] pos) tA:=by
 intro wh pins s σ H Q I h;refine isTrue_or (thn (ha pins s σ H Q I h) fun c s1 e=>?_);cases c with
 |false=>exact isTrue_or_nil e
 |true=>exact e
theorem Da(ha:PT X a tA)(hb:PW X (.BoolOp .And (b::rest) pos) tB'):PW X (.BoolOp .And (a::b::rest) pos) (tAnd tA tB'):=by
 intro wh pins s σ H Q I h;refine isTrue_and (thn (ha pins s σ H _ I h) fun c s1 ⟨H1,I1,q1⟩=>?_);cases c with
 |true=>exact hb wh pins s1 σ H1 Q I1 q1
 |false=>exact ⟨H1,I1,q1⟩
theorem ES(ha:PT X a tA)(hb:PW X (.BoolOp .Or (b::rest) pos) tB'):PW X (.BoolOp .Or (a::b::rest) pos) (tOr tA tB'):=by
 intro wh pins s σ H Q I h;refine isTrue_or (thn (ha pins s σ H _ I h) fun c s1 ⟨H1,I1,q1⟩=>?_);cases c with
 |true=>exact ⟨H1,I1,q1⟩
 |false=>exact hb wh pins s1 σ H1 Q I1 q1
theorem Ce(ha:PT X a tA):PT X (.UnaryOp .Not a pos) (tNot tA):=by
 intro pins s σ H Q I h;exact isTrue_not (wpAny_mono (ha pins s σ H (fun c H1=>Q (!c) H1) I h) (fun c s' z=>by cases z with|mk a b d=>exact ⟨a,b,d⟩) fun _ _ e=>e)
def FL(ta tb:TE):TE:=fun σ H Q=>ta σ H fun x H1=>∃c,x=.bl c/\if c=true then tb σ H1 Q else Q (.bl false) H1
def Fr(ta:TE):TE:=fun σ H Q=>ta σ H fun x H1=>∃c,x=.bl c/\Q (.bl (!c)) H1
theorem Cy{op}{t:TE}(h:PE X a t):PE X (.BoolOp op [a] pos) t:=fun pins s σ H Q I hw=>BoolOp_one (h pins s σ H Q I hw)
theorem BX(ha:PE X a ta)(hb:PE X (.BoolOp .And (b::rest) pos) tb):PE X (.BoolOp .And (a::b::rest) pos) (FL ta tb):=by
 intro pins s σ H Q I h;refine BoolOp_and (thn (ha pins s σ H _ I h) fun v s1 ⟨x,H1,I1,r1,q1⟩=>?_);obtain ⟨c,rfl,q1⟩:=q1;cases r1;refine wpAny_truthy_bool ?_;cases c with
 |true=>exact hb pins s1 σ H1 Q I1 q1
 |false=>exact ⟨.bl false,H1,I1,rfl,q1⟩
theorem C7(ha:PE X a ta):PE X (.UnaryOp .Not a pos) (Fr ta):=by
 intro pins s σ H Q I h;refine UnaryOp_ (thn (ha pins s σ H _ I h) fun v s1 ⟨x,H1,I1,r1,q1⟩=>?_);obtain ⟨c,rfl,q1⟩:=q1;cases r1;exact not_of (wpAny_truthy_bool ⟨.bl (!c),H1,I1,rfl,q1⟩)
def tIf(t:TT)(ta tb:TE):TE:=fun σ H Q=>t σ H fun c H1=>if c=true then ta σ H1 Q else tb σ H1 Q
theorem wD{c:Expr}(hc:PT X c tA)(ha:PE X a ta)(hb:PE X b tb):PE X (.IfExp c a b pos) (tIf tA ta tb):=by
 intro pins s σ H Q I h;refine wpAny_IfExp (thn (hc pins s σ H _ I h) fun d s1 ⟨H1,I1,q1⟩=>?_);cases d with
 |true=>exact ha pins s1 σ H1 Q I1 q1
 |false=>exact hb pins s1 σ H1 Q I1 q1
end
end L2
namespace L2
open PySem PySem.Spec PyProof.Rows
def SqL(K:W.Frag)(H:Hp)(a:Addr)(xs:List V):Prop:=
 Rd H a (.lst xs)\/
  ∃(o:Obj) (its:Array Value) (n:Nat),K.lookup a=some o/\o.cls=.type "list"/\o.dict=none/\o.data=.seq its n/\its.size<=sizeLine/\Vals xs its.toList
def gG(K:W.Frag)(H:Hp)(a:Addr)(xs:List V):Prop:=
 Rd H a (.tup xs)\/
  ∃(o:Obj) (its:Array Value) (n:Nat),K.lookup a=some o/\o.cls=.type "tuple"/\o.data=.seq its n/\its.size<=sizeLine/\Vals xs its.toList
def absV:Value->Option V
 |.none=>some .non
 |.bool b=>some (.bl b)
 |.int i _=>some (.int i)
 |.str x _=>some (.str x)
 |.bytes b _=>some (.byt b)
 |.float b _=>some (.flt b)
 |.ref a=>some (.ref a)
 |.type n=>some (.ty n)
 |_=>none
theorem RelV.abs{x:V}{u:Value}(r:RelV x u):absV u=some x:=by
 cases x with
 |non=>cases r;rfl
 |bl _=>cases r;rfl
 |int _=>obtain ⟨t,rfl⟩:=r;rfl
 |str _=>obtain ⟨t,rfl⟩:=r;rfl
 |byt _=>obtain ⟨t,rfl⟩:=r;rfl
 |flt _=>obtain ⟨t,rfl⟩:=r;rfl
 |ref _=>cases r;rfl
 |ty _=>cases r;rfl
theorem RelV.inj{x y:V}{u:Value}(r:RelV x u)(q:RelV y u):x=y:=Option.some.inj (r.abs.symm.trans q.abs)
theorem Vals.inj:∀{xs ys:List V} {us:List Value},Vals xs us->Vals ys us->xs=ys
 |_,_,_,.nil,.nil=>rfl
 |_,_,_,.cons r t,.cons r' t'=>by rw [r.inj r',Vals.inj t t']
section
variable {X:Cx}{pins:List (Addr×Obj)}{σ:St}{H:Hp}{s:Shared}{a:Addr}{xs ys:List V}
theorem SqL.of{K:W.Frag}(h:H a=some (.lst xs)):SqL K H a xs:=.inl (.inl h)
theorem Inv.list(I:Inv X pins σ H s)(h:SqL X.K H a xs):∃its:List Value,Vals xs its/\PlainL s.heap a its.toArray/\xs.length<=sizeLine:=by
 rcases h with h|⟨o,its,n,hk,hc,hd,hs,hz,r⟩
 ·obtain ⟨z,its,n,r,e⟩:=h.ok I.hok
  exact ⟨its,r,⟨_,n,e,rfl,rfl,rfl⟩,z⟩
 ·refine ⟨its.toList,r,⟨o,n,I.kIn a o hk,hc,hd,by simpa using hs⟩,?_⟩
  have e:=r.length;simp only [Array.length_toList] at e;lia
theorem Inv.tuple(I:Inv X pins σ H s)(h:gG X.K H a xs):∃its:List Value,Vals xs its/\IsTup s.heap a its.toArray/\xs.length<=sizeLine:=by
 rcases h with h|⟨o,its,n,hk,hc,hs,hz,r⟩
 ·obtain ⟨z,its,r,ob,e,c,_⟩:=h.ok I.hok
  exact ⟨its,r,⟨ob,e,c⟩,z⟩
 ·refine ⟨its.toList,r,⟨o,I.kIn a o hk,hc,n,by simpa using hs⟩,?_⟩
  have e:=r.length;simp only [Array.length_toList] at e;lia
theorem Inv.list_inj(I:Inv X pins σ H s)(h:SqL X.K H a xs)(h':SqL X.K H a ys):xs=ys:=by
 obtain ⟨its,r,⟨o,n,e,_,_,d⟩,_⟩:=I.list h;obtain ⟨its',r',⟨o',n',e',_,_,d'⟩,_⟩:=I.list h';rw [e] at e';cases e';rw [d] at d'
 injection d' with d1 _
 have:its=its':=by simpa using congrArg Array.toList d1
 subst this;exact r.inj r'
theorem Inv.tuple_inj(I:Inv X pins σ H s)(h:gG X.K H a xs)(h':gG X.K H a ys):xs=ys:=by
 obtain ⟨its,r,⟨o,e,_,n,d⟩,_⟩:=I.tuple h;obtain ⟨its',r',⟨o',e',_,n',d'⟩,_⟩:=I.tuple h';rw [e] at e';cases e';rw [d] at d'
 injection d' with d1 _
 have:its=its':=by simpa using congrArg Array.toList d1
 subst this;exact r.inj r'
end
abbrev Cx.wish(X:Cx)(E:Value->Shared->Prop):Cx:={ X with xe:=E }
abbrev Cx.nox(X:Cx):Cx:=X.wish fun _ _=>False
theorem Cx.Ok.wish{X:Cx}(ok:X.Ok)(E:Value->Shared->Prop):(X.wish E).Ok:=
 ⟨ok.mod,ok.kind,ok.glob,ok.blt,ok.above,ok.inj,ok.has,ok.cab,ok.hd,ok.frames,ok.stk,ok.exf,ok.bs,ok.bsz,ok.noex,ok.exfs,ok.funs,ok.frf⟩
theorem Cx.Ok.unwish{X:Cx}{E:Value->Shared->Prop}(ok:(X.wish E).Ok):X.Ok:=
 ⟨ok.mod,ok.kind,ok.glob,ok.blt,ok.above,ok.inj,ok.has,ok.cab,ok.hd,ok.frames,ok.stk,ok.exf,ok.bs,ok.bsz,ok.noex,ok.exfs,ok.funs,ok.frf⟩
section
variable {X:Cx}{pins:List (Addr×Obj)}{σ:St}{H:Hp}{s:Shared}{E:Value->Shared->Prop}
theorem Inv.wish(I:Inv X pins σ H s)(E:Value->Shared->Prop):Inv (X.wish E) pins σ H s:=⟨I.ok.wish E,I.os,I.bare,I.base,I.loc,I.cell,I.free,I.freeC,I.pin,I.hok,I.len⟩
theorem Inv.unwish(I:Inv (X.wish E) pins σ H s):Inv X pins σ H s:=⟨I.ok.unwish,I.os,I.bare,I.base,I.loc,I.cell,I.free,I.freeC,I.pin,I.hok,I.len⟩
end
section
variable {X:Cx}{st:Stmt}{rest:List Stmt}{t u:TS}{e:Expr}{te:TE}{pos:Pos}
def FM:TS:=fun D σ H=>D.nx σ H
def tSeq(t u:TS):TS:=fun D σ H=>t { D with nx:=u D } σ H
theorem yW:qW X [] FM:=fun _ _ σ H _ I h=>wpAny_execs_nil ⟨σ,H,I,h⟩
theorem vQ(h1:PS X st t)(h2:qW X rest u):qW X (st::rest) (tSeq t u):=by
 intro pins s σ H D I h;refine wpAny_execs_cons (thn (h1 pins s σ H { D with nx:=u D } I h) fun f s1 q=>?_);cases f with
 |next=>
  obtain ⟨σ',H',I',q⟩:=q;exact h2 pins s1 σ' H' D I' q
 |ret v=>exact q
 |brk=>exact q
 |cont=>exact q
theorem Ak(h1:PS X st t):qW X [st] t:=by
 intro pins s σ H D I h;refine wpAny_execs_cons (thn (h1 pins s σ H D I h) fun f s1 q=>?_);cases f with
 |next=>exact wpAny_execs_nil q
 |ret v=>exact q
 |brk=>exact q
 |cont=>exact q
theorem Inv.quiet{pins:List (Addr×Obj)}{σ:St}{H:Hp}{s:Shared}(I:Inv X pins σ H s):interactive X.env=false:=by simp [interactive,I.ok.kind]
def G0(te:TE):TS:=fun D σ H=>te σ H fun _ H1=>D.nx σ H1
theorem AC(he:PE X e te)(hs:swapsWith e none pos.line X.env=pure false:=by rfl):PS X (.Expr e pos) (G0 te):=by
 intro pins s σ H D I h;exact wpAny_Expr_any (thn (he pins s σ H _ I h) fun v s1 ⟨x,H1,I1,r1,q1⟩=>⟨σ,H1,I1,q1⟩) I.quiet hs
def tRet(te:TE):TS:=fun D σ H=>te σ H D.rt
theorem BN(he:PE X e te):PS X (.Return (some e) pos) (tRet te):=by
 intro pins s σ H D I h;exact wpAny_Return_some (thn (he pins s σ H _ I h) fun v s1 ⟨x,H1,I1,r1,q1⟩=>⟨x,σ,H1,I1,r1,q1⟩)
def tIfS(c:TT)(t u:TS):TS:=fun D σ H=>c σ H fun b H1=>if b=true then t D σ H1 else u D σ H1
theorem Ew{c:Expr}{a b:List Stmt}{tc:TT}(hc:PT X c tc)(ha:qW X a t)(hb:qW X b u):PS X (.If c a b pos) (tIfS tc t u):=by
 intro pins s σ H D I h;refine wpAny_If (thn (hc pins s σ H _ I h) fun d s1 ⟨H1,I1,q1⟩=>?_);cases d with
 |true=>exact ha pins s1 σ H1 D I1 q1
 |false=>exact hb pins s1 σ H1 D I1 q1
end
abbrev TG:=V->St->Hp->(St->Hp->Prop)->Prop
abbrev B0:=List V->St->Hp->(St->Hp->Prop)->Prop
def PG(X:Cx)(target:Expr)(t:TG):Prop:=
 ∀(pins:List (Addr×Obj)) (s:Shared) (σ:St) (H:Hp) (v:V) (u:Value) (Q:St->Hp->Prop),Inv X pins σ H s->RelV v u->t v σ H Q->
  wpAny (model X.prog X.w) X.A (assign target X.env u) (fun _ s'=>∃σ' H',Inv X pins σ' H' s'/\Q σ' H') X.xe s
def B9(X:Cx)(ts:List Expr)(t:B0):Prop:=
 ∀(pins:List (Addr×Obj)) (s:Shared) (σ:St) (H:Hp) (vs:List V) (us:List Value) (Q:St->Hp->Prop),Inv X pins σ H s->Vals vs us->t vs σ H Q->
  wpAny (model X.prog X.w) X.A (assignInOrder ((assignEach ts X.env).map (·.2)) us) (fun _ s'=>∃σ' H',Inv X pins σ' H' s'/\Q σ' H') X.xe s
abbrev BO:=V->V->V->Hp->(Hp->Prop)->Prop
def Cz(X:Cx)(t:BO):Prop:=
 ∀(pins:List (Addr×Obj)) (s:Shared) (σ:St) (H:Hp) (o i v:V) (ov iv u:Value) (Q:Hp->Prop),Inv X pins σ H s->RelV o ov->RelV i iv->RelV v u->t o i v H Q->
  wpAny (model X.prog X.w) X.A (setItem ov iv u) (fun _ s'=>∃H',Inv X pins σ H' s'/\Q H') X.xe s
abbrev TIp:=V->V->Hp->VK->Prop
def Ed(X:Cx)(op:Operator)(t:TIp):Prop:=
 ∀(pins:List (Addr×Obj)) (s:Shared) (σ:St) (H:Hp) (x y:V) (v u:Value) (Q:VK),Inv X pins σ H s->RelV x v->RelV y u->t x y H Q->
  wpAny (model X.prog X.w) X.A (inplaceOp op v u) (EP X pins σ Q) X.xe s
section
variable {X:Cx}{pos:Pos}
def AG(i:Nat):TG:=fun v σ H Q=>Q (σ.set i (some v)) H
theorem An{i:Nat}{x:Str}(hN:X.N.Nodup)(hi:X.N[i]?=some x)(hx:AI X.env.scope x)(hf:X.fn x=true\/X.env.scope.names.lookup x=some .local:=by first|exact .inl rfl|exact .inr rfl|assumption):PG X (.Name x pos) (AG i):=by
 intro pins s σ H v u Q I r h;exact wpAny_assign_Name (store_ok I hN hi hx r (fun s' I'=>⟨_,H,I',h⟩) hf)
def gNil:B0:=fun vs σ H Q=>vs=[]/\Q σ H
def EL(t:TG)(u:B0):B0:=fun vs σ H Q=>∃v r,vs=v::r/\t v σ H fun σ' H'=>u r σ' H' Q
theorem A6:B9 X [] gNil:=by
 intro pins s σ H vs us Q I r h;obtain ⟨e,h⟩:=h;subst e;cases r;exact assignInOrder_nil ⟨σ,H,I,h⟩
theorem uV{e:Expr}{es:List Expr}{t:TG}{u:B0}(h1:PG X e t)(h2:B9 X es u)
  (hs:(assignEach (e::es) X.env).map (·.2)=assign e X.env::(assignEach es X.env).map (·.2):=by rfl):B9 X (e::es) (EL t u):=by
 intro pins s σ H vs us Q I r h;obtain ⟨v,vr,e1,h⟩:=h;subst e1;cases r with
 |cons r rr=>
  rw [hs];refine assignInOrder_cons (thn (h1 pins s σ H _ _ _ I r h) fun _ s1 ⟨σ1,H1,I1,q1⟩=>?_);exact h2 pins s1 σ1 H1 _ _ Q I1 rr q1
def gTup(K:W.Frag)(n:Nat)(t:B0):TG:=fun v σ H Q=>∃a xs,v=.ref a/\gG K H a xs/\xs.length=n/\t xs σ H Q
theorem Cu{es:List Expr}{k:Nat}{t:B0}{n:Nat}(hc:X.calm=true)(h:B9 X es t)
  (hn:(assignEach es X.env).length=n:=by rfl) (hst:(assignEach es X.env).findIdx? (·.1)=none:=by rfl):PG X (.Tuple es k pos) (gTup X.K n t):=by
 intro pins s σ H v u Q I r hw;obtain ⟨a,xs,e1,hq,hl,hw⟩:=hw;subst e1;cases r;obtain ⟨its,rv,ht,hz⟩:=I.tuple hq;refine assign_Tuple_tuple (I.ok.hd hc) ht (by simp [hn,<- hl,rv.length]) hst fun h' hx=>?_
 have I1:Inv X pins σ H { s with heap:=h' }:=I.kept (t':=s.toks) fun b o e=>hx b o (Nat.ne_of_lt (Heap.lt_size e)) e;exact h pins _ σ H xs _ Q I1 (by simpa using rv) hw
def gSub(to ti:TE)(t:BO):TG:=fun v σ H Q=>to σ H fun o H1=>ti σ H1 fun i H2=>t o i v H2 fun H3=>Q σ H3
theorem Dz{o i:Expr}{to ti:TE}{t:BO}(ho:PE X o to)(hi:PE X i ti)(hs:Cz X t)
  (ha:∀v,assign (.Subscript o i pos) X.env v=(do
   let ov <- holding [v] (eval o X.env)
   let iv <- holding [v,ov] (eval i X.env)
   standAt pos
   holding [v,ov,iv] (setItem ov iv v)
   release [v,ov,iv] []):=by intro _;rfl):PG X (.Subscript o i pos) (gSub to ti t):=by
 intro pins s σ H v u Q I r h;rw [ha];refine wpAny_bind (wpAny_holding (thn (ho pins s σ H _ I h) fun ov s1 ⟨x,H1,I1,r1,q1⟩=>?_));refine wpAny_bind (wpAny_holding (thn (hi pins s1 σ H1 _ I1 q1) fun iv s2 ⟨y,H2,I2,r2,q2⟩=>?_));refine wpAny_bind (wpAny_standAt (wpAny_bind (wpAny_holding (thn (hs pins s2 σ H2 x y v ov iv u _ I2 r1 r2 r q2) fun _ s3 ⟨H3,I3,q3⟩=>?_))));exact wpAny_release ⟨σ,H3,I3,q3⟩
def Fs(te:TE)(g:TG):TS:=fun D σ H=>te σ H fun x H1=>g x σ H1 D.nx
theorem E4{tg e:Expr}{te:TE}{g:TG}(he:PE X e te)(hg:PG X tg g)(hs:swapsWithSole [tg] e pos.line X.env=pure false:=by rfl)(hw:swappedStores [tg] e X.env=pure none:=by rfl)
  (h1:(assignEach [tg] X.env).map (·.2)=[assign tg X.env]:=by rfl):PS X (.Assign [tg] e pos) (Fs te g):=by
 intro pins s σ H D I h;refine wpAny_Assign_stores (thn (he pins s σ H _ I h) fun v s1 ⟨x,H1,I1,r1,q1⟩=>?_) hs hw;rw [h1];exact thn (hg pins s1 σ H1 x v _ I1 r1 q1) fun _ s2 q=>q
theorem D6{i:Nat}{x:Str}{e:Expr}{te:TE}{pos':Pos}(hN:X.N.Nodup)(hi:X.N[i]?=some x)(hx:AI X.env.scope x)(he:PE X e te)(hs:swapsWith e (some (.Name x pos')) pos.line X.env=pure false:=by rfl)(hf:X.fn x=true\/X.env.scope.names.lookup x=some .local:=by first|exact .inl rfl|exact .inr rfl|assumption):
  PS X (.Assign [.Name x pos'] e pos) (Fs te (AG i)):=by
 intro pins s σ H D I h;refine wpAny_Assign_Name (thn (he pins s σ H _ I h) fun v s1 ⟨y,H1,I1,r1,q1⟩=>?_) hs;exact store_ok I1 hN hi hx r1 (fun s2 I2=>⟨_,H1,I2,q1⟩) hf
def tAug(i:Nat)(te:TE)(ti:TIp):TS:=fun D σ H=>∃x,σ[i]?=some (some x)/\te σ H fun y H1=>ti x y H1 fun z H2=>D.nx (σ.set i (some z)) H2
theorem BU{i:Nat}{x:Str}{e:Expr}{te:TE}{op:Operator}{ti:TIp}{pos':Pos}(hN:X.N.Nodup)(hi:X.N[i]?=some x)(hx:AI X.env.scope x)(he:PE X e te)(ho:Ed X op ti)(hf:X.fn x=true\/X.env.scope.names.lookup x=some .local:=by first|exact .inl rfl|exact .inr rfl|assumption):
  PS X (.AugAssign (.Name x pos') op e pos) (tAug i te ti):=by
 intro pins s σ H D I h;obtain ⟨v,e1,h⟩:=h;obtain ⟨m,hn,hl⟩:=I.loc;have vis:Eh X.env.scope x:=by rcases hx with k|k;exact .inl k;exact .inr (.inl k)
 obtain ⟨u,r,l⟩:=hl i x v hi e1 vis;refine wpAny_AugAssign_Name ?_;have go:wpAny (model X.prog X.w) X.A (eval e X.env) (fun w s₂=>wpAny (model X.prog X.w) X.A (inplaceOp op u w) (fun r s₃=>wpAny (model X.prog X.w) X.A (storeName X.env x r) (fun _=>SP X pins D .next) X.xe s₃) X.xe s₂) X.xe s:=by
  refine thn (he pins s σ H _ I h) fun w s1 ⟨y,H1,I1,r1,q1⟩=>?_;refine thn (ho pins s1 σ H1 v y u w _ I1 r r1 q1) fun z s2 ⟨zv,H2,I2,r2,q2⟩=>?_;exact store_ok I2 hN hi hx r2 (fun s3 I3=>⟨_,H2,I3,q2⟩) hf
 rcases l with ⟨hk,hm⟩|⟨hk,c,hc,hcell⟩
 ·exact wpAny_loadName_local I.ok.kind hk hn hm go
 ·rcases hk with hk|hk
  ·exact wpAny_loadName_cell I.ok.kind hk hc hcell go
  ·rcases hx with k|k
   ·have:X.env.scope.names.lookup x=some .free:=hk
    rw [k] at this;cases this
   ·have:X.env.scope.names.lookup x=some .free:=hk
    rw [k] at this;cases this
def ipI(f:Int->Int->Int):TIp:=fun x y H Q=>∃i j,x=.int i/\y=.int j/\Q (.int (f i j)) H
theorem BD:Ed X .Add (ipI fun i j=>i+j):=by
 intro pins s σ H x y v u Q I r1 r2 h;obtain ⟨i,j,e1,e2,q⟩:=h;subst e1;subst e2;obtain ⟨t,rfl⟩:=r1;obtain ⟨t',rfl⟩:=r2;exact iadd_int ⟨.int _,H,I.tok _,⟨_,rfl⟩,q⟩
end
section
variable {X:Cx}{pos:Pos}
def Ba(c:TT)(tb:TS):TS:=fun D σ H=>∃W:Nat->St->Hp->Prop,(∃m,W m σ H)/\∀m σ H,W m σ H->
 c σ H fun b H1=>if b=true then ∃N:St->Hp->Prop,(∀σ' H',N σ' H'->∃m',m'<m/\W m' σ' H')/\tb { D with nx:=N,ct:=N,bk:=D.nx } σ H1 else D.nx σ H1
theorem ue{c:Expr}{body:List Stmt}{tc:TT}{tb:TS}(hp:PassesOwn (model X.prog X.w) X.A X.env X.xe)(hc:PT X c tc)(hb:qW X body tb):PS X (.While c body [] pos) (Ba tc tb):=by
 intro pins s σ H D I h;obtain ⟨W,⟨m0,w0⟩,turn⟩:=h;refine wpAny_While (codeAny_whileLoop (fun n s'=>∃σ' H',Inv X pins σ' H' s'/\W n σ' H') ?_ m0 ⟨σ,H,I,w0⟩)
 rintro n s1 ⟨σ1,H1,I1,w1⟩
 refine wpAny_passesOwn hp (thn (hc pins s1 σ1 H1 _ I1 (turn n σ1 H1 w1)) fun b s2 ⟨H2,I2,q2⟩=>?_);cases b with
 |true=>
  obtain ⟨N,hN,q2⟩:=q2;rw [if_pos rfl];refine wpAny_passesOwn hp (thn (hb pins s2 σ1 H2 _ I2 q2) fun f s3 q3=>?_);cases f with
  |next=>
   obtain ⟨σ3,H3,I3,n3⟩:=q3;obtain ⟨m',hm,w3⟩:=hN σ3 H3 n3;exact ⟨m',hm,σ3,H3,I3,w3⟩
  |cont=>
   obtain ⟨σ3,H3,I3,n3⟩:=q3;obtain ⟨m',hm,w3⟩:=hN σ3 H3 n3;exact ⟨m',hm,σ3,H3,I3,w3⟩
  |brk=>exact q3
  |ret v=>exact q3
 |false=>
  rw [if_neg Bool.false_ne_true];exact wpAny_execs_nil ⟨σ1,H2,I2,q2⟩
end
structure It where
 go:Nat->Hp->Prop
 yld:Nat->Hp->V->Hp->Prop
 stop:Nat->Hp->Prop
def gO(X:Cx)(pins:List (Addr×Obj))(H:Hp)(b:Addr):Prop:=
 H b=none/\b≠X.env.locals/\b∉X.fs/\(b∈X.ex\/X.s₀.heap.objs.size<=b)/\(∀x c,X.env.cells.lookup x=some c->c≠b)/\∀p∈X.pn++pins,p.1≠b
theorem Inv.fpOk{X:Cx}{pins:List (Addr×Obj)}{σ:St}{H H':Hp}{s:Shared}{b:Addr}(I:Inv X pins σ H s)(hb:s.heap.objs.size<=b)(hn:H' b=none):gO X pins H' b:=by
 refine ⟨hn,Nat.ne_of_gt (Nat.lt_of_lt_of_le I.lt hb),I.nofs hb,.inr (Nat.le_trans I.sz hb),fun x c e z=>?_,fun p hp z=>?_⟩
 ·obtain ⟨v,q⟩:=I.cell x c e
  exact absurd (Nat.lt_of_lt_of_le q.lt (by rw [z];exact hb)) (Nat.lt_irrefl _)
 ·exact absurd (Nat.lt_of_lt_of_le (Heap.lt_size (I.pin p hp).1) (by rw [z];exact hb)) (Nat.lt_irrefl _)
structure Turn(P:Program)(w:World)(K:W.Frag)(tg:Expr)(J:It)(fp:List Addr)(it:Addr)(tn:Nat->Heap->Prop):Prop where
 mem:it∈fp
 obj:∀i h,tn i h->∀b∈fp,∃o,h.get? b=some o/\∀v,o.data≠.cell v
 keep:∀i h h',tn i h->(∀b∈fp,∀o,h.get? b=some o->h'.get? b=some o)->tn i h'
 item:∀(X:Cx),X.prog=P->X.w=w->X.K=K->X.calm=true->∀(i:Nat) (pins:List (Addr×Obj)) (s:Shared) (σ:St) (H:Hp) (E:Value->Shared->Prop),Inv X pins σ H s->(∀b∈fp,gO X pins H b)->tn i s.heap->J.go i H->
  wpAny (model P w) X.A (pyNext (.ref it)) (fun r s1=>∃u,r=some u/\
   wpAny (model P w) X.A (letOwnedTupleGo tg (.ref it) u) (fun _ s2=>∃x H',Inv X pins σ H' s2/\RelV x u/\J.yld i H x H'/\tn (i+1) s2.heap/\∀b∈fp,H' b=none) E s1) E s
 done:∀(X:Cx),X.prog=P->X.w=w->X.K=K->X.calm=true->∀(i:Nat) (pins:List (Addr×Obj)) (s:Shared) (σ:St) (H:Hp) (E:Value->Shared->Prop),Inv X pins σ H s->(∀b∈fp,gO X pins H b)->tn i s.heap->J.stop i H->
  wpAny (model P w) X.A (pyNext (.ref it)) (fun r s1=>r=none/\Inv X pins σ H s1) E s
 self:∀(A:Around) (i:Nat) (s:Shared) (Q:Value->Shared->Prop) (E:Value->Shared->Prop),tn i s.heap->Q (.ref it) s->wpAny (model P w) A (pyIter (.ref it)) Q E s
abbrev TI:=St->Hp->(It->Hp->Prop)->Prop
def PIE(X:Cx)(pins:List (Addr×Obj))(σ:St)(tg:Expr)(R:It->Hp->Prop)(itv:Value)(s2:Shared):Prop:=
 ∃(it:Addr) (fp:List Addr) (tn:Nat->Heap->Prop) (J:It) (H':Hp),itv=.ref it/\Inv X pins σ H' s2/\Turn X.prog X.w X.K tg J fp it tn/\tn 0 s2.heap/\(∀b∈fp,gO X pins H' b)/\R J H'
def PI(X:Cx)(tg iter:Expr)(wi:TI):Prop:=
 ∀(pins:List (Addr×Obj)) (s:Shared) (σ:St) (H:Hp) (R:It->Hp->Prop),Inv X pins σ H s->wi σ H R->
  wpAny (model X.prog X.w) X.A (eval iter X.env) (fun v s1=>wpAny (model X.prog X.w) X.A (pyIter v) (PIE X pins σ tg R) X.xe s1) X.xe s
theorem qy{M:Model}{A:Around}{E:Value->Shared->Prop}{s:Shared}{tg:Expr}{it:Addr}{u:Value}{o:Obj}{n:String}{vs:Array Value}{Q:Unit->Shared->Prop}(ho:s.heap.get? it=some o)(hc:o.cls=.type n)(hd:o.data=.fields vs)
  (hn:["enumerate","zip","dict_itemiterator","dict_reverseitemiterator","odict_iterator","itertools.zip_longest","itertools.pairwise"].contains n=false) (hQ:Q () s):wpAny M A (letOwnedTupleGo tg (.ref it) u) Q E s:=by
 unfold letOwnedTupleGo
 cases tg<;>first
  |exact wpAny_pure hQ
  |(cases u<;>first
    |exact wpAny_pure hQ
    |(refine wpAny_bind (wpAny_load ho ?_)
      rw [hc,hd];show wpAny M A (if (["enumerate","zip","dict_itemiterator","dict_reverseitemiterator","odict_iterator","itertools.zip_longest","itertools.pairwise"].contains n&&vs[0]?==some (rawInt _))=true then _ else _) Q E s
      rw [if_neg (by intro h;rw [hn,Bool.false_and] at h;cases h)]
      exact wpAny_pure hQ))
def Itl(K:W.Frag)(a:Addr):It:=
 ⟨fun i H=>∃xs x,SqL K H a xs/\xs[i]?=some x,fun i H x H'=>H'=H/\∀xs,SqL K H a xs->xs[i]?=some x,fun i H=>∃xs,SqL K H a xs/\xs.length<=i⟩
def Itt(K:W.Frag)(a:Addr):It:=
 ⟨fun i H=>∃xs x,gG K H a xs/\xs[i]?=some x,fun i H x H'=>H'=H/\∀xs,gG K H a xs->xs[i]?=some x,fun i H=>∃xs,gG K H a xs/\xs.length<=i⟩
def Itr(lo:Int)(n:Nat):It:=⟨fun i _=>i<n,fun i H x H'=>H'=H/\x=.int (lo+i),fun i _=>n<=i⟩
theorem sH{P:Program}{w:World}{K:W.Frag}{tg:Expr}(a it:Addr):Turn P w K tg (Itl K a) [it] it (fun i h=>h.IsListIter it a i) where
 mem:=by simp
 obj:=fun i h st b hb=>by
  have e:b=it:=by simpa using hb
  subst e;obtain ⟨o,e,c,d⟩:=st;exact ⟨o,e,fun v z=>by rw [d] at z;cases z⟩
 keep:=fun i h h' st k=>st.at fun o e=>k it (by simp) o e
 item:=by
  intro X hP hw hK hc i pins s σ H E I hf st hg;subst hP hw hK;obtain ⟨xs,x,hq,hx⟩:=hg;obtain ⟨its,rv,p,hz⟩:=I.list hq;obtain ⟨u,hu,ru⟩:=rv.get hx;obtain ⟨f0,f1,f2,f3,f4,f5⟩:=hf it (by simp)
  refine wpAny_pyNext_list_item st p.isList (x:=u) (by simpa using hu) fun h' st' sb=>?_
  have I1:Inv X pins σ H { s with heap:=h' }:=I.turned (t':=s.toks) (fun b o hb e=>(sb.2 b hb).trans e) f0 f1 f3 f4 f5;obtain ⟨o,e,c,d⟩:=id st';exact ⟨u,rfl,qy (s:={ s with heap:=h' }) e c d (by decide) ⟨x,H,I1,ru,⟨rfl,fun ys hy=>by rw [I.list_inj hy hq];exact hx⟩,st',fun b hb=>(hf b hb).1⟩⟩
 done:=by
  intro X hP hw hK hc i pins s σ H E I hf st hg;subst hP hw hK;obtain ⟨xs,hq,hx⟩:=hg;obtain ⟨its,rv,p,hz⟩:=I.list hq;obtain ⟨f0,f1,f2,f3,f4,f5⟩:=hf it (by simp)
  have hl:=rv.length;exact wpAny_pyNext_list_end (I.ok.hd hc) st p.isList (by simp;lia) fun h' eb=>⟨rfl,I.turned (t':=s.toks) (fun b o hb e=>eb b o hb e) f0 f1 f3 f4 f5⟩
 self:=fun _ _ _ _ _ st h=>wpAny_pyIter_listiter st h
theorem pc{P:Program}{w:World}{K:W.Frag}{tg:Expr}(a it:Addr):Turn P w K tg (Itt K a) [it] it (fun i h=>h.IsTupleIter it a i) where
 mem:=by simp
 obj:=fun i h st b hb=>by
  have e:b=it:=by simpa using hb
  subst e;obtain ⟨o,e,c,d⟩:=st;exact ⟨o,e,fun v z=>by rw [d] at z;cases z⟩
 keep:=fun i h h' st k=>st.at fun o e=>k it (by simp) o e
 item:=by
  intro X hP hw hK hc i pins s σ H E I hf st hg;subst hP hw hK;obtain ⟨xs,x,hq,hx⟩:=hg;obtain ⟨its,rv,p,hz⟩:=I.tuple hq;obtain ⟨u,hu,ru⟩:=rv.get hx;obtain ⟨f0,f1,f2,f3,f4,f5⟩:=hf it (by simp)
  refine wpAny_pyNext_tuple_item st (show s.heap.IsTuple a its.toArray from p) (x:=u) (by simpa using hu) fun h' st' sb=>?_
  have I1:Inv X pins σ H { s with heap:=h' }:=I.turned (t':=s.toks) (fun b o hb e=>(sb.2 b hb).trans e) f0 f1 f3 f4 f5;obtain ⟨o,e,c,d⟩:=id st';exact ⟨u,rfl,qy (s:={ s with heap:=h' }) e c d (by decide) ⟨x,H,I1,ru,⟨rfl,fun ys hy=>by rw [I.tuple_inj hy hq];exact hx⟩,st',fun b hb=>(hf b hb).1⟩⟩
 done:=by
  intro X hP hw hK hc i pins s σ H E I hf st hg;subst hP hw hK;obtain ⟨xs,hq,hx⟩:=hg;obtain ⟨its,rv,p,hz⟩:=I.tuple hq;obtain ⟨f0,f1,f2,f3,f4,f5⟩:=hf it (by simp)
  have hl:=rv.length;exact wpAny_pyNext_tuple_end (I.ok.hd hc) st (show s.heap.IsTuple a its.toArray from p) (by simp;lia) fun h' eb=>⟨rfl,I.turned (t':=s.toks) (fun b o hb e=>eb b o hb e) f0 f1 f3 f4 f5⟩
 self:=fun _ _ _ _ _ st h=>wpAny_pyIter_tupleiter st h
theorem pR{P:Program}{w:World}{K:W.Frag}{tg:Expr}(it:Addr)(lo:Int)(n:Nat):Turn P w K tg (Itr lo n) [it] it (fun i h=>IsRangeIter h it (lo+(i:Nat)*1) ((n:Int)-(i:Nat)) 1) where
 mem:=by simp
 obj:=fun i h st b hb=>by
  have e:b=it:=by simpa using hb
  subst e;exact ⟨_,st,fun v z=>by
   have z':Data.fields _=Data.cell v:=z;cases z'⟩
 keep:=fun i h h' st k=>k it (by simp) _ st
 item:=by
  intro X hP hw hK hc i pins s σ H E I hf st hg;subst hP hw hK;obtain ⟨f0,f1,f2,f3,f4,f5⟩:=hf it (by simp)
  have W:=Walks.range (prog:=X.prog) (w:=X.w) (I.ok.hd hc) it lo 1 n;refine W.item i s _ _ hg st fun v h' tk hv st' kk=>?_;obtain ⟨t,rfl⟩:=hv;have I1:Inv X pins σ H { s with heap:=h',toks:=tk }:=I.turned (fun b o hb e=>kk b o (by simpa using hb) e) f0 f1 f3 f4 f5
  refine ⟨_,rfl,qy (s:={ s with heap:=h',toks:=tk }) (n:="range_iterator") st' rfl rfl (by decide) ⟨.int (lo+i),H,I1,⟨t,?_⟩,⟨rfl,rfl⟩,st',fun b hb=>(hf b hb).1⟩⟩
  rw [Int.mul_one]
 done:=by
  intro X hP hw hK hc i pins s σ H E I hf st hg;subst hP hw hK;obtain ⟨f0,f1,f2,f3,f4,f5⟩:=hf it (by simp)
  exact wpAny_pyNext_range_end (I.ok.hd hc) st (by have:n<=i:=hg;lia) fun h' eb=>⟨rfl,I.turned (t':=s.toks) (fun b o hb e=>eb b o hb e) f0 f1 f3 f4 f5⟩
 self:=fun _ _ _ _ _ st h=>wpAny_pyIter_rangeiter st h
end L2
namespace L2
open PySem PySem.Spec PyProof.Rows
section
variable {X:Cx}{tg:Expr}
theorem uj{pins:List (Addr×Obj)}{σ:St}{H:Hp}{s:Shared}{R:It->Hp->Prop}{E:Value->Shared->Prop}{lo hi:Int}{t u v:Tok}{tk:Nat}(I:Inv X pins σ H s)(h1:-(2 ^ 62)<=lo)(h2:lo<2 ^ 62)(h3:-(2 ^ 62)<=hi)(h4:hi<2 ^ 62)
  (q:R (Itr lo (hi-lo).toNat) H):wpAny (model X.prog X.w) X.A (pyIter (.ref s.heap.objs.size)) (PIE X pins σ tg R) E { s with heap:=s.heap.push { cls:=.type "range",data:=.fields #[.int lo t,.int hi u,.int 1 v] },toks:=tk }:=by
 refine wpAny_pyIter_range (IsRange.new ..) (small_one h1 h2 h3 h4) ?_;have I1:Inv X pins σ H { s with heap:=s.heap.push { cls:=.type "range",data:=.fields #[.int lo t,.int hi u,.int 1 v] },toks:=tk }:=I.kept fun b o e=>Heap.get?_push_of_some _ e;refine ⟨(s.heap.push { cls:=.type "range",data:=.fields #[.int lo t,.int hi u,.int 1 v] }).objs.size,[(s.heap.push { cls:=.type "range",data:=.fields #[.int lo t,.int hi u,.int 1 v] }).objs.size],_,_,H,rfl,
  I1.kept (t':=tk) fun b o e=>Heap.get?_push_of_some _ e,pR _ lo (hi-lo).toNat,?_,fun b hb=>?_,q⟩
 ·have e1:lo+((0:Nat):Int)*1=lo:=by simp
  have e2:(((hi-lo).toNat:Nat):Int)-((0:Nat):Int)=Builtin.Range.rangeSize lo hi 1:=by rw [rangeSize_one];split<;>lia
  show IsRangeIter _ _ (lo+((0:Nat):Int)*1) ((((hi-lo).toNat:Nat):Int)-((0:Nat):Int)) 1;rw [e1,e2];exact Heap.get?_push_size _ rfl
 ·have e:b=(s.heap.push { cls:=.type "range",data:=.fields #[.int lo t,.int hi u,.int 1 v] }).objs.size:=by simpa using hb
  subst e;exact I1.fpOk (Nat.le_refl _) (I1.hok.fresh (Nat.le_refl _))
def FY(ta:TA):TI:=fun σ H R=>ta σ H fun vs H1=>∃j:Int,vs=[.int j]/\-(2 ^ 62)<=j/\j<2 ^ 62/\R (Itr 0 j.toNat) H1
theorem sK{a:Expr}{ta:TA}{p pos:Pos}(hg:Gl X "range")(hm:X.mg "range"=none)(ha:PA X [a] ta)(hs:starEach [a] X.env=[(false,eval a X.env)]:=by rfl):PI X tg (.Call (.Name "range" p) [a] [] pos) (FY ta):=by
 intro pins s σ H R I h;refine Call_ (ld_blt I hg hm boot_range (PyProof.Rows.callWith_type1 (thn (ha pos pins s σ H _ I h) fun us s1 ⟨vs,H1,I1,r1,q1⟩=>?_) hs rfl));obtain ⟨j,e,q1,q2,q⟩:=q1;subst e;cases r1 with
 |cons r rr=>
  cases rr;obtain ⟨t,rfl⟩:=r;exact call_range_1 (uj I1 (by lia) (by lia) q1 q2 (by simpa using q))
def tFor(wi:TI)(g:TG)(tb:TS):TS:=fun D σ H=>wi σ H fun J H1=>∃W:Nat->Nat->St->Hp->Prop,(∃m,W 0 m σ H1)/\∀i m σ H,W i m σ H->
 (J.stop i H/\D.nx σ H)\/(J.go i H/\∃N:St->Hp->Prop,(∀σ' H',N σ' H'->∃m',m'<m/\W (i+1) m' σ' H')/\∀x H',J.yld i H x H'->g x σ H' fun σ2 H2=>tb { D with nx:=N,ct:=N,bk:=D.nx } σ2 H2)
def jr(fp:List Addr)(h:Heap):List (Addr×Obj):=fp.filterMap fun b=>(h.get? b).map fun o=>(b,o)
theorem dL{fp:List Addr}{h:Heap}{b:Addr}{o:Obj}(hb:b∈fp)(e:h.get? b=some o):(b,o)∈jr fp h:=List.mem_filterMap.mpr ⟨b,hb,by rw [e];rfl⟩
theorem r_{fp:List Addr}{h:Heap}{p:Addr×Obj}(hp:p∈jr fp h):p.1∈fp/\h.get? p.1=some p.2:=by
 obtain ⟨b,hb,e⟩:=List.mem_filterMap.mp hp;cases q:h.get? b with
 |none=>rw [q] at e;cases e
 |some o=>
  rw [q] at e;have e':(b,o)=p:=Option.some.inj e;subst e';exact ⟨hb,q⟩
theorem Inv.pinned{pins:List (Addr×Obj)}{σ:St}{H:Hp}{s:Shared}{fp:List Addr}(I:Inv X pins σ H s)(hf:∀b∈fp,gO X pins H b)(ho:∀b∈fp,∃o,s.heap.get? b=some o/\∀v,o.data≠.cell v):Inv X (pins++jr fp s.heap) σ H s:=
 I.pins_of fun p hp=>(List.mem_append.mp hp).elim (fun z=>I.pin p (List.mem_append_right _ z)) fun z=>by
  obtain ⟨hb,e⟩:=r_ z;obtain ⟨f0,f1,f2,_⟩:=hf p.1 hb;obtain ⟨o,e',d⟩:=ho p.1 hb;rw [e] at e';cases e';exact ⟨e,f0,f1,f2,d⟩
theorem Inv.unpinned{pins pl:List (Addr×Obj)}{σ:St}{H:Hp}{s:Shared}(I:Inv X (pins++pl) σ H s):Inv X pins σ H s:=I.pins_of fun p hp=>I.pin p (List.mem_append_right _ (List.mem_append_left _ hp))
theorem Bw{iter:Expr}{body:List Stmt}{wi:TI}{g:TG}{tb:TS}{pos:Pos}(hp:PassesOwn (model X.prog X.w) X.A X.env X.xe)(hc:X.calm=true)(hi:PI X tg iter wi)(hg:PG X tg g)(hb:qW X body tb)
  (hs:∀x,foldedSetIterable iter X.env x=pure x:=by intro _;rfl):PS X (.For tg iter body [] pos) (tFor wi g tb):=by
 intro pins s σ H D I h;refine wpAny_For (thn (hi pins s σ H _ I h) fun v s1 h1=>thn h1 fun itv s2 h2=>?_) hs;obtain ⟨it,fp,tn,J,H2,e,I2,T,st2,f2,W,⟨m0,w0⟩,turn⟩:=h2;subst e
 -- what stays true of the iterator's objects through the loop
 have stat:∀{H':Hp},(∀b∈fp,H' b=none)->∀b∈fp,gO X pins H' b:=fun hn b hb=>⟨hn b hb,(f2 b hb).2⟩;refine codeAny_forLoop_any (fun n s'=>∃i σ' H',Inv X pins σ' H' s'/\tn i s'.heap/\(∀b∈fp,H' b=none)/\W i n σ' H') ?_ m0 ⟨0,σ,H2,I2,st2,fun b hb=>(f2 b hb).1,w0⟩
 rintro n s3 ⟨i,σ3,H3,I3,st3,fr3,w3⟩
 rcases turn i n σ3 H3 w3 with ⟨stop,qn⟩|⟨go,N,hN,step⟩
 ·refine wpAny_passesOwn hp (thn (T.done X rfl rfl rfl hc i pins s3 σ3 H3 X.xe I3 (stat fr3) st3 stop) fun r s4 ⟨hr,I4⟩=>?_)
  subst hr;exact wpAny_execs_nil ⟨σ3,H3,I4,qn⟩
 ·refine wpAny_passesOwn hp (thn (T.item X rfl rfl rfl hc i pins s3 σ3 H3 X.xe I3 (stat fr3) st3 go) fun r s4 ⟨u,hr,h4⟩=>?_)
  subst hr;refine wpAny_passesOwn hp (thn h4 fun _ s5 ⟨x,H5,I5,r5,y5,st5,fr5⟩=>?_);have I5':=I5.pinned (stat fr5) (T.obj _ _ st5);refine wpAny_passesOwn hp (thn (hg _ s5 σ3 H5 x u _ I5' r5 (step x H5 y5)) fun _ s6 ⟨σ6,H6,I6,q6⟩=>?_);refine wpAny_passesOwn hp (thn (hb _ s6 σ6 H6 _ I6 q6) fun f s7 q7=>?_);have again:∀{σ7:St} {H7:Hp},Inv X (pins++jr fp s5.heap) σ7 H7 s7->N σ7 H7->∃m,m<n/\∃i σ' H',Inv X pins σ' H' s7/\tn i s7.heap/\(∀b∈fp,H' b=none)/\W i m σ' H':=fun {σ7 H7} I7 n7=>by
   obtain ⟨m',hm,w7⟩:=hN σ7 H7 n7;refine ⟨m',hm,i+1,σ7,H7,I7.unpinned,T.keep _ _ _ st5 fun b hb o e=>(I7.pin (b,o) (List.mem_append_right _ (List.mem_append_right _ (dL hb e)))).1,fun b hb=>?_,w7⟩;obtain ⟨o,e,d⟩:=T.obj _ _ st5 b hb;exact (I7.pin (b,o) (List.mem_append_right _ (List.mem_append_right _ (dL hb e)))).2.1
  cases f with
  |next=>obtain ⟨σ7,H7,I7,n7⟩:=q7;exact again I7 n7
  |cont=>obtain ⟨σ7,H7,I7,n7⟩:=q7;exact again I7 n7
  |brk=>obtain ⟨σ7,H7,I7,q7⟩:=q7;exact ⟨σ7,H7,I7.unpinned,q7⟩
  |ret v=>obtain ⟨x7,σ7,H7,I7,r7,q7⟩:=q7;exact ⟨x7,σ7,H7,I7.unpinned,r7,q7⟩
end
end L2
namespace L2
open PySem PySem.Spec PyProof.Rows
abbrev R2:=V->V->Hp->VK->Prop
def cB(X:Cx)(f:Value->Value->Sem Value)(r:R2):Prop:=
 ∀(pins:List (Addr×Obj)) (s:Shared) (σ:St) (H:Hp) (x y:V) (v u:Value) (Q:VK),Inv X pins σ H s->RelV x v->RelV y u->r x y H Q->
  wpAny (model X.prog X.w) X.A (f v u) (EP X pins σ Q) X.xe s
def cj(X:Cx)(f:Value)(r:List V->Hp->VK->Prop):Prop:=
 ∀(pins:List (Addr×Obj)) (s:Shared) (σ:St) (H:Hp) (xs:List V) (us:List Value) (Q:VK),Inv X pins σ H s->Vals xs us->r xs H Q->
  wpAny (model X.prog X.w) X.A (call f us) (EP X pins σ Q) X.xe s
def TruR(X:Cx)(r:V->Hp->(Bool->Hp->Prop)->Prop):Prop:=
 ∀(pins:List (Addr×Obj)) (s:Shared) (σ:St) (H:Hp) (x:V) (v:Value) (Q:Bool->Hp->Prop),Inv X pins σ H s->RelV x v->r x H Q->
  wpAny (model X.prog X.w) X.A (truthy v) (TP X pins σ Q) X.xe s
def F8(r:R2)(ta tb:TE):TE:=fun σ H Q=>ta σ H fun x H1=>tb σ H1 fun y H2=>r x y H2 Q
def rI(C:Int->Int->Prop)(g:Int->Int->V):R2:=fun x y H Q=>∃i j,x=.int i/\y=.int j/\C i j/\Q (g i j) H
def xf(g:Int->Int->V):R2:=fun x y H Q=>∃i j,x=.int i/\y=.int j/\Q (g i j) H
section
variable {X:Cx}{a b c:Expr}{ta tb tc:TE}{pos:Pos}
theorem binT(ha:PE X a ta)(hb:PE X b tb){pins:List (Addr×Obj)}{s:Shared}{σ:St}{H:Hp}{R:V->V->Hp->Prop}(I:Inv X pins σ H s)
  (h:ta σ H fun x H1=>tb σ H1 fun y H2=>R x y H2) {Q:Value->Shared->Prop} {f:Value->Value->Sem Value}
  (hf:∀v u s2 x y H2,Inv X pins σ H2 s2->RelV x v->RelV y u->R x y H2->wpAny (model X.prog X.w) X.A (f v u) Q X.xe s2):
  wpAny (model X.prog X.w) X.A (eval a X.env) (fun v s₁=>wpAny (model X.prog X.w) X.A (eval b X.env) (fun u s₂=>wpAny (model X.prog X.w) X.A (f v u) Q X.xe s₂) X.xe s₁) X.xe s:=by
 refine thn (ha pins s σ H _ I h) fun v s1 ⟨x,H1,I1,r1,q1⟩=>?_;refine thn (hb pins s1 σ H1 _ I1 q1) fun u s2 ⟨y,H2,I2,r2,q2⟩=>?_;exact hf v u s2 x y H2 I2 r1 r2 q2
theorem EC{op:Operator}{r:R2}(ho:cB X (binaryOp op) r)(ha:PE X a ta)(hb:PE X b tb):PE X (.BinOp a op b pos) (F8 r ta tb):=by
 intro pins s σ H Q I h;exact wpAny_BinOp (binT ha hb I h fun v u s2 x y H2 I2 rx ry q=>ho pins s2 σ H2 x y v u Q I2 rx ry q)
theorem opI{f:Value->Value->Sem Value}{C:Int->Int->Prop}{g:Int->Int->Int}
  (rule:∀(i j:Int) (t u:Tok) (s:Shared) (Q:Value->Shared->Prop) (E:Value->Shared->Prop),C i j->Q (.int (g i j) s.toks) { s with toks:=s.toks+1 }->wpAny (model X.prog X.w) X.A (f (.int i t) (.int j u)) Q E s):
  cB X f (rI C fun i j=>.int (g i j)):=by
 intro pins s σ H x y v u Q I rx ry h;obtain ⟨i,j,rfl,rfl,hc,q⟩:=h;obtain ⟨t,rfl⟩:=rx;obtain ⟨t',rfl⟩:=ry;exact rule i j t t' s _ _ hc ⟨.int (g i j),H,I.tok _,⟨_,rfl⟩,q⟩
theorem Bm{f:Value->Value->Sem Value}{g:Int->Int->Int}
  (rule:∀(i j:Int) (t u:Tok) (s:Shared) (Q:Value->Shared->Prop) (E:Value->Shared->Prop),Q (.int (g i j) s.toks) { s with toks:=s.toks+1 }->wpAny (model X.prog X.w) X.A (f (.int i t) (.int j u)) Q E s):
  cB X f (xf fun i j=>.int (g i j)):=by
 intro pins s σ H x y v u Q I rx ry h;obtain ⟨i,j,rfl,rfl,q⟩:=h;obtain ⟨t,rfl⟩:=rx;obtain ⟨t',rfl⟩:=ry;exact rule i j t t' s _ _ ⟨.int (g i j),H,I.tok _,⟨_,rfl⟩,q⟩
theorem yO{f:Value->Value->Sem Value}{g:Int->Int->Bool}
  (rule:∀(i j:Int) (t u:Tok) (s:Shared) (Q:Value->Shared->Prop) (E:Value->Shared->Prop),Q (.bool (g i j)) s->wpAny (model X.prog X.w) X.A (f (.int i t) (.int j u)) Q E s):
  cB X f (xf fun i j=>.bl (g i j)):=by
 intro pins s σ H x y v u Q I rx ry h;obtain ⟨i,j,rfl,rfl,q⟩:=h;obtain ⟨t,rfl⟩:=rx;obtain ⟨t',rfl⟩:=ry;exact rule i j t t' s _ _ ⟨.bl (g i j),H,I,rfl,q⟩
def FG(i j:Int):Prop:=0<=j/\j<=1000000/\i.natAbs<2 ^ 64
def CMul(i j:Int):Prop:=(-(2 ^ 64)<i/\i<2 ^ 64)\/(-(2 ^ 64)<j/\j<2 ^ 64)
theorem CMul.ok{i j:Int}(h:CMul i j):IntMulOk i j:=by
 rcases h with ⟨h1,h2⟩|⟨h1,h2⟩
 ·exact .of_left (intBits_le_64 h1 h2)
 ·exact .of_right (intBits_le_64 h1 h2)
theorem Ch:cB X (binaryOp .Add) (xf fun i j=>.int (i+j)):=Bm fun _ _ _ _ _ _ _ q=>add_int q
theorem CZ:cB X (binaryOp .Sub) (xf fun i j=>.int (i-j)):=Bm fun _ _ _ _ _ _ _ q=>sub_int q
theorem Bz:cB X (binaryOp .Mult) (rI CMul fun i j=>.int (i*j)):=opI fun _ _ _ _ _ _ _ hc q=>mul_int q hc.ok
theorem Dg:cB X (binaryOp .Mod) (rI (fun _ j=>0<j) fun i j=>.int (i % j)):=opI fun i j _ _ _ _ _ hc q=>by
 have h1:(0:Int)<j:=hc;exact mod_int' (by lia) (by rw [Int.fmod_eq_emod_of_nonneg i (by lia)];exact q)
theorem BH:cB X (binaryOp .Pow) (rI FG fun i j=>.int (i ^ j.toNat)):=opI fun _ _ _ _ _ _ _ hc q=>pow_int_small hc.1 hc.2.1 hc.2.2 q
theorem CJ:cB X (binaryOp .BitXor) (xf fun i j=>.int (Builtin.bitXor i j)):=Bm fun _ _ _ _ _ _ _ q=>xor_int q
end
section
variable {X:Cx}{a b c:Expr}{ta tb tc:TE}{pos:Pos}
theorem pJ{pins:List (Addr×Obj)}{σ:St}{H:Hp}{s:Shared}{Q:VK}{k k':Bool}(I:Inv X pins σ H s)(q:Q (.bl k) H)(e:k=k'):EP X pins σ Q (.bool k') s:=by
 subst e;exact ⟨.bl k,H,I,rfl,q⟩
theorem EJ:cB X (compareOp .Lt) (xf fun i j=>.bl (decide (i<j))):=yO fun _ _ _ _ _ _ _ q=>lt_int q
theorem EV:cB X (compareOp .LtE) (xf fun i j=>.bl (decide (i<=j))):=yO fun _ _ _ _ _ _ _ q=>le_int q
theorem FI:cB X (compareOp .Gt) (xf fun i j=>.bl (decide (j<i))):=yO fun _ _ _ _ _ _ _ q=>gt_int q
theorem ER:cB X (compareOp .GtE) (xf fun i j=>.bl (decide (j<=i))):=yO fun _ _ _ _ _ _ _ q=>ge_int q
theorem Cg:cB X (compareOp .Is) (fun x y H Q=>y=.non/\Q (.bl (decide (x=.non))) H):=by
 intro pins s σ H x y v u Q I rx ry h;obtain ⟨rfl,q⟩:=h;cases ry;refine is_none_gen (pJ I q ?_)
 cases x<;>first
  |(cases rx;rfl)
  |(obtain ⟨t,rfl⟩:=rx;rfl)
theorem yu:cB X (compareOp .IsNot) (fun x y H Q=>y=.non/\Q (.bl (!decide (x=.non))) H):=by
 intro pins s σ H x y v u Q I rx ry h;obtain ⟨rfl,q⟩:=h;cases ry;refine isnot_none_gen (pJ I q ?_)
 cases x<;>first
  |(cases rx;rfl)
  |(obtain ⟨t,rfl⟩:=rx;rfl)
theorem aJ(b:Expr){op:CmpOp}(h:op≠.In:=by decide)(h2:op≠.NotIn:=by decide):behindInMarks op b=false:=by
 have e1:(op==CmpOp.In)=false:=by cases op<;>first|rfl|exact absurd rfl h
 have e2:(op==CmpOp.NotIn)=false:=by cases op<;>first|rfl|exact absurd rfl h2
 cases b<;>simp [behindInMarks,e1,e2]
theorem yF{op:CmpOp}{r:R2}(ho:cB X (compareOp op) r)(ha:PE X a ta)(hb:PE X b tb)(hm:behindInMarks op b=false):PE X (.Compare a [op] [b] pos) (F8 r ta tb):=by
 intro pins s σ H Q I h;exact wpAny_Compare1 (binT ha hb I h fun v u s2 x y H2 I2 rx ry q=>ho pins s2 σ H2 x y v u Q I2 rx ry q) hm
def AX(t:TE):TT:=fun σ H Q=>t σ H fun x H'=>∃k,x=.bl k/\Q k H'
theorem zC{op:CmpOp}{r:R2}(ho:cB X (compareOp op) r)(ha:PE X a ta)(hb:PE X b tb)(hm:behindInMarks op b=false):PT X (.Compare a [op] [b] pos) (AX (F8 r ta tb)):=by
 intro pins s σ H Q I h;refine wpAny_isTrue_Compare1 (thn (ha pins s σ H _ I h) fun v s1 ⟨x,H1,I1,r1,q1⟩=>thn (hb pins s1 σ H1 _ I1 q1) fun u s2 ⟨y,H2,I2,r2,q2⟩=>
  thn (ho pins s2 σ H2 x y v u _ I2 r1 r2 q2) fun c s3 ⟨z,H3,I3,r3,k,e,q3⟩=>?_) hm
 subst e;cases r3;exact wpAny_truthy_bool ⟨H3,I3,q3⟩
def qf(r r':R2)(ta tb tc:TE):TE:=fun σ H Q=>ta σ H fun x H1=>tb σ H1 fun y H2=>r x y H2 fun z H3=>∃k,z=.bl k/\
 (if k=true then tc σ H3 fun w' H4=>r' y w' H4 Q else Q (.bl false) H3)
theorem wU{op op':CmpOp}{r r':R2}(ho:cB X (compareOp op) r)(ho':cB X (compareOp op') r')(ha:PE X a ta)(hb:PE X b tb)(hc:PE X c tc)
  (hm:lastMarks [op,op'] [b,c]=false:=by with_unfolding_all rfl):PE X (.Compare a [op,op'] [b,c] pos) (qf r r' ta tb tc):=by
 intro pins s σ H Q I h;refine Compare_chain (thn (ha pins s σ H _ I h) fun v s1 ⟨x,H1,I1,r1,q1⟩=>chain_link (thn (hb pins s1 σ H1 _ I1 q1) fun u s2 ⟨y,H2,I2,r2,q2⟩=>
  thn (ho pins s2 σ H2 x y v u _ I2 r1 r2 q2) fun d s3 ⟨z,H3,I3,r3,k,e,q3⟩=>?_)) hm
 subst e;cases r3;refine wpAny_truthy_bool ?_;cases k with
 |false=>exact ite_ff ⟨.bl false,H3,I3,rfl,q3⟩
 |true=>exact ite_tt (chain_last (thn (hc pins s3 σ H3 _ I3 q3) fun w' s4 ⟨z',H4,I4,r4,q4⟩=>ho' pins s4 σ H4 y z' u w' Q I4 r2 r4 q4))
theorem ug{op op':CmpOp}{r r':R2}(ho:cB X (compareOp op) r)(ho':cB X (compareOp op') r')(ha:PE X a ta)(hb:PE X b tb)(hc:PE X c tc)
  (hm:lastMarks [op,op'] [b,c]=false:=by with_unfolding_all rfl):PT X (.Compare a [op,op'] [b,c] pos) (AX (qf r r' ta tb tc)):=by
 intro pins s σ H Q I h;refine isTrue_chain (thn (ha pins s σ H _ I h) fun v s1 ⟨x,H1,I1,r1,q1⟩=>test_link (thn (hb pins s1 σ H1 _ I1 q1) fun u s2 ⟨y,H2,I2,r2,q2⟩=>
  thn (ho pins s2 σ H2 x y v u _ I2 r1 r2 q2) fun d s3 ⟨z,H3,I3,r3,k,e,q3⟩=>?_)) hm
 subst e;cases r3;refine wpAny_truthy_bool ?_;cases k with
 |false=>
  obtain ⟨k',e',q'⟩:=q3;cases e';exact ite_ff ⟨H3,I3,q'⟩
 |true=>
  refine ite_tt (test_last (thn (hc pins s3 σ H3 _ I3 q3) fun w' s4 ⟨z',H4,I4,r4,q4⟩=>thn (ho' pins s4 σ H4 y z' u w' _ I4 r2 r4 q4) fun d' s5 ⟨z2,H5,I5,r5,k2,e2,q5⟩=>?_));subst e2;cases r5;exact wpAny_truthy_bool ⟨H5,I5,q5⟩
def DJ(K:W.Frag)(x:V)(H:Hp)(k:Bool):Prop:=
 match x with
 |.non=>k=false
 |.bl b=>k=b
 |.int i=>k=(i != 0)
 |.str y=>y.length<=sizeLine/\k=((y.length:Int) != 0)
 |.byt y=>y.size<=sizeLine/\k=((y.size:Int) != 0)
 |.ref p=>(∃xs,SqL K H p xs/\k=!xs.isEmpty)\/(∃xs,gG K H p xs/\k=!xs.isEmpty)\/∃kvs,H p=some (.dK kvs)/\k=!kvs.isEmpty
 |_=>False
theorem pK{κ:Type}{kvs:List (κ×V)}{vs:List (κ×Value)}(r:KV kvs vs):(!vs.isEmpty)=!kvs.isEmpty:=by
 cases r<;>rfl
theorem jf{xs:List V}{its:List Value}(r:Vals xs its):(!its.toArray.isEmpty)=!xs.isEmpty:=by
 cases r<;>simp
theorem fT:(sizeLine:Nat)<2 ^ 63:=by rw [sizeLine_eq];decide
theorem BI:TruR X (fun x H Q=>∃k,DJ X.K x H k/\Q k H):=by
 intro pins s σ H x v Q I rx h;obtain ⟨k,e,q⟩:=h;have hl:=fT;have hs:sizeLine=16777216:=sizeLine_eq;cases x with
 |non=>
  cases rx;have e':k=false:=e;subst e';exact truthy_none ⟨H,I,q⟩
 |bl b=>
  cases rx;have e':k=b:=e;subst e';exact wpAny_truthy_bool ⟨H,I,q⟩
 |int i=>
  obtain ⟨t,rfl⟩:=rx;have e':k=(i != 0):=e;subst e';exact PySem.P.truthy_int ⟨H,I,q⟩
 |str y=>
  obtain ⟨t,rfl⟩:=rx;obtain ⟨hy,e'⟩:y.length<=sizeLine/\k=((y.length:Int) != 0):=e;subst e';exact PySem.P.truthy_str (by lia) ⟨H,I.tok _,q⟩
 |byt y=>
  obtain ⟨t,rfl⟩:=rx;obtain ⟨hy,e'⟩:y.size<=sizeLine/\k=((y.size:Int) != 0):=e;subst e';exact W.truthy_bytes (by lia) ⟨H,I.tok _,q⟩
 |ref p=>
  cases rx;have e':(∃xs,SqL X.K H p xs/\k=!xs.isEmpty)\/(∃xs,gG X.K H p xs/\k=!xs.isEmpty)\/∃kvs,H p=some (.dK kvs)/\k=!kvs.isEmpty:=e;rcases e' with ⟨xs,hx,e'⟩|⟨xs,hx,e'⟩|⟨kvs,hx,e'⟩
  ·subst e'
   obtain ⟨its,r,pl,hz⟩:=I.list hx;have hlen:=r.length;exact wpAny_truthy_list pl.isList (by simp only [List.size_toArray];lia) ⟨H,I.tok _,by rw [jf r];exact q⟩
  ·subst e'
   obtain ⟨its,r,pl,hz⟩:=I.tuple hx;have hlen:=r.length;exact truthy_tuple pl (by simp only [List.size_toArray];lia) ⟨H,I.tok _,by rw [jf r];exact q⟩
  ·subst e'
   obtain ⟨hz,hS,vs,r,m⟩:kvs.length<=sizeLine/\(p==sysModules)=false/\∃vs,KV kvs vs/\s.heap.DictOf (bJ X.prog X.w) p vs:=I.hok p _ hx;have hlen:kvs.length=vs.length:=Paired.length r;exact wpAny_truthy_dict hS m (by lia) ⟨H,I.tok _,by rw [pK r];exact q⟩
 |_=>exact (show False from e).elim
theorem vi(ha:PE X a ta)(he:∀whole,isTrue a X.env whole=(do let v <- whole;standAt a.pos;holding [v] (truthy v))):
  PT X a (fun σ H Q=>ta σ H fun x H'=>∃k,DJ X.K x H' k/\Q k H'):=by
 intro pins s σ H Q I h;exact isTrue_plain (thn (ha pins s σ H _ I h) fun v s1 ⟨x,H1,I1,r1,q1⟩=>BI pins s1 σ H1 x v Q I1 r1 q1) (he _)
theorem pE:cB X (binaryOp .Add) (fun x y H Q=>∃i j,x=.str i/\y=.str j/\i.length+j.length<=sizeLine/\Q (.str (i++j)) H):=by
 intro pins s σ H x y v u Q I rx ry h;obtain ⟨i,j,rfl,rfl,hz,q⟩:=h;obtain ⟨t,rfl⟩:=rx;obtain ⟨t',rfl⟩:=ry;exact add_str (fun t' tk=>⟨.str (i++j),H,I.tok _,⟨_,rfl⟩,q⟩) hz
theorem fJ{x:V}{us:List Value}(r:Vals [x] us):∃u,us=[u]/\RelV x u:=by
 cases r with
 |cons r1 r2=>cases r2;exact ⟨_,rfl,r1⟩
theorem Fk{x y:V}{us:List Value}(r:Vals [x,y] us):∃u w',us=[u,w']/\RelV x u/\RelV y w':=by
 cases r with
 |cons r1 r2=>
  cases r2 with
  |cons r3 r4=>cases r4;exact ⟨_,_,rfl,r1,r3⟩
theorem tq(hc:X.calm=true):cj X (.builtin "min") (fun xs H Q=>∃i j,xs=[.int i,.int j]/\Q (.int (if j<i then j else i)) H):=by
 intro pins s σ H xs us Q I r h;obtain ⟨i,j,rfl,q⟩:=h;obtain ⟨u,w',rfl,⟨t,rfl⟩,⟨t',rfl⟩⟩:=Fk r;refine min_two_ints (I.ok.hd hc) fun h' tk k=>⟨_,H,I.kept k,?_,q⟩
 by_cases hj:j<i
 ·rw [if_pos hj,if_pos hj];exact ⟨_,rfl⟩
 ·rw [if_neg hj,if_neg hj];exact ⟨_,rfl⟩
end
end L2
namespace L2
open PySem PySem.Spec PyProof.Rows
structure ObjM(h:Heap)(x dx C:Addr)(mA:Str->Option Value):Prop where
 obj:h.get? x=some (W.instObj C dx)
 ns:h.Ns1 dx mA
 ne:dx≠x
theorem sk{h:Heap}{dx:Addr}{mA:Str->Option Value}(n:h.Ns1 dx mA):∃od,h.get? dx=some od/\∀name,W.lookIn name od=some (mA name):=by
 obtain ⟨o,es,ep,ho,hd,hk,_,hm⟩:=n;refine ⟨o,ho,fun name=>?_⟩;have e:=hm name;unfold nsFind findBy at e;rw [<- Array.find?_toList] at e;unfold W.lookIn;rw [hd];dsimp only
 split
 ·rename_i y q
  rw [q] at e;exact congrArg some e
 ·rename_i q
  rw [q] at e;have a:es.toList.any (·.refKey)=false:=by
   rw [List.any_eq_false];intro y hy;obtain ⟨z,t,hkey⟩:=hk y (Array.mem_toList_iff.mp hy);simp [DictEntry.refKey,hkey]
  have a':¬es.toList.any (·.refKey)=true:=by rw [a];exact Bool.false_ne_true
  rw [if_neg a'];exact congrArg some e
theorem ObjM.look{h:Heap}{x dx C:Addr}{mA:Str->Option Value}(I:ObjM h x dx C mA):∃od,W.InstAt h x (W.instObj C dx) C (some od)/\∀name,W.lookIn name od=some (mA name):=
 let ⟨od,ho,hl⟩:=sk I.ns
 ⟨od,⟨I.obj,rfl,rfl,ho⟩,hl⟩
section
variable {prog:Program}{w:World}{A:Around}{E:Value->Shared->Prop}{s:Shared}{K:W.Frag}{x dx C f:Addr}{mA:Str->Option Value}{name:Str}{v:Value}
theorem zm{expr:Bool}{Q:Value->Shared->Prop}(X:K.In s.heap)(I:ObjM s.heap x dx C mA)(hg:W.plainGet K C name=true)(hh:W.hasDictIn K C=true)
  (ha:W.findIn K (.ref C) name=some none) (hv:mA name=some v) (hv':W.handedIn v=true) (h:Q v { s with toks:=s.toks+1 }):
  wpAny (model prog w) A (getAttr (.ref x) name expr) Q E s:=by
 obtain ⟨od,J,hl⟩:=I.look;exact W.get_value X J (W.plainGet_of hg).1 (W.findObj_own hh ha rfl (by rw [hl,hv])) hv' h
theorem tW{pl:Sem Bool}{Q:Value×List Value->Shared->Prop}(X:K.In s.heap)(I:ObjM s.heap x dx C mA)(hg:W.plainGet K C name=true)
  (hf:W.findIn K (.ref C) name=some (some (.ref f))) (ht:W.isFn K (.ref f)=true) (hv:mA name=none) (h:Q (.ref f,[.ref x]) s):
  wpAny (model prog w) A (getMethod (.ref x) name pl) Q E s:=by
 obtain ⟨od,J,hl⟩:=I.look;exact W.method_fn X J (W.plainGet_of hg).1 (W.plainGet_of hg).2 hf (beq_iff_eq.mp ht) (by show (W.lookIn name od).map (·.isSome)=some false;rw [hl,hv];rfl) h
theorem A0{ns:List Str}{Q:Unit->Shared->Prop}(X:K.In s.heap)(I:ObjM s.heap x dx C mA)
  (hs:W.findIn K (.ref C) "__setattr__"=some (some (.builtin "object.__setattr__"))) (hp:W.plainOver K C=true) (ht:W.takerIn K C name=some none) (hh:W.hasDictIn K C=true)
  (hw:PySem.Within mA ns) (hsz:ns.length<=sizeLine)
  (h:∀h',ObjM h' x dx C (fun y=>if y=name then some v else mA y)->Heap.SameBut dx s.heap h'->Q () { s with heap:=h',toks:=s.toks+2 }):
  wpAny (model prog w) A (setAttr (.ref x) name v) Q E s:=by
 obtain ⟨od,J,hl⟩:=I.look;refine W.set_plain X J hs (W.osa_open (s:={ s with toks:=s.toks+1 }) (r:=none) X J hp ht fun b=>?_);obtain ⟨cd,hc,hd'⟩:=W.any_some hh;have hx:s.heap.get? x=some ⟨.ref C,some dx,.plain,#[]⟩:=I.obj;refine wpAny_bind (wpAny_pure (wpAny_bind (wpAny_bind (wpAny_loadPart hx (wpAny_bind (W.Looks.here (s:={ s with toks:=s.toks+1 }) (W.looks_clsIn X hc) ?_))))));rw [hd'];refine wpAny_pure (a:=some dx) (wpAny_bind (wpAny_pure (wpAny_bind ?_)));refine wpAny_nsSet1 (s:={ s with toks:=s.toks+1 }) I.ns fun h' hn2 hs2=>?_;obtain ⟨oD,esD,epD,hoD,hdD,hcD⟩:=hn2.count (PySem.Within.cons name v hw);refine wpAny_bind (wpAny_lookBehind hoD (by rw [hdD];exact pastItsLine_dict (Nat.le_trans hcD (by rw [List.length_cons];lia))) ?_)
 exact wpAny_pure (h _ ⟨(hs2.2 _ (Ne.symm I.ne)).trans I.obj,hn2,I.ne⟩ hs2)
theorem vS{R:Result->Shared->Prop}{vs:List Value}{kw:List (Str×Value)}(X:K.In s.heap)(hm:W.makesIn K C=true)
  (hi:W.findIn K (.ref C) "__init__"=some (some (.ref f))) (hf:W.typeIn K (.ref f)=some (.type "function"))
  (h:codeAny (model prog w) (A.under (.builtin "type.__call__" ⟨.ref C::vs,kw⟩)) (.call (.ref f) ⟨.ref (s.heap.objs.size+1)::vs,kw⟩) (W.InitBack (s.heap.objs.size+1) R)
   { s with heap:=(s.heap.push W.emptyDict).push (W.instObj C s.heap.objs.size) }):
  codeAny (model prog w) A (.call (.ref C) ⟨vs,kw⟩) R s:=by
 obtain ⟨hh,g,d,t,os⟩:=s;exact W.make_core (W.makes_of X hm) (W.looks_findIn X hi) (fun self=>W.bind_fn X self hf) (.inl rfl) h
end
def dj(f:Str)(v:V):List (Str×V)->List (Str×V)
 |[]=>[(f,v)]
 |(g,x)::r=>if g=f then (g,v)::r else (g,x)::dj f v r
theorem iq(f g:Str)(v:V):∀fs:List (Str×V),(dj f v fs).lookup g=if g=f then some v else fs.lookup g
 |[]=>by
  show List.lookup g [(f,v)]=_
  by_cases h:g=f
  ·have hb:(g==f)=true:=beq_iff_eq.mpr h
   simp only [List.lookup,hb,if_pos h]
  ·have hb:(g==f)=false:=beq_eq_false_iff_ne.mpr h
   simp only [List.lookup,hb,if_neg h]
 |(k,x)::r=>by
  have ih:=iq f g v r;rw [show dj f v ((k,x)::r)=(if k=f then (k,v)::r else (k,x)::dj f v r) from rfl]
  by_cases hk:k=f
  ·rw [if_pos hk]
   by_cases h:g=k
   ·have hb:(g==k)=true:=beq_iff_eq.mpr h
    simp only [List.lookup,hb,if_pos (h.trans hk)]
   ·have hb:(g==k)=false:=beq_eq_false_iff_ne.mpr h
    simp only [List.lookup,hb,if_neg (fun e:g=f=>h (e.trans hk.symm))]
  ·rw [if_neg hk]
   by_cases h:g=k
   ·have hb:(g==k)=true:=beq_iff_eq.mpr h
    simp only [List.lookup,hb,if_neg (fun e:g=f=>hk (h.symm.trans e))]
   ·have hb:(g==k)=false:=beq_eq_false_iff_ne.mpr h
    simp only [List.lookup,hb];exact ih
theorem gJ(f:Str)(v:V):∀fs:List (Str×V),f∈(dj f v fs).map (·.1)/\∀g,g∈fs.map (·.1)->g∈(dj f v fs).map (·.1)
 |[]=>⟨by simp [dj],fun g h=>by simp at h⟩
 |(k,x)::r=>by
  obtain ⟨i1,i2⟩:=gJ f v r;rw [show dj f v ((k,x)::r)=(if k=f then (k,v)::r else (k,x)::dj f v r) from rfl]
  by_cases hk:k=f
  ·rw [if_pos hk]
   subst hk;exact ⟨by simp,fun g h=>by simpa using h⟩
  ·rw [if_neg hk]
   refine ⟨?_,fun g h=>?_⟩
   ·rw [List.map_cons]
    exact List.mem_cons_of_mem _ i1
   ·rw [List.map_cons] at h ⊢
    rcases List.mem_cons.mp h with e|e
    ·exact List.mem_cons.mpr (.inl e)
    ·exact List.mem_cons_of_mem _ (i2 g e)
theorem iu(f:Str)(v:V):∀fs:List (Str×V),(dj f v fs).length<=fs.length+1
 |[]=>by simp [dj]
 |(k,x)::r=>by
  have ih:=iu f v r;rw [show dj f v ((k,x)::r)=(if k=f then (k,v)::r else (k,x)::dj f v r) from rfl]
  by_cases hk:k=f
  ·rw [if_pos hk,List.length_cons,List.length_cons];lia
  ·rw [if_neg hk,List.length_cons,List.length_cons];lia
theorem eh{v:V}{o:Option Value}(r:RelO (some v) o):∃u,o=some u/\RelV v u:=by
 cases o with
 |none=>exact (show False from r).elim
 |some u=>exact ⟨u,rfl,r⟩
theorem md{o:Option Value}(r:RelO none o):o=none:=by
 cases o with
 |none=>rfl
 |some u=>exact (show False from r).elim
theorem sU{v:V}{u:Value}(r:RelV v u):W.handedIn u=true:=by
 cases v with
 |non=>cases (show u=Value.none from r);rfl
 |bl b=>cases (show u=Value.bool b from r);rfl
 |int i=>obtain ⟨t,e⟩:=(show ∃t,u=Value.int i t from r);cases e;rfl
 |str x=>obtain ⟨t,e⟩:=(show ∃t,u=Value.str x t from r);cases e;rfl
 |byt b=>obtain ⟨t,e⟩:=(show ∃t,u=Value.bytes b t from r);cases e;rfl
 |flt b=>obtain ⟨t,e⟩:=(show ∃t,u=Value.float b t from r);cases e;rfl
 |ref a=>cases (show u=Value.ref a from r);rfl
 |ty n=>cases (show u=Value.type n from r);rfl
section
variable {P:Program}{w:World}{H H':Hp}{h h':Heap}{a C dx:Addr}{fs fs':List (Str×V)}
theorem iT(hok:HOk P w H h)(e:H a=some (.ins C dx fs)):∃mA,ObjM h a dx C mA/\(∀f,RelO (fs.lookup f) (mA f))/\PySem.Within mA (fs.map (·.1))/\fs.length<=1000/\H dx=some (.own a):=by
 obtain ⟨d,z,ne,ob,mA,n,r,q⟩:=(show ObjOk P w H h a (.ins C dx fs) from hok a _ e);exact ⟨mA,⟨ob,n,ne⟩,r,q,z,d⟩
end
structure Cls(K:W.Frag)(C:Addr):Prop where
 pg:W.plainGet K C Str.empty=true
 hd:W.hasDictIn K C=true
 po:W.plainOver K C=true
 sa:W.findIn K (.ref C) "__setattr__"=some (some (.builtin "object.__setattr__"))
theorem Cls.get{K:W.Frag}{C:Addr}(c:Cls K C)(f:Str):W.plainGet K C f=true:=c.pg
def NoAttr(K:W.Frag)(C:Addr)(f:Str):Prop:=W.findIn K (.ref C) f=some none
theorem NoAttr.taker{K:W.Frag}{C:Addr}{f:Str}(n:NoAttr K C f):W.takerIn K C f=some none:=by
 unfold W.takerIn;rw [show W.findIn K (.ref C) f=some none from n];rfl
structure Meth(K:W.Frag)(C:Addr)(m:Str)(f:Addr):Prop where
 at_:W.findIn K (.ref C) m=some (some (.ref f))
 fn:W.isFn K (.ref f)=true
 kp:W.keepIn K (.ref f)=true
section
variable {X:Cx}{pins:List (Addr×Obj)}{σ:St}{H:Hp}{s:Shared}{a C dx:Addr}{fs:List (Str×V)}{f:Str}{v:V}{A:Around}{E:Value->Shared->Prop}
theorem p7{b:Bool}{Q:Value->Shared->Prop}(I:Inv X pins σ H s)(e:H a=some (.ins C dx fs))(c:Cls X.K C)(n:NoAttr X.K C f)(l:fs.lookup f=some v)
  (h:∀u s',Inv X pins σ H s'->RelV v u->Q u s'):wpAny (model X.prog X.w) A (getAttr (.ref a) f b) Q E s:=by
 obtain ⟨mA,O,r,_,_,_⟩:=iT I.hok e;obtain ⟨u,hu,ru⟩:=eh (v:=v) (o:=mA f) (by rw [<- l];exact r f)
 exact zm I.kIn O (c.get f) c.hd n hu (sU ru) (h u _ (I.tok _) ru)
theorem jD{m:Str}{g:Addr}{pl:Sem Bool}{Q:Value×List Value->Shared->Prop}(I:Inv X pins σ H s)(e:H a=some (.ins C dx fs))(c:Cls X.K C)(k:Meth X.K C m g)(l:fs.lookup m=none)
  (h:Q (.ref g,[.ref a]) s):wpAny (model X.prog X.w) A (getMethod (.ref a) m pl) Q E s:=by
 obtain ⟨mA,O,r,_,_,_⟩:=iT I.hok e;have hn:mA m=none:=md (by rw [<- l];exact r m)
 exact tW I.kIn O (c.get m) k.at_ k.fn hn h
theorem p0{y:V}{u:Value}{Q:Unit->Shared->Prop}(I:Inv X pins σ H s)(e:H a=some (.ins C dx fs))(c:Cls X.K C)(n:NoAttr X.K C f)(hl:fs.length<1000)(ry:RelV y u)
  (h:∀s',Inv X pins σ (upd H a (.ins C dx (dj f y fs))) s'->Q () s'):wpAny (model X.prog X.w) A (setAttr (.ref a) f u) Q E s:=by
 obtain ⟨mA,O,r,wi,_,ho⟩:=iT I.hok e;have hz:(fs.map (·.1)).length<=sizeLine:=by rw [List.length_map,sizeLine_eq];lia
 refine A0 I.kIn O c.sa c.po n.taker c.hd wi hz fun h' O' sb=>h _ ?_;have hd:∃o,h'.get? dx=some o:=let ⟨o,_,_,e',_⟩:=O'.ns;⟨o,e'⟩;refine I.write (x:=a) (e:=dx) (by rw [e];exact True.intro) (.inr ho) (fun b q hb z=>(sb.2 b hb).trans z) hd ?_
 refine ⟨by rw [upd_ne O.ne];exact ho,?_,O.ne,O'.obj,_,O'.ns,fun g=>?_,fun g hg=>?_⟩
 ·have:=iu f y fs;lia
 ·show RelO ((dj f y fs).lookup g) (if g=f then some u else mA g)
  rw [iq]
  by_cases q:g=f
  ·rw [if_pos q,if_pos q];exact ry
  ·rw [if_neg q,if_neg q];exact r g
 ·by_cases q:g=f
  ·rw [q];exact (gJ f y fs).1
  ·refine (gJ f y fs).2 g (wi g fun z=>hg ?_)
   show (if g=f then some u else mA g)=none
   rw [if_neg q];exact z
theorem Inv.made(I:Inv X pins σ H s):Inv X pins σ (upd (upd H s.heap.objs.size (.own (s.heap.objs.size+1))) (s.heap.objs.size+1) (.ins C s.heap.objs.size []))
  { s with heap:=(s.heap.push W.emptyDict).push (W.instObj C s.heap.objs.size) }:=by
 have e1:(s.heap.push W.emptyDict).get? s.heap.objs.size=some W.emptyDict:=Heap.get?_push_size s.heap rfl;have e2:((s.heap.push W.emptyDict).push (W.instObj C s.heap.objs.size)).get? (s.heap.objs.size+1)=some (W.instObj C s.heap.objs.size):=by
  have:=Heap.get?_push_size (s.heap.push W.emptyDict) (o:=W.instObj C s.heap.objs.size) rfl
  rwa [Heap.size_push] at this
 have e3:(s.heap.push W.emptyDict).Ns s.heap.objs.size (fun _=>none):=⟨W.emptyDict,#[],_,e1,rfl,(fun e he=>absurd he (by simp)),fun _=>rfl⟩
 have I1:=I.laid (a:=s.heap.objs.size) (o:=.own (s.heap.objs.size+1)) (h':=s.heap.push W.emptyDict) (t':=s.toks) (fun b u q=>Heap.get?_push_of_some _ q) (Nat.le_refl _) ⟨_,e1⟩;refine I1.laid (a:=s.heap.objs.size+1) (o:=.ins C s.heap.objs.size []) (t':=s.toks) (fun b u q=>Heap.get?_push_of_some _ q) (Nat.le_of_eq (Heap.size_push _ _)) ?_;have ne:s.heap.objs.size≠s.heap.objs.size+1:=Nat.ne_of_lt (Nat.lt_succ_self _);refine ⟨by rw [upd_ne ne,upd_same],Nat.zero_le _,ne,e2,fun _=>none,(Heap.Ns1.of_empty e3).at fun o q=>Heap.get?_push_of_some _ q,fun _=>True.intro,fun y hy=>absurd rfl hy⟩
theorem attr_of{prog:Program}{w:World}{env:Env}{e:Expr}{f:Str}{pos:Pos}{s:Shared}{Q:Value->Shared->Prop}(hb:attributeBase e f env (eval e env)=eval e env)
  (h:wpAny (model prog w) A (eval e env) (fun o s₁=>wpAny (model prog w) A (getAttr o f true) Q E s₁) E s):wpAny (model prog w) A (eval (.Attribute e f pos) env) Q E s:=
 Attribute_any_ h (by rw [arm_eval_Attribute,hb])
end
def tFld(K:W.Frag)(ta:TE)(f:Str):TE:=fun σ H Q=>ta σ H fun x H1=>∃a C dx fs v,x=.ref a/\H1 a=some (.ins C dx fs)/\Cls K C/\NoAttr K C f/\fs.lookup f=some v/\Q v H1
def sFld(K:W.Frag)(ta tv:TE)(f:Str):TS:=fun D σ H=>tv σ H fun y H1=>ta σ H1 fun x H2=>∃a C dx fs,x=.ref a/\H2 a=some (.ins C dx fs)/\Cls K C/\NoAttr K C f/\fs.length<1000/\
 D.nx σ (upd H2 a (.ins C dx (dj f y fs)))
section
variable {X:Cx}{o e value:Expr}{f:Str}{pos pos' tpos:Pos}{ta tv:TE}
theorem BS(he:PE X e ta)(hb:attributeBase e f X.env (eval e X.env)=eval e X.env):PE X (.Attribute e f pos) (tFld X.K ta f):=by
 intro pins s σ H Q I h;refine attr_of hb (thn (he pins s σ H _ I h) fun u s1 zz=>?_);obtain ⟨x,H1,I1,rx,a,C,dx,fs,v,ex,ea,c,n,l,q⟩:=zz;subst ex;obtain rfl:u=Value.ref a:=rx;exact p7 I1 ea c n l fun u' s2 I2 ru=>⟨v,H1,I2,ru,q⟩
theorem Bh(ha:PE X o ta)(hv:PE X value tv)(hs:swapsWith value (some (.Attribute o f pos')) pos.line X.env=pure false):PS X (.Assign [.Attribute o f pos'] value pos) (sFld X.K ta tv f):=by
 intro pins s σ H D I h;refine plainObj_wpAny_Assign_Attribute (thn (hv pins s σ H _ I h) fun u s1 ⟨y,H1,I1,ry,q⟩=>thn (ha pins s1 σ H1 _ I1 q) fun ov s2 zz=>?_) hs;obtain ⟨x,H2,I2,rx,a,C,dx,fs,ex,ea,c,n,l,q2⟩:=zz;subst ex;obtain rfl:ov=Value.ref a:=rx;exact p0 I2 ea c n l ry fun s3 I3=>⟨σ,_,I3,q2⟩
theorem A_{pl:Sem Bool}{m:Str}{apos:Pos}{args:List Expr}{pins:List (Addr×Obj)}{s:Shared}{σ:St}{H:Hp}{Q:Value->Shared->Prop}{te:TE}(he:PE X e te)(I:Inv X pins σ H s)
  (h:te σ H fun x H1=>∃a C dx fs g,x=.ref a/\H1 a=some (.ins C dx fs)/\Cls X.K C/\Meth X.K C m g/\fs.lookup m=none/\
   ∀s1,Inv X pins σ H1 s1->wpAny (model X.prog X.w) X.A (callWith pos (.ref g) [.ref a] (backTo pos (starEach args X.env)) (backToKw pos (keywordEach [] X.env))) Q X.xe s1)
  (ht:eval (.Call (.Attribute e m apos) args [] pos) X.env=(do
   let ov <- eval e X.env
   standAt apos.atName
   let (f,first) <- holding [ov] (getMethod ov m pl)
   callWith pos f first (backTo pos (starEach args X.env)) (backToKw pos (keywordEach [] X.env)))):
  wpAny (model X.prog X.w) X.A (eval (.Call (.Attribute e m apos) args [] pos) X.env) Q X.xe s:=by
 refine W.methodCall_KW (pl:=pl) (thn (he pins s σ H _ I h) fun u s1 zz=>?_) ht;obtain ⟨x,H1,I1,rx,a,C,dx,fs,g,ex,ea,c,k,l,q⟩:=zz;subst ex;obtain rfl:u=Value.ref a:=rx;exact jD I1 ea c k l (q s1 I1)
end
section
variable {X:Cx}{pins:List (Addr×Obj)}{σ:St}{H:Hp}{s:Shared}{A:Around}{E:Value->Shared->Prop}{Q:Value->Shared->Prop}{c:Value}{b:Bool}
inductive TyOf(K:W.Frag)(H:Hp):V->Value->Prop where
 |non:TyOf K H .non (.type "NoneType")
 |bl (x:Bool):TyOf K H (.bl x) (.type "bool")
 |int (i:Int):TyOf K H (.int i) (.type "int")
 |str (x:Str):TyOf K H (.str x) (.type "str")
 |flt (x:UInt64):TyOf K H (.flt x) (.type "float")
 |lst {a:Addr} {xs:List V} (e:H a=some (.lst xs)):TyOf K H (.ref a) (.type "list")
 |frz {a:Addr} {o:Obj} {xs:List V} (e:H a=some (.frz o (.lst xs))):TyOf K H (.ref a) (.type "list")
 |tup {a:Addr} {xs:List V} (e:H a=some (.tup xs)):TyOf K H (.ref a) (.type "tuple")
 |dK {a:Addr} {kvs:List (bR×V)} (e:H a=some (.dK kvs)):TyOf K H (.ref a) (.type "dict")
 |dT {a:Addr} {kvs:List (List bR×V)} (e:H a=some (.dT kvs)):TyOf K H (.ref a) (.type "dict")
 |ins {a C dx:Addr} {fs:List (Str×V)} (e:H a=some (.ins C dx fs)) (cl:Cls K C) (ha:W.findIn K (.ref C) "__class__"=some (some (.builtin "object.__class__")))
   (hn:W.specialIn K (.builtin "object.__class__") "__get__"=some (some (.builtin "getset_descriptor.__get__"))) (htk:W.takesIn K (.builtin "object.__class__")=some true)
   (hm:W.mroIn K C (.type "object")=some true):TyOf K H (.ref a) (.ref C)
theorem sG{x:V}{u t:Value}(I:Inv X pins σ H s)(rx:RelV x u)(ty:TyOf X.K H x t)(e:W.kitOne X.K t c=some b)(h:∀tk,Q (.bool b) { s with toks:=tk }):
  wpAny (model X.prog X.w) A (call (.builtin "isinstance") [u,c]) Q E s:=by
 cases ty with
 |non=>cases (show u=Value.none from rx);exact W.kia_one W.kitx_none I.kIn True.intro e (fun z=>nomatch z) h
 |bl y=>cases (show u=Value.bool y from rx);exact W.kia_one W.kitx_bool I.kIn True.intro e (fun z=>nomatch z) h
 |int i=>obtain ⟨t,q⟩:=(show ∃t,u=Value.int i t from rx);cases q;exact W.kia_one W.kitx_int I.kIn True.intro e (fun z=>nomatch z) h
 |str y=>obtain ⟨t,q⟩:=(show ∃t,u=Value.str y t from rx);cases q;exact W.kia_one W.kitx_str I.kIn True.intro e (fun z=>nomatch z) h
 |flt y=>obtain ⟨t,q⟩:=(show ∃t,u=Value.float y t from rx);cases q;exact W.kia_one W.kitx_float I.kIn True.intro e (fun z=>nomatch z) h
 |@lst a xs ea=>
  cases (show u=Value.ref a from rx);obtain ⟨_,_,n,_,h1⟩:=(show ObjOk X.prog X.w H s.heap a (.lst xs) from I.hok a _ ea);exact W.kia_one W.kitx_list I.kIn ⟨_,h1,rfl⟩ e (fun z=>nomatch z) h
 |@frz a ob xs ea=>
  cases (show u=Value.ref a from rx);obtain ⟨_,_,_,n,_,h1⟩:=(show ObjOk X.prog X.w H s.heap a (.frz ob (.lst xs)) from I.hok a _ ea);exact W.kia_one W.kitx_list I.kIn ⟨_,h1,rfl⟩ e (fun z=>nomatch z) h
 |@tup a xs ea=>
  cases (show u=Value.ref a from rx);obtain ⟨_,_,_,p⟩:=(show ObjOk X.prog X.w H s.heap a (.tup xs) from I.hok a _ ea);obtain ⟨o,h1,⟨h2,_⟩,_⟩:=p;exact W.kia_one W.kitx_tuple I.kIn ⟨o,h1,h2⟩ e (fun z=>nomatch z) h
 |@dK a kvs ea=>
  cases (show u=Value.ref a from rx);obtain ⟨_,_,vs,_,p⟩:=(show ObjOk X.prog X.w H s.heap a (.dK kvs) from I.hok a _ ea);obtain ⟨o,es,ep,h1,h2,_⟩:=p;exact W.kia_one W.kitx_dict I.kIn ⟨o,h1,h2.1⟩ e (fun z=>nomatch z) h
 |@dT a kvs ea=>
  cases (show u=Value.ref a from rx);obtain ⟨_,_,xs,_,o,es,ep,h1,h2,_⟩:=(show ObjOk X.prog X.w H s.heap a (.dT kvs) from I.hok a _ ea);exact W.kia_one W.kitx_dict I.kIn ⟨o,h1,h2.1⟩ e (fun z=>nomatch z) h
 |@ins a C dx fs ea cl ha hn htk hm=>
  cases (show u=Value.ref a from rx);obtain ⟨mA,O,_⟩:=iT I.hok ea;obtain ⟨od,J,_⟩:=O.look;exact W.kia_one (W.kitx_own (cl.get _) cl.hd ha hn htk hm) I.kIn J e (fun z=>nomatch z) h
end
end L2
namespace L2
open PySem PySem.Spec PyProof.Rows
structure Room(k:Nat)(A:Around):Prop where
 hd:A.handled=none
 dp:A.depth+3*k+5<recursionLimit
 un:A.units+16*k+200<cLine
 gd:A.guards=some []
theorem Room.mono{j k:Nat}{A:Around}(r:Room k A)(h:j<=k):Room j A:=⟨r.hd,by have:=r.dp;lia,by have:=r.un;lia,r.gd⟩
theorem Room.deeper{k:Nat}{A:Around}(r:Room (k+1) A)(env:Env):Room k (A.deeper env):=
 ⟨r.hd,by have:=r.dp;show A.depth+1+3*k+5<_;lia,by have:=r.un;show A.units+3+16*k+200<_;lia,r.gd⟩
theorem pW{A:Around}{C:Addr}{us:List Value}{kw:List (Str×Value)}:(A.under (.builtin "type.__call__" ⟨.ref C::us,kw⟩)).depth=A.depth+1:=by
 first|rfl|simp [Around.under,Code.weight,Code.isCreation,Code.isGuard,Code.isCaller,Code.frames,Code.isFrame,guardIds]
theorem p4{A:Around}{C:Addr}{us:List Value}{kw:List (Str×Value)}:(A.under (.builtin "type.__call__" ⟨.ref C::us,kw⟩)).units=A.units+1:=by
 first|rfl|simp [Around.under,Code.cUnits,Code.frames,Code.isFrame]
theorem o5{A:Around}{C:Addr}{us:List Value}{kw:List (Str×Value)}:(A.under (.builtin "type.__call__" ⟨.ref C::us,kw⟩)).guards=A.guards:=by
 first|rfl|simp [Around.under,Code.guards,pushGuards,Code.isGuard,guardIds]
theorem Room.make{k:Nat}{A:Around}(r:Room (k+1) A)(C:Addr)(us:List Value)(kw:List (Str×Value)):Room k (A.under (.builtin "type.__call__" ⟨.ref C::us,kw⟩)):=
 ⟨r.hd,by have:=r.dp;rw [pW];lia,by have:=r.un;rw [p4];lia,by rw [o5];exact r.gd⟩
theorem Room.depth{k:Nat}{A:Around}(r:Room k A):A.depth<recursionLimit:=by have:=r.dp;lia
theorem Room.units{k:Nat}{A:Around}(r:Room k A):A.units+64<cLine:=by have:=r.un;lia
def tNil:TA:=fun _ H Q=>Q [] H
def F0(ta:TE)(tr:TA):TA:=fun σ H Q=>ta σ H fun x H1=>tr σ H1 fun xs H2=>Q (x::xs) H2
section
variable {X:Cx}{e:Expr}{es:List Expr}{te:TE}{t:TA}{pos:Pos}
theorem vz:PA X [] tNil:=fun _ _ _ _ H Q I h=>Calls.spliced_nil ⟨[],H,I,.nil,h⟩
theorem qx(ha:PE X e te)(hr:PA X es t)(hs:starEach (e::es) X.env=(false,eval e X.env)::starEach es X.env:=by rfl):PA X (e::es) (F0 te t):=by
 intro pos pins s σ H Q I h;rw [hs];show wpAny _ _ (spliced ((false,eval e X.env)::backTo pos (starEach es X.env))) _ _ s;refine Calls.spliced_cons (thn (ha pins s σ H _ I h) fun u s1 ⟨x,H1,I1,r1,q1⟩=>?_);exact thn (hr pos pins s1 σ H1 _ I1 q1) fun us s2 ⟨xs,H2,I2,r2,q2⟩=>⟨x::xs,H2,I2,.cons r1 r2,q2⟩
def tTup(t:TA):TE:=fun σ H Q=>t σ H fun xs H1=>xs.length<=sizeLine/\∀p,H1 p=none->Q (.ref p) (upd H1 p (.tup xs))
def tLst(t:TA):TE:=fun σ H Q=>t σ H fun xs H1=>xs.length<=sizeLine/\∀p,H1 p=none->Q (.ref p) (upd H1 p (.lst xs))
theorem DL{x1}(h:PA X es t):PE X (.Tuple es x1 pos) (tTup t):=by
 intro pins s σ H Q I hq;refine wpAny_Tuple_spliced (thn (h pos pins s σ H _ I hq) fun us s1 ⟨xs,H1,I1,r,z,q⟩=>⟨by rw [<- r.length];exact z,?_⟩)
 have hf:H1 s1.heap.objs.size=none:=I1.hok.fresh (Nat.le_refl _);refine ⟨.ref s1.heap.objs.size,upd H1 s1.heap.objs.size (.tup xs),I1.laid (t':=s1.toks) (fun b u e=>Heap.get?_push_of_some _ e) (Nat.le_refl _) ?_,rfl,q _ hf⟩;exact ⟨z,us,r,⟨_,Heap.get?_push_size _ rfl,⟨rfl,_,rfl⟩,rfl⟩⟩
theorem Co(h:PA X es t):PE X (.List es pos) (tLst t):=by
 intro pins s σ H Q I hq;refine wpAny_List_spliced (thn (h pos pins s σ H _ I hq) fun us s1 ⟨xs,H1,I1,r,z,q⟩=>⟨by rw [<- r.length];exact z,?_⟩)
 have hf:H1 s1.heap.objs.size=none:=I1.hok.fresh (Nat.le_refl _);refine ⟨.ref s1.heap.objs.size,upd H1 s1.heap.objs.size (.lst xs),I1.laid (t':=s1.toks) (fun b u e=>Heap.get?_push_of_some _ e) (Nat.le_refl _) ?_,rfl,q _ hf⟩;exact ⟨z,us,0,r,Heap.get?_push_size _ rfl⟩
end
abbrev Sp:=List V->Hp->VK->XK->Prop
abbrev mK:=List Env->Hp->Shared->XK->Value->Shared->Prop
structure Env0(P:Program)(w:World)(K:W.Frag)(mg:Str->Option Value)(base:Heap)(A:Around)(outer:List Env)(s:Shared)(H:Hp):Prop where
 frames:A.frames=some outer
 mod:Mod K mg base
 bs:∀b o,base.get? b=some o->s.heap.get? b=some o/\H b=none
 bsz:base.objs.size<=s.heap.objs.size
 funs:s.heap.FunFrames base outer
 frf:∀b∈fA outer,H b=none
 hok:HOk P w H s.heap
 bare:AllBare s.gens
def CE(outer:List Env)(P:Program)(w:World)(H:Hp)(s:Shared)(Q:VK)(u:Value)(s':Shared):Prop:=
 ∃v H',s'.os=s.os/\AllBare s'.gens/\Un (fA outer) [] H H' s.heap s'.heap/\HOk P w H' s'.heap/\RelV v u/\Q v H'
def CR(CX:mK)(outer:List Env)(P:Program)(w:World)(H:Hp)(s:Shared)(Q:VK)(E:XK)(r:Result)(s':Shared):Prop:=
 match r with
 |.ok (.ret u)=>CE outer P w H s Q u s'
 |.ok _=>False
 |.error e=>CX outer H s E e s'
structure FnOk(P:Program)(w:World)(K:W.Frag)(mg:Str->Option Value)(base:Heap)(CX:mK)(k:Nat)(f:Addr)(fd:FuncData)(ps:List Str)(sp:Sp):Prop where
 len:∀vs H Q E,sp vs H Q E->vs.length=ps.length
 run:∀(A:Around) (outer:List Env) (s:Shared) (H:Hp) (args:Args) (us:List Value) (vs:List V) (Q:VK) (E:XK),Room k A->Env0 P w K mg base A outer s H->BindsTo s fd args (ps.zip us)->Vals vs us->sp vs H Q E->
  codeAny (model P w) A (.call (.ref f) args) (CR CX outer P w H s Q E) s
theorem FnOk.imp{P:Program}{w:World}{K:W.Frag}{mg:Str->Option Value}{base:Heap}{CX:mK}{k:Nat}{f:Addr}{fd:FuncData}{ps:List Str}{sp sp':Sp}(F:FnOk P w K mg base CX k f fd ps sp)
  (h:∀vs H Q E,sp' vs H Q E->sp vs H Q E):FnOk P w K mg base CX k f fd ps sp':=
 ⟨fun vs H Q E q=>F.len vs H Q E (h _ _ _ _ q),fun A outer s H args us vs Q E hr he hb hv hs=>F.run A outer s H args us vs Q E hr he hb hv (h _ _ _ _ hs)⟩
theorem Env0.make{P:Program}{w:World}{K:W.Frag}{mg:Str->Option Value}{base:Heap}{A:Around}{outer:List Env}{s:Shared}{H:Hp}(e:Env0 P w K mg base A outer s H)(C:Addr)(us:List Value)(kw:List (Str×Value)):
  Env0 P w K mg base (A.under (.builtin "type.__call__" ⟨.ref C::us,kw⟩)) outer s H:=⟨by first|exact e.frames|(simpa [Around.under,Code.envs,Code.isFrame,pushEnvs] using e.frames),e.mod,e.bs,e.bsz,e.funs,e.frf,e.hok,e.bare⟩
section
variable {X:Cx}{pins:List (Addr×Obj)}{σ:St}{H:Hp}{s s':Shared}
theorem Inv.env0(I:Inv X pins σ H s):Env0 X.prog X.w X.K X.mg X.base X.A X.stack s H:=
 ⟨I.ok.frames,I.ok.mod,I.bs,Nat.le_trans I.ok.bsz I.sz,I.stack,I.stkFree,I.hok,I.bare⟩
theorem Inv.after{Q:VK}{u:Value}(I:Inv X pins σ H s)(h:CE X.stack X.prog X.w H s Q u s'):EP X pins σ Q u s':=by
 obtain ⟨v,H',os,bare,un,hok,r,q⟩:=h;obtain ⟨hh,g,d,t,os'⟩:=s';obtain rfl:os'=s.os:=os;exact ⟨v,H',I.call (h':=hh) (g':=g) (d':=d) (t':=t) (ch:=[]) un hok bare (fun b z=>absurd z (by simp)),r,q⟩
end
def FZ(sp:Sp)(dvs:List V)(E:XK)(t:TA):TE:=fun σ H Q=>t σ H fun vs H1=>sp (vs++dvs) H1 Q E
def F3(C:Addr)(m:Str)(sp:Sp)(dvs:List V)(E:XK)(ta:TE)(t:TA):TE:=fun σ H Q=>ta σ H fun x H1=>∃a dx fs,x=.ref a/\H1 a=some (.ins C dx fs)/\fs.lookup m=none/\
 t σ H1 fun vs H2=>sp (x::(vs++dvs)) H2 Q E
def EW(C:Addr)(sp:Sp)(dvs:List V)(E:XK)(t:TA):TE:=fun σ H Q=>t σ H fun vs H1=>∀x dx,H1 x=none->H1 dx=none->dx≠x->
 sp (.ref x::(vs++dvs)) (upd (upd H1 dx (.own x)) x (.ins C dx [])) (fun v H2=>v=.non/\Q (.ref x) H2) E
def Binds(K:W.Frag)(fd:FuncData)(ps:List Str)(ds:List Value):Prop:=
 ∀(s:Shared) (us:List Value),K.In s.heap->(us++ds).length=ps.length->BindsTo s fd ⟨us,[]⟩ (ps.zip (us++ds))
theorem Binds.all{K:W.Frag}{fd:FuncData}{ps:List Str}(h:∀us:List Value,us.length=ps.length->bindArgs fd ⟨us,[]⟩=pure (ps.zip us)):Binds K fd ps []:=fun s us _ hl=>by
 rw [List.append_nil] at hl ⊢;exact .of_eq (h us hl)
def da(CX:mK)(X:Cx)(E:XK):Prop:=∀(pins:List (Addr×Obj)) (σ:St) (H:Hp) (s:Shared) (e:Value) (s':Shared),Inv X pins σ H s->CX X.stack H s E e s'->X.xe e s'
section
variable {X:Cx}{CX:mK}{k:Nat}{f C:Addr}{fd:FuncData}{ps:List Str}{sp:Sp}{dvs:List V}{ds:List Value}{E:XK}{x m:Str}{p pos apos:Pos}{e o:Expr}{es:List Expr}{ta:TE}{t:TA}
theorem uf{pins:List (Addr×Obj)}{σ:St}{H:Hp}{s:Shared}{Q:VK}{us:List Value}{vs:List V}(F:FnOk X.prog X.w X.K X.mg X.base CX k f fd ps sp)(hr:Room k X.A)(hb:Binds X.K fd ps ds)(hd:Vals dvs ds)(hx:da CX X E)
  (I:Inv X pins σ H s) (r:Vals vs us) (h:sp (vs++dvs) H Q E):wpAny (model X.prog X.w) X.A (call (.ref f) us) (EP X pins σ Q) X.xe s:=by
 have r2:Vals (vs++dvs) (us++ds):=r.append hd;have hl:(us++ds).length=ps.length:=by rw [<- r2.length];exact F.len _ _ _ _ h
 refine wpAny_call (codeAny_mono (F.run X.A X.stack s H ⟨us,[]⟩ (us++ds) (vs++dvs) Q E hr I.env0 (hb s us I.kIn hl) r2 h) fun r s' hq=>?_);cases r with
 |error e=>exact hx pins σ H s e s' I hq
 |ok fl=>
  cases fl with
  |ret u=>exact I.after hq
  |next=>exact False.elim hq
  |brk=>exact False.elim hq
  |cont=>exact False.elim hq
theorem xT(F:FnOk X.prog X.w X.K X.mg X.base CX k f fd ps sp)(hr:Room k X.A)(hg:Gl X x)(hm:X.mg x=some (.ref f))(hk:W.keepIn X.K (.ref f)=true)(hb:Binds X.K fd ps ds)(hd:Vals dvs ds)(hx:da CX X E)
  (ha:PA X (e::es) t) (hdb:(x==("__debug__":Str))=false:=by decide) (he:starEach (e::es) X.env=(false,eval e X.env)::starEach es X.env:=by rfl) (hpl:(backTo pos (starEach es X.env)).any (·.1)=false:=by rfl):
  PE X (.Call (.Name x p) (e::es) [] pos) (FZ sp dvs E t):=by
 intro pins s σ H Q I h;refine wpAny_Call_Name_kw (ld_glob I hg hm ?_ hdb);refine W.callWith_K (h₀:=X.base) I.ok.mod.kin hk (thn (ha pos pins s σ H _ I h) fun us s1 ⟨vs,H1,I1,r,q⟩=>⟨I1.kIn,?_⟩) he hpl;exact uf F hr hb hd hx I1 r q
theorem zR{pl:Sem Bool}(he:PE X o ta)(c:Cls X.K C)(hm:Meth X.K C m f)(F:FnOk X.prog X.w X.K X.mg X.base CX k f fd ps sp)(hr:Room k X.A)(hb:Binds X.K fd ps ds)(hd:Vals dvs ds)(hx:da CX X E)(ha:PA X (e::es) t)
  (hst:starEach (e::es) X.env=(false,eval e X.env)::starEach es X.env:=by rfl) (hpl:(backTo pos (starEach es X.env)).any (·.1)=false:=by rfl)
  (ht:eval (.Call (.Attribute o m apos) (e::es) [] pos) X.env=(do
   let ov <- eval o X.env
   standAt apos.atName
   let (f,first) <- holding [ov] (getMethod ov m pl)
   callWith pos f first (backTo pos (starEach (e::es) X.env)) (backToKw pos (keywordEach [] X.env))):=by rfl):
  PE X (.Call (.Attribute o m apos) (e::es) [] pos) (F3 C m sp dvs E ta t):=by
 intro pins s σ H Q I h;refine W.methodCall_KW (pl:=pl) (thn (he pins s σ H _ I h) fun u s1 zz=>?_) ht;obtain ⟨x,H1,I1,rx,a,dx,fs,ex,ea,l,q⟩:=zz;subst ex;obtain rfl:u=Value.ref a:=rx;refine jD I1 ea c hm l ?_;refine W.callWith_K (first:=[.ref a]) (h₀:=X.base) I.ok.mod.kin hm.kp (thn (ha pos pins s1 σ H1 _ I1 q) fun us s2 ⟨vs,H2,I2,r,q2⟩=>⟨I2.kIn,?_⟩) hst hpl
 exact uf (us:=.ref a::us) (vs:=.ref a::vs) F hr hb hd hx I2 (.cons rfl r) q2
structure Mk(K:W.Frag)(C f:Addr):Prop where
 makes:W.makesIn K C=true
 init:W.findIn K (.ref C) "__init__"=some (some (.ref f))
 fn:W.isFn K (.ref f)=true
 kp:W.keepIn K (.ref C)=true
theorem vo{pins:List (Addr×Obj)}{σ:St}{H:Hp}{s:Shared}{Q:VK}{us:List Value}{vs:List V}(M:Mk X.K C f)(F:FnOk X.prog X.w X.K X.mg X.base CX k f fd ps sp)(hr:Room (k+1) X.A)(hb:Binds X.K fd ps ds)(hd:Vals dvs ds)
  (hx:da CX X E) (I:Inv X pins σ H s) (r:Vals vs us)
  (h:∀x dx,H x=none->H dx=none->dx≠x->sp (.ref x::(vs++dvs)) (upd (upd H dx (.own x)) x (.ins C dx [])) (fun v H2=>v=.non/\Q (.ref x) H2) E):
  wpAny (model X.prog X.w) X.A (call (.ref C) us) (EP X pins σ Q) X.xe s:=by
 have hq:=h (s.heap.objs.size+1) s.heap.objs.size (I.hok.fresh (Nat.le_succ _)) (I.hok.fresh (Nat.le_refl _)) (Nat.ne_of_lt (Nat.lt_succ_self _));have I2:=Inv.made (C:=C) I;have r2:Vals (V.ref (s.heap.objs.size+1)::(vs++dvs)) (Value.ref (s.heap.objs.size+1)::(us++ds)):=.cons rfl (r.append hd);have hl:(Value.ref (s.heap.objs.size+1)::us++ds).length=ps.length:=by
  have e:=r2.length;rw [F.len _ _ _ _ hq] at e;exact e.symm
 refine wpAny_call (vS (f:=f) I.kIn M.makes M.init (beq_iff_eq.mp M.fn) (codeAny_mono (F.run _ X.stack _ _ ⟨Value.ref (s.heap.objs.size+1)::us,[]⟩ (Value.ref (s.heap.objs.size+1)::(us++ds)) _ _ E (hr.make C us [])
  (I2.env0.make C us []) (hb _ (Value.ref (s.heap.objs.size+1)::us) I2.kIn hl) r2 hq) fun r s' hq'=>?_))
 cases r with
 |error e=>exact hx pins σ _ _ e s' I2 hq'
 |ok fl=>
  cases fl with
  |ret u=>
   obtain ⟨v,H',I3,rv,ev,q3⟩:=I2.after hq';subst ev;exact ⟨rv,⟨V.ref (s.heap.objs.size+1),H',I3,rfl,q3⟩⟩
  |next=>exact False.elim hq'
  |brk=>exact False.elim hq'
  |cont=>exact False.elim hq'
theorem Ay(M:Mk X.K C f)(F:FnOk X.prog X.w X.K X.mg X.base CX k f fd ps sp)(hr:Room (k+1) X.A)(hg:Gl X x)(hm:X.mg x=some (.ref C))(hb:Binds X.K fd ps ds)(hd:Vals dvs ds)(hx:da CX X E)
  (ha:PA X (e::es) t) (hdb:(x==("__debug__":Str))=false:=by decide) (he:starEach (e::es) X.env=(false,eval e X.env)::starEach es X.env:=by rfl) (hpl:(backTo pos (starEach es X.env)).any (·.1)=false:=by rfl):
  PE X (.Call (.Name x p) (e::es) [] pos) (EW C sp dvs E t):=by
 intro pins s σ H Q I h;refine wpAny_Call_Name_kw (ld_glob I hg hm ?_ hdb);refine W.callWith_K (h₀:=X.base) I.ok.mod.kin M.kp (thn (ha pos pins s σ H _ I h) fun us s1 ⟨vs,H1,I1,r,q⟩=>⟨I1.kIn,?_⟩) he hpl;exact vo M F hr hb hd hx I1 r q
end
section
variable {X:Cx}{CX:mK}{k:Nat}{f C:Addr}{fd:FuncData}{ps ks:List Str}{sp:Sp}{E:XK}{x m:Str}{p pos apos kpos:Pos}{e o:Expr}{es:List Expr}{kws:List Keyword}{te ta:TE}{t tk:TA}{nm:Option Str}
variable {g:List Value->List Value->List Value}{gV:List V->List V->List V}
end
structure FnScope(N P:List Str)(sc:Scope):Prop where
 kind:sc.kind=.function
 co:sc.isCoroutine=false
 gen:sc.isGenerator=false
 nd:N.Nodup
 pre:N.take P.length=P
 par:∀x∈P,sc.names.lookup x=some .local\/sc.names.lookup x=some .cell
 nofree:∀y∈sc.names,y.2≠.free
theorem kE{kindOf:Str->Option NameKind}{x:Str}:∀{binds:List (Str×Value)} {m:Str->Option Value},(∀v,(x,v)∉binds)->bindL kindOf binds m x=m x
 |[],_,_=>rfl
 |(n,v)::r,m,h=>by
  unfold bindL;rw [kE fun w hw=>h w (List.mem_cons_of_mem _ hw)]
  split
  ·have:x≠n:=by rintro rfl;exact h v List.mem_cons_self
   simp [this]
  ·rfl
theorem kW{kindOf:Str->Option NameKind}{x:Str}:∀{binds:List (Str×Value)} {m:Str->Option Value},(∀v,(x,v)∉binds)->bindC kindOf binds m x=m x
 |[],_,_=>rfl
 |(n,v)::r,m,h=>by
  unfold bindC;rw [kW fun w hw=>h w (List.mem_cons_of_mem _ hw)]
  split
  ·rfl
  ·have:x≠n:=by rintro rfl;exact h v List.mem_cons_self
   simp [this]
theorem kJ{kindOf:Str->Option NameKind}{x:Str}{v:Value}:∀{P:List Str} {vs:List Value} {i:Nat} {m:Str->Option Value},P.Nodup->P[i]?=some x->vs[i]?=some v->kindOf x=some .local->
  bindL kindOf (P.zip vs) m x=some v
 |[],_,_,_,_,h,_,_=>by simp at h
 |_::_,[],_,_,_,_,h,_=>by simp at h
 |p::P,w::vs,0,m,nd,h1,h2,hk=>by
  simp at h1 h2;subst h1;subst h2;show bindL kindOf ((p,w)::P.zip vs) m p=_;unfold bindL;rw [kE fun v hv=>(List.nodup_cons.mp nd).1 (List.of_mem_zip hv).1,if_pos hk];simp
 |p::P,w::vs,i+1,m,nd,h1,h2,hk=>by
  show bindL kindOf ((p,w)::P.zip vs) m x=_;unfold bindL;exact kJ (i:=i) (List.nodup_cons.mp nd).2 (by simpa using h1) (by simpa using h2) hk
theorem kx{kindOf:Str->Option NameKind}{x:Str}{v:Value}:∀{P:List Str} {vs:List Value} {i:Nat} {m:Str->Option Value},P.Nodup->P[i]?=some x->vs[i]?=some v->kindOf x≠some .local->
  bindC kindOf (P.zip vs) m x=some v
 |[],_,_,_,_,h,_,_=>by simp at h
 |_::_,[],_,_,_,_,h,_=>by simp at h
 |p::P,w::vs,0,m,nd,h1,h2,hk=>by
  simp at h1 h2;subst h1;subst h2;show bindC kindOf ((p,w)::P.zip vs) m p=_;unfold bindC;rw [kW fun v hv=>(List.nodup_cons.mp nd).1 (List.of_mem_zip hv).1,if_neg hk];simp
 |p::P,w::vs,i+1,m,nd,h1,h2,hk=>by
  show bindC kindOf ((p,w)::P.zip vs) m x=_;unfold bindC;exact kx (i:=i) (List.nodup_cons.mp nd).2 (by simpa using h1) (by simpa using h2) hk
def start(N:List Str)(vs:List V):St:=vs.map some++List.replicate (N.length-vs.length) none
def dA(CX:mK)(P:Program)(w:World)(K:W.Frag)(mg:Str->Option Value)(base:Heap)(N:List Str)(qual:Str)(scope:Scope)(f:Addr)(cd:Value)(A:Around)(outer:List Env)(s:Shared)(H:Hp)(E:XK):Cx where
 prog:=P
 w:=w
 K:=K
 mg:=mg
 base:=base
 A:=A.deeper (envOfC qual scope s.heap.objs.size f cd)
 N:=N
 s₀:=s
 H₀:=H
 env:=envOfC qual scope s.heap.objs.size f cd
 outer:=outer
 stack:=envOfC qual scope s.heap.objs.size f cd::outer
 ex:=[]
 calm:=true
 fn:=fun _=>true
 pn:=[]
 xe:=fun e s'=>wpAny (model P w) (A.deeper (envOfC qual scope s.heap.objs.size f cd)) (leaving (envOfC qual scope s.heap.objs.size f cd) e) (fun _ s''=>CX outer H s E e s'') (fun e' s''=>CX outer H s E e' s'') s'
theorem om{sc:Scope}{n:Nat}{x:Str}(h:sc.names.lookup x=some .cell):∃c,(cellsFrom n sc.names []).lookup x=some c:=by
 have q:=W.cellsFrom_some sc.names n [] (.inl h);exact Option.isSome_iff_exists.mp q
theorem sQ{CX:mK}{P:Program}{w:World}{K:W.Frag}{mg:Str->Option Value}{base:Heap}{N ps:List Str}{qual:Str}{scope:Scope}{f:Addr}{cd:Value}{A:Around}{outer:List Env}{s s1:Shared}{H:Hp}{E:XK}{us:List Value}{vs:List V}
  (S:FnScope N ps scope) (hd:A.handled=none) (e0:Env0 P w K mg base A outer s H) (hl:vs.length=ps.length) (r:Vals vs us)
  (x:InCallC s s.heap.objs.size (bindL (envOfC qual scope s.heap.objs.size f cd).kindOf (ps.zip us) fun _=>none) (cellsFrom (s.heap.objs.size+1) scope.names []) (bindC (envOfC qual scope s.heap.objs.size f cd).kindOf (ps.zip us) fun _=>none) s1):
  Inv (dA CX P w K mg base N qual scope f cd A outer s H E) [] (start N vs) H s1:=by
 have hpl:ps.length<=N.length:=by have:=congrArg List.length S.pre;rw [List.length_take] at this;lia
 obtain ⟨h1,tk,rfl,hk⟩:=x.done;have noA:∀b:Addr,b∉(dA CX P w K mg base N qual scope f cd A outer s H E).ex:=fun b z=>absurd (show b∈([]:List Addr) from z) (by simp)
 refine ⟨⟨e0.mod,S.kind,rfl,rfl,Nat.le_refl _,fun y z c h1 h2=>?_,fun y hy=>?_,fun y c _ h=>?_,fun _=>hd,Around.frames_deeper e0.frames,.inr ⟨rfl,rfl⟩,fun b z=>absurd z (noA b),e0.bs,e0.bsz,fun b _ _=>noA b,fun b z=>absurd z (noA b),e0.funs,e0.frf⟩,
  rfl,e0.bare,Un.kept hk,⟨_,x.toInCall.ns,fun i y v h1 h2 h3=>?_⟩,fun y c h=>⟨_,x.cell y c h⟩,e0.hok.fresh (Nat.le_refl _),fun y c h=>?_,fun p hp=>absurd (show p∈([]:List (Addr×Obj)) from hp) (by simp),e0.hok.kept hk,?_⟩
 ·exact name_of_addr x.apart (PySem.mem_of_lookup h1) (PySem.mem_of_lookup h2)
 ·have hy:scope.names.lookup y=some .cell\/scope.names.lookup y=some .free:=hy
  rcases hy with hy|hy
  ·exact om hy
  ·exact absurd rfl (S.nofree _ (PySem.mem_of_lookup hy))
 ·exact Nat.le_of_lt (x.above y c (PySem.mem_of_lookup h))
 ·have hi:i<vs.length:=by
   unfold start at h2
   by_cases hi:i<vs.length
   ·exact hi
   ·rw [List.getElem?_append_right (by simpa using hi)] at h2
    rw [List.getElem?_replicate] at h2
    split at h2<;>cases h2
  have ha:vs[i]?=some v:=by
   unfold start at h2;rw [List.getElem?_append_left (by simpa using hi),List.getElem?_map] at h2
   cases e:vs[i]? with
   |none=>rw [e] at h2;cases h2
   |some a=>rw [e] at h2;cases h2;rfl
  obtain ⟨u,hu,rv⟩:=r.get ha;have hp:ps[i]?=some y:=by
   rw [<- S.pre,List.getElem?_take_of_lt (by lia)];exact h1
  have ndP:ps.Nodup:=by rw [<- S.pre];exact S.nd.sublist (List.take_sublist _ _)
  refine ⟨u,rv,?_⟩;rcases S.par y (List.mem_of_getElem? hp) with k|k
  ·exact .inl ⟨k,kJ ndP hp hu k⟩
  ·obtain ⟨c,e⟩:=om (n:=s.heap.objs.size+1) k
   refine .inr ⟨.inl k,c,e,?_⟩;have q:=x.cell y c e;rw [kx ndP hp hu (by show scope.names.lookup y≠_;rw [k];decide)] at q
   exact q
 ·exact e0.hok.fresh (Nat.le_of_lt (x.above y c (PySem.mem_of_lookup h)))
 ·unfold start
  show _=N.length;rw [List.length_append,List.length_map,List.length_replicate];lia
theorem Fo{CX:mK}{P:Program}{w:World}{K:W.Frag}{mg:Str->Option Value}{base:Heap}{k:Nat}{f:Addr}{name qual:Str}{params:Arguments}{body:List Stmt}{scope:Scope}{dV kV doc pm cdv ct oc:Value}{an od:Option Addr}
  {osl:Array (Option Value)} {N ps:List Str} {sp:Sp} (lk:K.lookup f=some ⟨oc,od,.func (W.fnOf name qual params body scope dV kV doc pm an cdv ct),osl⟩) (hcd:W.codeIn K cdv qual=true) (S:FnScope N ps scope)
  (len:∀vs H Q E,sp vs H Q E->vs.length=ps.length)
  (hbody:∀(A:Around) (outer:List Env) (s:Shared) (H:Hp) (vs:List V) (Q:VK) (E:XK),Room k (A.deeper (envOfC qual scope s.heap.objs.size f cdv))->sp vs H Q E->
   ∃t,qW (dA CX P w K mg base N qual scope f cdv A outer s H E) body t/\t { nx:=fun _ H'=>Q .non H',rt:=Q } (start N vs) H):
  FnOk P w K mg base CX (k+1) f (W.fnOf name qual params body scope dV kV doc pm an cdv ct) ps sp:=by
 refine ⟨len,fun A outer s H args us vs Q E hr e0 hb r hsp=>?_⟩;have hl:=len _ _ _ _ hsp;have KX:K.In s.heap:=e0.mod.kin.keeps fun b o e=>(e0.bs b o e).1;have lim:s.heap.NoLimit:=e0.mod.nolimit.keeps fun b o e=>(e0.bs b o e).1;have hkind:∀y∈ps.zip us,scope.names.lookup y.1=some .local\/(scope.names.lookup y.1=some .cell/\((cellsFrom (s.heap.objs.size+1) scope.names []).lookup y.1).isSome=true):=fun ⟨n,v⟩ hy=>by
  rcases S.par n (List.of_mem_zip hy).1 with q|q
  ·exact .inl q
  ·exact .inr ⟨q,W.cellsFrom_some _ _ _ (.inl q)⟩
 refine codeAny_call_function hr.depth (KX _ _ lk) rfl S.co S.gen rfl (W.codeRec_of KX hcd) (hb _ _ _ _ ?_);refine wpAny_newFunctionEnv_cells S.kind hkind fun env he s1 x=>?_;subst he;refine ⟨lim.keeps x.toInCall.keep,codeAny_func ?_⟩;obtain ⟨t,ht,hq⟩:=hbody A outer s H vs Q E (hr.deeper _) hsp;have I:Inv (dA CX P w K mg base N qual scope f cdv A outer s H E) [] (start N vs) H s1:=sQ S hr.hd e0 hl r x;refine wpAny_mono (ht [] s1 (start N vs) H _ I hq) (fun fl s' hs=>?_) fun e s' hs=>hs;have fin:∀{σ':St} {H':Hp} {v:V} {u:Value},Inv (dA CX P w K mg base N qual scope f cdv A outer s H E) [] σ' H' s'->RelV v u->Q v H'->CE outer P w H s Q u s':=
  fun {σ' H' v u} J rv q=>⟨v,H',J.os,J.bare,J.base,J.hok,rv,q⟩
 cases fl with
 |ret u=>
  obtain ⟨v,σ',H',J,rv,q⟩:=hs;exact fin J rv q
 |next=>
  obtain ⟨σ',H',J,q⟩:=hs;exact fin (v:=V.non) (u:=Value.none) J rfl q
 |brk=>
  obtain ⟨_,_,_,q⟩:=hs;exact False.elim q
 |cont=>
  obtain ⟨_,_,_,q⟩:=hs;exact False.elim q
end L2
namespace L2
open PySem PySem.Spec PyProof.Rows
section
variable {X:Cx}{x:Str}{p pos:Pos}{e:Expr}{es:List Expr}{t:TA}{id T:String}{r:List V->Hp->VK->Prop}
def tCB(r:List V->Hp->VK->Prop)(t:TA):TE:=fun σ H Q=>t σ H fun vs H1=>r vs H1 Q
theorem vm(hc:cj X (.builtin id) r)(hg:Gl X x)(hm:X.mg x=none)(hv:bootBuiltins x=some (.builtin id))(ha:PA X (e::es) t)(hn:x≠"__name__":=by decide)(hdb:(x==("__debug__":Str))=false:=by decide)
  (he:starEach (e::es) X.env=(false,eval e X.env)::starEach es X.env:=by rfl) (hpl:(backTo pos (starEach es X.env)).any (·.1)=false:=by rfl):PE X (.Call (.Name x p) (e::es) [] pos) (tCB r t):=by
 intro pins s σ H Q I h;refine wpAny_Call_Name_kw (ld_blt I hg hm hv ?_ hn hdb);exact PyProof.Rows.callWith_builtin1 (thn (ha pos pins s σ H _ I h) fun us s1 ⟨vs,H1,I1,r1,q1⟩=>hc pins s1 σ H1 vs us Q I1 r1 q1) he hpl
theorem tG(hc:cj X (.type T) r)(hg:Gl X x)(hm:X.mg x=none)(hv:bootBuiltins x=some (.type T))(ha:PA X (e::es) t)(hn:x≠"__name__":=by decide)(hdb:(x==("__debug__":Str))=false:=by decide)
  (he:starEach (e::es) X.env=(false,eval e X.env)::starEach es X.env:=by rfl) (hpl:(backTo pos (starEach es X.env)).any (·.1)=false:=by rfl):PE X (.Call (.Name x p) (e::es) [] pos) (tCB r t):=by
 intro pins s σ H Q I h;refine wpAny_Call_Name_kw (ld_blt I hg hm hv ?_ hn hdb);exact PyProof.Rows.callWith_type1 (thn (ha pos pins s σ H _ I h) fun us s1 ⟨vs,H1,I1,r1,q1⟩=>hc pins s1 σ H1 vs us Q I1 r1 q1) he hpl
end
end L2
namespace HT
open PySem PyProof.Rows
section
open PySem.SeqAt
open PySem.AutoSeq1 (wpAny_loadPart')
open PySem.MeetsSeq PySem.MeetsSeq2 PySem.MeetsSeq3
end
section
variable {prog:Program}{w:World}{A:Around}{E:Value->Shared->Prop}{s:Shared}
theorem Aa{t b:Addr}{vs ws:List Value}{Q:Value->Shared->Prop}(ht:IsTup s.heap t vs.toArray)(hb:IsTup s.heap b ws.toArray)(hv:vs≠[])
  (h1:ws=[]->Q (.ref t) s) (h2:ws≠[]->Q (.ref s.heap.objs.size) { s with heap:=s.heap.push { cls:=.type "tuple",data:=.seq (vs++ws).toArray } })
  (hsz:vs.length+ws.length<=sizeLine):wpAny (model prog w) A (binaryOp .Add (.ref t) (.ref b)) Q E s:=by
 obtain ⟨⟨cls,dd,data,sl⟩,ho,hc,n,hd⟩:=id ht;obtain ⟨⟨cls2,dd2,data2,sl2⟩,ho2,hc2,n2,hd2⟩:=id hb;simp only at hc hd hc2 hd2;subst hc hd hc2 hd2;have e:vs.toArray++ws.toArray=(vs++ws).toArray:=by simp
 by_cases hw:ws=[]
 ·exact concat_meets ⟨_,ho,rfl⟩ ⟨_,ho2,rfl⟩ noFill_tuple_add seq_tuple_add PySem.F.slot_tuple_add PySem.F.entry_tuple_add (PySem.F.args_tuple_add_2 _ _)
   (tuple_addW1 t b vs.toArray ws.toArray n n2 dd dd2 sl sl2 (by simpa using hv) (by simp [hw])) ⟨ho,ho2,h1 hw⟩
 ·refine concat_meets ⟨_,ho,rfl⟩ ⟨_,ho2,rfl⟩ noFill_tuple_add seq_tuple_add PySem.F.slot_tuple_add PySem.F.entry_tuple_add (PySem.F.args_tuple_add_2 _ _)
   (tuple_addW2 t b vs.toArray ws.toArray n n2 dd dd2 sl sl2 (by simpa using hv) (by simpa using hw) (by rw [List.size_toArray,List.size_toArray];exact hsz)) ⟨ho,ho2,?_⟩
  rw [e];exact h2 hw
def sIx(n d:Nat):Option Int->Nat
 |none=>d
 |some v=>if v<0 then (v+(n:Int)).toNat else min v.toNat n
theorem mx(n d:Nat):sIx n d none=d:=rfl
theorem qq(n d k:Nat):sIx n d (some (k:Int))=min k n:=by
 show (if (k:Int)<0 then ((k:Int)+(n:Int)).toNat else min (k:Int).toNat n)=min k n
 rw [if_neg (by lia),Int.toNat_natCast]
theorem C2(n d:Nat)(hd:d<=n)(o:Option Int):sIx n d o<=n:=by
 cases o with
 |none=>exact hd
 |some v=>
  show (if v<0 then (v+(n:Int)).toNat else min v.toNat n)<=n
  by_cases hv:v<0
  ·rw [if_pos hv];lia
  ·rw [if_neg hv];exact Nat.min_le_right _ _
theorem rl(v:Int)(n d:Nat):(if v<0 then max (v+(n:Int)) 0 else min v (n:Int))=((sIx n d (some v):Nat):Int):=by
 show (if v<0 then max (v+(n:Int)) 0 else min v (n:Int))=(((if v<0 then (v+(n:Int)).toNat else min v.toNat n):Nat):Int)
 by_cases hv:v<0
 ·simp only [if_pos hv];lia
 ·simp only [if_neg hv];lia
theorem pM(lo hi:Option Int)(n:Nat):Builtin.Slice.sliceAdjust lo hi 1 (n:Int)=(((sIx n 0 lo:Nat):Int),((sIx n n hi:Nat):Int)):=by
 have h1:¬((1:Int)<0):=by lia
 unfold Builtin.Slice.sliceAdjust;simp only [h1,if_false];refine Prod.ext ?_ ?_
 ·cases lo with
  |none=>rfl
  |some v=>exact rl v n 0
 ·cases hi with
  |none=>rfl
  |some v=>exact rl v n n
theorem pd(i j:Nat):Builtin.Slice.slicePlaces (i:Int) (j:Int) 1=j-i:=by
 unfold Builtin.Slice.slicePlaces;have h1:(1:Int)>0:=by lia
 simp only [h1,if_true,Int.ediv_one]
 split<;>lia
theorem jL{v:Value}{o:Option Int}{Q:Option Int->Shared->Prop}(p:IsPart v o)(h:Q o s):wpAny (model prog w) A (Builtin.Slice.slicePartIndex v) Q E s:=by
 cases p with
 |none=>exact slicePart_none h
 |int i t=>exact slicePart_int h
theorem dE{sl:Addr}{vl vu:Value}{lo hi:Option Int}{n:Nat}{Q:Int×Int×Nat->Shared->Prop}(hs:s.heap.IsSliceOf sl vl vu .none)(pl:IsPart vl lo)(pu:IsPart vu hi)
  (h:Q (((sIx n 0 lo:Nat):Int),1,sIx n n hi-sIx n 0 lo) s):wpAny (model prog w) A (Builtin.Slice.sliceApplied (.ref sl) (pure (n:Int))) Q E s:=by
 obtain ⟨os,hos,hcs,hds⟩:=id hs;unfold Builtin.Slice.sliceApplied Builtin.Slice.sliceFields;refine wpAny_bind (wpAny_bind (wpAny_field hos hds (x:=vl) rfl (wpAny_bind (wpAny_field hos hds (x:=vu) rfl (wpAny_bind (wpAny_field hos hds (x:=.none) rfl (wpAny_pure ?_)))))));refine wpAny_bind (slicePart_none ?_);show wpAny _ _ (if ((1:Int)==0)=true then _ else _) _ _ s
 rw [if_neg (by decide)]
 refine wpAny_bind (jL pl (wpAny_bind (jL pu (wpAny_bind (wpAny_pure ?_)))));show wpAny _ _ (match Builtin.Slice.sliceAdjust lo hi 1 (n:Int) with|(lo,hi)=>pure (lo,(1:Int),Builtin.Slice.slicePlaces lo hi 1)) _ _ s
 rw [pM lo hi n];show wpAny _ _ (pure (((sIx n 0 lo:Nat):Int),(1:Int),Builtin.Slice.slicePlaces ((sIx n 0 lo:Nat):Int) ((sIx n n hi:Nat):Int) 1)) _ _ s;rw [pd];exact wpAny_pure h
theorem tP(xs:Array Value)(i k:Nat):((List.range k).filterMap fun (m:Nat)=>xs[((i:Int)+(m:Int)*1).toNat]?).toArray=((xs.toList.drop i).take k).toArray:=by
 have e:(fun (m:Nat)=>xs[((i:Int)+(m:Int)*1).toNat]?)=fun m=>xs[i+m]?:=by
  funext m;have:((i:Int)+(m:Int)*1).toNat=i+m:=by lia
  rw [this]
 rw [e];have:=pick_run xs i k;rw [List.filterMap_map] at this;have e2:((fun x=>xs[x]?) ∘ fun x=>i+x)=fun m=>xs[i+m]?:=rfl;rw [e2] at this;rw [this]
theorem fW{t sl:Addr}{items:Array Value}{vl vu:Value}{lo hi:Option Int}{Q:Value->Shared->Prop}(ht:IsTup s.heap t items)(hs:s.heap.IsSliceOf sl vl vu .none)(pl:IsPart vl lo)(pu:IsPart vu hi)
  (hw:¬(sIx items.size 0 lo=0/\sIx items.size items.size hi=items.size))
  (h:Q (.ref s.heap.objs.size) { s with heap:=s.heap.push { cls:=.type "tuple",data:=.seq ((items.toList.drop (sIx items.size 0 lo)).take (sIx items.size items.size hi-sIx items.size 0 lo)).toArray } })
  (hsz:items.size<=sizeLine):wpAny (model prog w) A (getItem (.ref t) (.ref sl)) Q E s:=by
 have htake:sizeOk (.seq ((items.toList.drop (sIx items.size 0 lo)).take (sIx items.size items.size hi-sIx items.size 0 lo)).toArray):=by
  show ((items.toList.drop (sIx items.size 0 lo)).take (sIx items.size items.size hi-sIx items.size 0 lo)).toArray.size<=sizeLine;rw [List.size_toArray,List.length_take,List.length_drop,Array.length_toList];lia
 have hj:sIx items.size items.size hi<=items.size:=C2 _ _ (Nat.le_refl _) hi;obtain ⟨os,hos,hcs,hds⟩:=id hs;have hTs:s.TypeIs (.ref sl) "slice":=⟨os,hos,hcs⟩;unfold getItem
 try with_reducible refine wpAny_holding ?_
 first|refine wpAny_bind (wpAny_pure ?_)|skip
 refine wpAny_bind (wpAny_sequenceKey ht.typeIs (by decide) ?_)
 refine wpAny_bind (wpAny_callSpecial?_slot (name:=Str.ofString "__getitem__") ht.typeIs PyProof.Rows.slot_tuple_getitem
  (wpAny_call_entry PyProof.Rows.slot_tuple_getitem ht.typeIs entry_tuple_getitem ?_ (args_tuple_getitem _ _)))
 show wpAny _ _ (Builtin.Tuple.tupleItemsOf (.ref t) >>= _) _ _ s;refine wpAny_bind (tupleItemsOf_ ht ?_);refine wpAny_bind (wpAny_typeOf hTs ?_);rw [if_pos (by decide)]
 refine wpAny_bind (dE hs pl pu ?_);have hno:¬((((sIx items.size 0 lo:Nat):Int)==0&&(1:Int)==1&&(sIx items.size items.size hi-sIx items.size 0 lo)==items.size)=true):=by
  intro q;rw [Bool.and_eq_true,Bool.and_eq_true] at q;have q1:((sIx items.size 0 lo:Nat):Int)=0:=eq_of_beq q.1.1;have q2:sIx items.size items.size hi-sIx items.size 0 lo=items.size:=eq_of_beq q.2;exact hw ⟨by lia,by lia⟩
 show wpAny _ _ (if (((sIx items.size 0 lo:Nat):Int)==0&&(1:Int)==1&&(sIx items.size items.size hi-sIx items.size 0 lo)==items.size)=true then _ else _) _ _ s
 rw [if_neg hno,tP]
 first
  |exact wpAny_bind (m:=Builtin.Tuple.tupleExact _) (wpAny_newObj_type (wpAny_pure ⟨_,rfl,wpAny_pure h⟩) htake)
  |exact wpAny_bind (m:=Builtin.Tuple.tupleExact _) (wpAny_newObj_type (wpAny_bind (wpAny_pure (wpAny_pure ⟨_,rfl,wpAny_pure h⟩))) htake)
  |exact wpAny_bind (wpAny_bind (m:=Builtin.Tuple.tupleExact _) (wpAny_newObj_type (wpAny_pure (wpAny_pure ⟨_,rfl,wpAny_pure h⟩)) htake))
  |exact wpAny_bind (wpAny_bind (m:=Builtin.Tuple.tupleExact _) (wpAny_newObj_type (wpAny_pure ⟨_,rfl,wpAny_pure h⟩) htake))
end
end HT
namespace L2
open PySem PySem.Spec PyProof.Rows
abbrev TO:=St->Hp->(Option Int->Hp->Prop)->Prop
def PO(X:Cx)(e:Option Expr)(t:TO):Prop:=
 ∀(pins:List (Addr×Obj)) (s:Shared) (σ:St) (H:Hp) (Q:Option Int->Hp->Prop),Inv X pins σ H s->t σ H Q->
  wpAny (model X.prog X.w) X.A (evalPart e X.env) (fun u s'=>∃o H',Inv X pins σ H' s'/\IsPart u o/\Q o H') X.xe s
def yz:TO:=fun _ H Q=>Q none H
def FD(t:TE):TO:=fun σ H Q=>t σ H fun x H1=>∃i,x=.int i/\Q (some i) H1
section
variable {X:Cx}{e:Expr}{te:TE}{lo hi:Option Expr}{tl th:TO}{pos p2:Pos}
theorem zt:PO X none yz:=by
 intro pins s σ H Q I h;rw [evalPart_none];exact wpAny_pure ⟨none,H,I,.none,h⟩
theorem ye(h:PE X e te):PO X (some e) (FD te):=by
 intro pins s σ H Q I hw;rw [evalPart_some];refine thn (h pins s σ H _ I hw) fun u s1 ⟨x,H1,I1,r1,q1⟩=>?_;obtain ⟨i,rfl,q⟩:=q1;obtain ⟨t,rfl⟩:=r1;exact ⟨some i,H1,I1,.int i t,q⟩
def FK(X:Cx)(r:V->Option Int->Option Int->Hp->VK->Prop):Prop:=
 ∀(pins:List (Addr×Obj)) (s:Shared) (σ:St) (H:Hp) (x:V) (v vl vu:Value) (lo hi:Option Int) (sl:Addr) (Q:VK),Inv X pins σ H s->RelV x v->s.heap.IsSliceOf sl vl vu .none->IsPart vl lo->IsPart vu hi->r x lo hi H Q->
  ∃T id,typeLookup (.type T) "__getitem__"=pure (some (.builtin id))/\s.TypeIs v T/\wpAny (model X.prog X.w) X.A (getItem v (.ref sl)) (EP X pins σ Q) X.xe s
def tSl(r:V->Option Int->Option Int->Hp->VK->Prop)(te:TE)(tl th:TO):TE:=fun σ H Q=>te σ H fun x H1=>tl σ H1 fun l H2=>th σ H2 fun u H3=>r x l u H3 Q
theorem vf{r:V->Option Int->Option Int->Hp->VK->Prop}(hr:FK X r)(he:PE X e te)(hl:PO X lo tl)(hu:PO X hi th):PE X (.Subscript e (.Slice lo hi none p2) pos) (tSl r te tl th):=by
 intro pins s σ H Q I h;refine Subscript_ (thn (he pins s σ H _ I h) fun v s1 ⟨x,H1,I1,r1,q1⟩=>?_);refine wpAny_Slice (thn (hl pins s1 σ H1 _ I1 q1) fun vl s2 ⟨l,H2,I2,pl,q2⟩=>thn (hu pins s2 σ H2 _ I2 q2) fun vu s3 ⟨u,H3,I3,pu,q3⟩=>?_);rw [evalPart_none];refine wpAny_pure ?_;have I4:Inv X pins σ H3 { s3 with heap:=s3.heap.push { cls:=.type "slice",data:=.fields #[vl,vu,.none] } }:=I3.kept (t':=s3.toks) fun b ob q=>Heap.get?_push_of_some _ q;obtain ⟨T,id,hT,ht,hg⟩:=hr pins { s3 with heap:=s3.heap.push { cls:=.type "slice",data:=.fields #[vl,vu,.none] } } σ H3 x v vl vu l u s3.heap.objs.size Q I4 r1 (Heap.IsSliceOf.new ..) pl pu q3;show wpAny (model X.prog X.w) X.A (subscriptTail e (.Slice lo hi none p2) v (.ref s3.heap.objs.size)) (EP X pins σ Q) X.xe { s3 with heap:=s3.heap.push { cls:=.type "slice",data:=.fields #[vl,vu,.none] } };exact tail_any (ops:=[.ref s3.heap.objs.size,v]) ht hT hg (by with_unfolding_all rfl)
def iI(xs:List V)(lo hi:Option Int):List V:=(xs.drop (HT.sIx xs.length 0 lo)).take (HT.sIx xs.length xs.length hi-HT.sIx xs.length 0 lo)
theorem io(xs:List V)(lo hi:Option Int):(iI xs lo hi).length<=xs.length:=by
 unfold iI;rw [List.length_take,List.length_drop];lia
def rSlT(K:W.Frag):V->Option Int->Option Int->Hp->VK->Prop:=fun x lo hi H Q=>∃a xs,x=.ref a/\gG K H a xs/\
 ¬(HT.sIx xs.length 0 lo=0/\HT.sIx xs.length xs.length hi=xs.length)/\∀p,H p=none->Q (.ref p) (upd H p (.tup (iI xs lo hi)))
theorem Cw:FK X (rSlT X.K):=by
 intro pins s σ H x v vl vu lo hi sl Q I rx hs pl pu h;obtain ⟨a,xs,rfl,hx,hw,q⟩:=h;cases rx;obtain ⟨its,r,ht,hz⟩:=I.tuple hx;have hlen:its.toArray.size=xs.length:=by rw [List.size_toArray];exact r.length.symm
 refine ⟨"tuple",_,PyProof.Rows.slot_tuple_getitem.lookup,ht.typeIs,?_⟩;refine HT.fW ht hs pl pu (by rw [hlen];exact hw) ?_ (by rw [hlen];exact hz)
 rw [hlen];refine ⟨.ref s.heap.objs.size,_,I.laid (t':=s.toks) (o:=.tup (iI xs lo hi)) (fun b ob q=>Heap.get?_push_of_some _ q) (Nat.le_refl _) ?_,rfl,q _ (I.hok.fresh (Nat.le_refl _))⟩;exact ⟨Nat.le_trans (io xs lo hi) hz,_,(r.drop (HT.sIx xs.length 0 lo)).take (HT.sIx xs.length xs.length hi-HT.sIx xs.length 0 lo),⟨_,Heap.get?_push_size _ rfl,⟨rfl,_,rfl⟩,rfl⟩⟩
def FO(K:W.Frag):R2:=fun x y H Q=>∃a b xs ys,x=.ref a/\y=.ref b/\gG K H a xs/\gG K H b ys/\xs≠[]/\xs.length+ys.length<=sizeLine/\
 (ys=[]->Q (.ref a) H)/\(ys≠[]->∀p,H p=none->Q (.ref p) (upd H p (.tup (xs++ys))))
theorem Vals.nil_iff{xs:List V}{us:List Value}(r:Vals xs us):us=[]↔xs=[]:=by
 cases r with
 |nil=>simp
 |cons _ _=>simp
theorem A8:cB X (binaryOp .Add) (FO X.K):=by
 intro pins s σ H x y v u Q I rx ry h;obtain ⟨a,b,xs,ys,rfl,rfl,ha,hb,hx,hz,q1,q2⟩:=h;cases rx;cases ry;obtain ⟨its,r1,p1,_⟩:=I.tuple ha;obtain ⟨its2,r2,p2,_⟩:=I.tuple hb;refine HT.Aa p1 p2 (fun z=>hx (r1.nil_iff.mp z)) (fun z=>⟨.ref a,H,I,rfl,q1 (r2.nil_iff.mp z)⟩) (fun z=>?_) (by rw [<- r1.length,<- r2.length];exact hz)
 refine ⟨.ref s.heap.objs.size,_,I.laid (t':=s.toks) (o:=.tup (xs++ys)) (fun b ob q=>Heap.get?_push_of_some _ q) (Nat.le_refl _) ?_,rfl,q2 (fun w=>z (r2.nil_iff.mpr w)) _ (I.hok.fresh (Nat.le_refl _))⟩;exact ⟨by rw [List.length_append];exact hz,_,r1.append r2,⟨_,Heap.get?_push_size _ rfl,⟨rfl,_,rfl⟩,rfl⟩⟩
end
end L2
namespace L2
open PySem PySem.Spec PyProof.Rows
def oR(n:Nat)(i:Int):Option Nat:=if 0<=i then (if i<n then some i.toNat else none) else if -(n:Int)<=i then some (i+n).toNat else none
def atI{α:Type}(xs:List α)(i:Int):Option α:=(oR xs.length i).bind fun j=>xs[j]?
theorem lT{n:Nat}{i:Int}{j:Nat}(h:oR n i=some j):seqIndex? i n=some j/\j<n/\-(n:Int)<=i/\i<n:=by
 unfold oR at h
 by_cases h0:0<=i
 ·rw [if_pos h0] at h
  by_cases h1:i<n
  ·rw [if_pos h1] at h
   have e:i.toNat=j:=Option.some.inj h;exact ⟨by rw [seqIndex_of h0 h1,e],by lia,by lia,h1⟩
  ·rw [if_neg h1] at h;cases h
 ·rw [if_neg h0] at h
  by_cases h1:-(n:Int)<=i
  ·rw [if_pos h1] at h
   have e:(i+n).toNat=j:=Option.some.inj h;exact ⟨by rw [seqIndex_neg (by lia) h1,e],by lia,h1,by lia⟩
  ·rw [if_neg h1] at h;cases h
theorem m9{α:Type}{xs:List α}{i:Int}{v:α}(h:atI xs i=some v):∃j,seqIndex? i xs.length=some j/\xs[j]?=some v/\j<xs.length/\-(xs.length:Int)<=i/\i<xs.length:=by
 unfold atI at h;cases e:oR xs.length i with
 |none=>rw [e] at h;cases h
 |some j=>
  rw [e] at h;obtain ⟨h1,h2,h3,h4⟩:=lT e;exact ⟨j,h1,h,h2,h3,h4⟩
def qX(b:Expr):Prop:=∀o i,subscripted b false o i=operate [o,i] (getItem o i)
def IxR(X:Cx)(r:R2):Prop:=
 ∀(value slice:Expr) (pins:List (Addr×Obj)) (s:Shared) (σ:St) (H:Hp) (x y:V) (v u:Value) (Q:VK),Inv X pins σ H s->RelV x v->RelV y u->r x y H Q->
  subscripted slice false v u=operate [v,u] (getItem v u)->wpAny (model X.prog X.w) X.A (subscriptTail value slice v u) (EP X pins σ Q) X.xe s
def vV(X:Cx)(id:String)(r:V->List V->Hp->VK->Prop):Prop:=
 ∀(pins:List (Addr×Obj)) (s:Shared) (σ:St) (H:Hp) (x:V) (xs:List V) (v:Value) (us:List Value) (Q:VK),Inv X pins σ H s->RelV x v->Vals xs us->r x xs H Q->
  wpAny (model X.prog X.w) X.A (call (.builtin id) (v::us)) (EP X pins σ Q) X.xe s
section
variable {X:Cx}{a b:Expr}{ta tb:TE}{pos:Pos}
theorem IxR.or{r r':R2}(h:IxR X r)(h':IxR X r'):IxR X (fun x y H Q=>r x y H Q\/r' x y H Q):=by
 intro value slice pins s σ H x y v u Q I rx ry q hs;rcases q with q|q
 ·exact h value slice pins s σ H x y v u Q I rx ry q hs
 ·exact h' value slice pins s σ H x y v u Q I rx ry q hs
theorem Ft{r:R2}(hr:IxR X r)(ha:PE X a ta)(hb:PE X b tb)(hs:qX b):PE X (.Subscript a b pos) (F8 r ta tb):=by
 intro pins s σ H Q I h;exact Subscript_ (binT ha hb I h fun v u s2 x y H2 I2 rx ry q=>hr a b pins s2 σ H2 x y v u Q I2 rx ry q (hs _ _))
def EI(K:W.Frag):R2:=fun x y H Q=>∃p xs i v,x=.ref p/\y=.int i/\SqL K H p xs/\atI xs i=some v/\Q v H
def FS(K:W.Frag):R2:=fun x y H Q=>∃p xs i v,x=.ref p/\y=.int i/\gG K H p xs/\atI xs i=some v/\Q v H
def Fy:R2:=fun x y H Q=>∃z i c,x=.str z/\y=.int i/\z.length<=sizeLine/\atI z.cps.toList i=some c/\Q (.str ⟨#[c]⟩) H
theorem ix_list:IxR X (EI X.K):=by
 intro value slice pins s σ H x y v u Q I rx ry h hs;obtain ⟨p,xs,i,z,rfl,rfl,hq,he,q⟩:=h;cases rx;obtain ⟨t,rfl⟩:=ry;obtain ⟨its,r,pl,hz⟩:=I.list hq;obtain ⟨j,h1,h2,h3,h4,h5⟩:=m9 he;obtain ⟨w,ew,rw'⟩:=r.get h2;have hl:=r.length;have hn:=fT;have fin:EP X pins σ Q w s:=⟨z,H,I,rw',q⟩
 by_cases h0:0<=i
 ·have hj:i.toNat=j:=by
   rw [seqIndex_of h0 h5] at h1;exact Option.some.inj h1
  exact item_listR pl.isList h0 (by lia) (by rw [hj];simpa using ew) fin hs
 ·have hj:(i+(its.toArray.size:Int)).toNat=j:=by
   rw [seqIndex_neg (by lia) h4] at h1
   rw [List.size_toArray,<- hl];exact Option.some.inj h1
  exact subscriptTail_builtinR (x:=w) pl.isList.typeIs slot_list_getitem.lookup
   (wpAny_getItem_list_neg (Q:=fun r s'=>r=w/\EP X pins σ Q r s') pl.isList (by lia) (by rw [List.size_toArray]<;>lia) (by lia) (by rw [hj];simpa using ew) ⟨rfl,fin⟩) hs
theorem ix_tup:IxR X (FS X.K):=by
 intro value slice pins s σ H x y v u Q I rx ry h hs;obtain ⟨p,xs,i,z,rfl,rfl,hq,he,q⟩:=h;cases rx;obtain ⟨t,rfl⟩:=ry;obtain ⟨its,r,pl,hz⟩:=I.tuple hq;obtain ⟨j,h1,h2,h3,h4,h5⟩:=m9 he;obtain ⟨w,ew,rw'⟩:=r.get h2;have hl:=r.length;have hn:=fT;have fin:EP X pins σ Q w s:=⟨z,H,I,rw',q⟩
 exact subscriptTail_builtinR (x:=w) pl.typeIs slot_tuple_getitem.lookup
  (getItem_tuple (j:=j) (Q:=fun r s'=>r=w/\EP X pins σ Q r s') pl (by lia) (by lia) (by rw [List.size_toArray,<- hl];exact h1) (by simpa using ew) ⟨rfl,fin⟩) hs
theorem wg:IxR X Fy:=by
 intro value slice pins s σ H x y v u Q I rx ry h hs;obtain ⟨z,i,c,rfl,rfl,hz,he,q⟩:=h;obtain ⟨t,rfl⟩:=rx;obtain ⟨t',rfl⟩:=ry;obtain ⟨j,h1,h2,h3,h4,h5⟩:=m9 he;have hl:z.cps.toList.length=z.length:=by simp [Str.length]
 rw [hl] at h1 h4 h5;have hn:=fT;exact tail_any (typeIs_str s z t) slot_str_getitem.lookup (getItem_str (c:=c) (by
  have e1:decide (i < -(2 ^ 63:Int))=false:=decide_eq_false (by lia)
  have e2:decide (i>=2 ^ 63)=false:=decide_eq_false (by lia)
  rw [e1,e2,Bool.or_false]) (by rw [h1];simpa using h2) ⟨.str ⟨#[c]⟩,H,I.tok _,⟨_,rfl⟩,q⟩) hs
def rIx(K:W.Frag):R2:=fun x y H Q=>EI K x y H Q\/FS K x y H Q\/Fy x y H Q
theorem DN:IxR X (rIx X.K):=ix_list.or (ix_tup.or wg)
theorem pP(its:List Value)(n j:Nat)(u:Value):Obj.mapSeq (·.setIfInBounds j u) { cls:=.type "list",data:=.seq its.toArray n }={ cls:=.type "list",data:=.seq (its.set j u).toArray n }:=by
 simp [Obj.mapSeq]
theorem Inv.lst{pins:List (Addr×Obj)}{σ:St}{H:Hp}{s:Shared}{p:Addr}{xs:List V}(I:Inv X pins σ H s)(h:H p=some (.lst xs)):
  ∃(its:List Value) (n:Nat),Vals xs its/\s.heap.get? p=some { cls:=.type "list",data:=.seq its.toArray n }/\xs.length<=sizeLine:=by
 obtain ⟨z,its,n,r,e⟩:=I.hok p _ h;exact ⟨its,n,r,e,z⟩
theorem Inv.lstUpd{pins:List (Addr×Obj)}{σ:St}{H:Hp}{s:Shared}{p:Addr}{xs ys:List V}{its its':List Value}{n n':Nat}{f:Obj->Obj}(I:Inv X pins σ H s)(h:H p=some (.lst xs))
  (ho:s.heap.get? p=some { cls:=.type "list",data:=.seq its.toArray n }) (hf:f { cls:=.type "list",data:=.seq its.toArray n }={ cls:=.type "list",data:=.seq its'.toArray n' }) (r:Vals ys its') (hz:ys.length<=sizeLine) (t:Nat):
  Inv X pins σ (upd H p (.lst ys)) { s with heap:=s.heap.update p f,toks:=t }:=by
 have e:(s.heap.update p f).get? p=some { cls:=.type "list",data:=.seq its'.toArray n' }:=by
  rw [Heap.get?_update_self f ho (by rw [hf]<;>rfl),hf]
 refine I.write (x:=p) (e:=p) (by rw [h];trivial) (.inl rfl) (fun b u hb q=>(Heap.get?_update_other _ _ (Ne.symm hb)).trans q) ⟨_,e⟩ ?_
 exact ⟨hz,its',n',r,e⟩
def Eu:V->V->V->Hp->(Hp->Prop)->Prop:=fun o i v H Q=>∃p xs k j,o=.ref p/\i=.int k/\H p=some (.lst xs)/\oR xs.length k=some j/\Q (upd H p (.lst (xs.set j v)))
theorem u7:Cz X Eu:=by
 intro pins s σ H o i v ov iv u Q I ro ri rv h;obtain ⟨p,xs,k,j,rfl,rfl,hp,hj,q⟩:=h;cases ro;obtain ⟨t,rfl⟩:=ri;obtain ⟨its,n,r,ho,hz⟩:=I.lst hp;obtain ⟨h1,h2,h3,h4⟩:=lT hj;have hl:=r.length;have hn:=fT;have I':Inv X pins σ (upd H p (.lst (xs.set j v))) { s with heap:=s.heap.update p (Obj.mapSeq (·.setIfInBounds j u)) }:=
  I.lstUpd hp ho (pP its n j u) (r.set rv j) (by rw [List.length_set];exact hz) s.toks
 by_cases h0:0<=k
 ·have hk:k.toNat=j:=by
   rw [seqIndex_of h0 h4] at h1;exact Option.some.inj h1
  exact W.ki_setAt ho h0 (by lia) (by rw [List.size_toArray,<- hl];exact h4) (by rw [hk];exact ⟨_,I',q⟩)
 ·have hk:(k+(its.toArray.size:Int)).toNat=j:=by
   rw [seqIndex_neg (by lia) h3] at h1
   rw [List.size_toArray,<- hl];exact Option.some.inj h1
  exact W.ki_setBack ho (by lia) (by rw [List.size_toArray,<- hl];exact h3) (by lia) (by rw [hk];exact ⟨_,I',q⟩)
theorem lG(lo hi:Option Int)(n:Nat):(sliceBounds lo hi none n).1=((HT.sIx n 0 lo:Nat):Int)/\(sliceBounds lo hi none n).2.1=((HT.sIx n n hi:Nat):Int)/\(sliceBounds lo hi none n).2.2=1:=by
 refine ⟨?_,?_,rfl⟩
 ·cases lo with
  |none=>simp [sliceBounds,HT.sIx]
  |some i=>
   simp only [sliceBounds,HT.sIx,Option.getD_none,show (1:Int)>0 by decide,if_true]
   by_cases h:i<0
   ·simp only [h,if_true]<;>lia
   ·simp only [h,if_false]<;>lia
 ·cases hi with
  |none=>simp [sliceBounds,HT.sIx]
  |some i=>
   simp only [sliceBounds,HT.sIx,Option.getD_none,show (1:Int)>0 by decide,if_true]
   by_cases h:i<0
   ·simp only [h,if_true]<;>lia
   ·simp only [h,if_false]<;>lia
theorem kc(its:List Value)(lo hi:Option Int):slicePick its.toArray lo hi none=((its.drop (HT.sIx its.length 0 lo)).take (HT.sIx its.length its.length hi-HT.sIx its.length 0 lo)).toArray:=by
 obtain ⟨h1,h2,h3⟩:=lG lo hi its.toArray.size;unfold slicePick;rw [h1,h2,h3];simp only [sliceRange_one,pick_run,List.size_toArray]<;>rfl
def rSlL(K:W.Frag):V->Option Int->Option Int->Hp->VK->Prop:=fun x lo hi H Q=>∃a xs,x=.ref a/\SqL K H a xs/\∀p,H p=none->Q (.ref p) (upd H p (.lst (iI xs lo hi)))
theorem rL:FK X (rSlL X.K):=by
 intro pins s σ H x v vl vu lo hi sl Q I rx hs pl pu h;obtain ⟨a,xs,rfl,hx,q⟩:=h;cases rx;obtain ⟨its,r,ht,hz⟩:=I.list hx;have hlen:=r.length;refine ⟨"list",_,slot_list_getitem.lookup,ht.isList.typeIs,?_⟩;refine wpAny_getItem_list_slice ht.isList hs pl pu .none (by simp) ?_ (by rw [List.size_toArray]<;>lia)
 rw [kc,<- hlen];refine ⟨.ref s.heap.objs.size,_,I.laid (t':=s.toks) (o:=.lst (iI xs lo hi)) (fun b ob q=>Heap.get?_push_of_some _ q) (Nat.le_refl _) ?_,rfl,q _ (I.hok.fresh (Nat.le_refl _))⟩;exact ⟨Nat.le_trans (io xs lo hi) hz,_,0,(r.drop (HT.sIx xs.length 0 lo)).take (HT.sIx xs.length xs.length hi-HT.sIx xs.length 0 lo),Heap.get?_push_size _ rfl⟩
def wL:V->Bool
 |.non=>true
 |.bl _=>true
 |.int _=>true
 |.str _=>true
 |_=>false
def me:V->V->Bool
 |.non,.non=>true
 |.bl a,.bl b=>a==b
 |.bl a,.int b=>(if a then 1 else 0)==b
 |.int a,.bl b=>a==(if b then 1 else 0)
 |.int a,.int b=>a==b
 |.str a,.str b=>a==b
 |_,_=>false
theorem wY{A:Around}{s:Shared}{y x:V}{u v:Value}(ry:RelV y u)(rx:RelV x v)(fy:wL y=true)(fx:wL x=true):SeqAt.EqAt A s u v (me y x):=by
 cases y with
 |non=>
  cases ry;cases x with
  |non=>cases rx;exact SeqAt.EqAt.same _
  |bl b=>cases rx;exact SeqAt.EqAt.none_bool b
  |int b=>obtain ⟨t,rfl⟩:=rx;exact SeqAt.EqAt.none_int b t
  |str b=>obtain ⟨t,rfl⟩:=rx;exact SeqAt.EqAt.none_str b t
  |_=>exact absurd (show false=true from fx) Bool.false_ne_true
 |bl a=>
  cases ry;cases x with
  |non=>cases rx;exact SeqAt.EqAt.bool_none a
  |bl b=>cases rx;exact SeqAt.EqAt.bool_bool a b
  |int b=>obtain ⟨t,rfl⟩:=rx;exact SeqAt.EqAt.bool_int a b t
  |str b=>obtain ⟨t,rfl⟩:=rx;exact SeqAt.EqAt.bool_str a b t
  |_=>exact absurd (show false=true from fx) Bool.false_ne_true
 |int a=>
  obtain ⟨t',rfl⟩:=ry;cases x with
  |non=>cases rx;exact SeqAt.EqAt.int_none a t'
  |bl b=>cases rx;exact SeqAt.EqAt.int_bool a t' b
  |int b=>obtain ⟨t,rfl⟩:=rx;exact SeqAt.EqAt.int_int a t' b t
  |str b=>obtain ⟨t,rfl⟩:=rx;exact SeqAt.EqAt.int_str a t' b t
  |_=>exact absurd (show false=true from fx) Bool.false_ne_true
 |str a=>
  obtain ⟨t',rfl⟩:=ry;cases x with
  |non=>cases rx;exact SeqAt.EqAt.str_none a t'
  |bl b=>cases rx;exact SeqAt.EqAt.str_bool a t' b
  |int b=>obtain ⟨t,rfl⟩:=rx;exact SeqAt.EqAt.str_int a t' b t
  |str b=>obtain ⟨t,rfl⟩:=rx;exact SeqAt.EqAt.str_str a t' b t
  |_=>exact absurd (show false=true from fx) Bool.false_ne_true
 |_=>exact absurd (show false=true from fy) Bool.false_ne_true
theorem lX:cj X (.builtin "len") (fun xs H Q=>∃p ys,xs=[.ref p]/\(SqL X.K H p ys\/gG X.K H p ys)/\Q (.int ys.length) H):=by
 intro pins s σ H xs us Q I r h;obtain ⟨p,ys,rfl,hq,q⟩:=h;obtain ⟨u,rfl,rx⟩:=fJ r;cases rx;have hn:=fT;rcases hq with hq|hq
 ·obtain ⟨its,r',pl,hz⟩:=I.list hq
  have hlen:=r'.length;exact Calls.call_len_list pl.isList (by simp only [List.size_toArray]<;>lia) ⟨.int ys.length,H,I.tok _,⟨s.toks+1,by rw [List.size_toArray,hlen]⟩,q⟩
 ·obtain ⟨its,r',pl,hz⟩:=I.tuple hq
  have hlen:=r'.length;exact len_tuple pl (by simp only [List.size_toArray]<;>lia) ⟨.int ys.length,H,I.tok _,⟨s.toks+1,by rw [List.size_toArray,hlen]⟩,q⟩
theorem la:cj X (.builtin "len") (fun xs H Q=>∃z,xs=[.str z]/\z.length<=sizeLine/\Q (.int z.length) H):=by
 intro pins s σ H xs us Q I r h;obtain ⟨z,rfl,hz,q⟩:=h;obtain ⟨u,rfl,t,rfl⟩:=fJ r;have hn:=fT;exact len_str (by lia) ⟨.int z.length,H,I.tok _,⟨_,rfl⟩,q⟩
theorem lQ:cj X (.type "list") (fun xs H Q=>∃p ys,xs=[.ref p]/\(SqL X.K H p ys\/gG X.K H p ys)/\∀l,H l=none->Q (.ref l) (upd H l (.lst ys))):=by
 intro pins s σ H xs us Q I r h;obtain ⟨p,ys,rfl,hq,q⟩:=h;obtain ⟨u,rfl,rx⟩:=fJ r;cases rx
 have fin:∀(its:List Value),Vals ys its->ys.length<=sizeLine->∀(h':Heap) (c':Nat),(∀b o',s.heap.get? b=some o'->h'.get? b=some o')->
   h'.get? s.heap.objs.size=some { cls:=.type "list",dict:=none,data:=.seq its.toArray c',slots:=#[] }->EP X pins σ Q (.ref s.heap.objs.size) { s with heap:=h' }:=fun its r' hz h' c' kp e=>
  ⟨.ref s.heap.objs.size,_,I.laid (t':=s.toks) kp (Nat.le_refl _) (show ObjOk X.prog X.w _ h' _ (.lst ys) from ⟨hz,its,c',r',e⟩),rfl,q _ (I.hok.fresh (Nat.le_refl _))⟩
 rcases hq with hq|hq
 ·obtain ⟨its,r',pl,hz⟩:=I.list hq
  have hlen:=r'.length;obtain ⟨o,ho,hc,n,hd⟩:=pl.isList;exact call_list_seq p (.inl rfl) ho hc hd (fun h' c' kp e=>fin its r' hz h' c' kp e) (by simp only [List.size_toArray]<;>lia)
 ·obtain ⟨its,r',pl,hz⟩:=I.tuple hq
  have hlen:=r'.length;obtain ⟨o,ho,hc,n,hd⟩:=pl;exact call_list_seq p (.inr rfl) ho hc hd (fun h' c' kp e=>fin its r' hz h' c' kp e) (by simp only [List.size_toArray]<;>lia)
theorem fE:cj X (.type "tuple") (fun xs H Q=>∃p ys,xs=[.ref p]/\((SqL X.K H p ys/\∀l,H l=none->Q (.ref l) (upd H l (.tup ys)))\/(gG X.K H p ys/\Q (.ref p) H))):=by
 intro pins s σ H xs us Q I r h;obtain ⟨p,ys,rfl,h⟩:=h;obtain ⟨u,rfl,rx⟩:=fJ r;cases rx;rcases h with ⟨hq,q⟩|⟨hq,q⟩
 ·obtain ⟨its,r',pl,hz⟩:=I.list hq
  have hlen:=r'.length;refine call_tuple_list pl.isList (fun h' kp=>?_) (by simp only [List.size_toArray]<;>lia)
  have I1:Inv X pins σ H { s with heap:=h' }:=I.kept (t':=s.toks) kp;have I2:Inv X pins σ (upd H h'.objs.size (.tup ys)) { s with heap:=h'.push { cls:=.type "tuple",data:=.seq its.toArray } }:=
   I1.laid (t':=s.toks) (fun b o e=>Heap.get?_push_of_some _ e) (Nat.le_refl _) (show ObjOk X.prog X.w _ _ _ (.tup ys) from ⟨hz,its,r',⟨_,Heap.get?_push_size _ rfl,⟨rfl,_,rfl⟩,rfl⟩⟩)
  exact ⟨.ref h'.objs.size,_,I2,rfl,q _ (I1.hok.fresh (Nat.le_refl _))⟩
 ·obtain ⟨its,r',pl,hz⟩:=I.tuple hq
  exact call_tuple_same pl ⟨.ref p,H,I,rfl,q⟩
def tyV(K:W.Frag)(T:String)(x:V)(H:Hp):Prop:=match x with
 |.str _=>T="str"
 |.int _=>T="int"
 |.ref p=>(T="list"/\∃xs,SqL K H p xs)\/(T="tuple"/\∃o,K.lookup p=some o/\o.cls=.type "tuple"/\o.dict=none)\/
   (T="dict"/\((∃kvs,H p=some (.dK kvs))\/∃kvs,H p=some (.dT kvs)))\/(T="set"/\∃S n,H p=some (.set S n))
 |_=>False
theorem wG{pins:List (Addr×Obj)}{σ:St}{H:Hp}{s:Shared}{T:String}{x:V}{v:Value}(I:Inv X pins σ H s)(r:RelV x v)(ty:tyV X.K T x H):
  s.TypeIs v T/\∀a,v=.ref a->∃ob,s.heap.get? a=some ob/\ob.dict=none:=by
 cases x with
 |str z=>
  obtain ⟨t,rfl⟩:=r;cases (show T="str" from ty);exact ⟨typeIs_str s z t,fun _ e=>nomatch e⟩
 |int i=>
  obtain ⟨t,rfl⟩:=r;cases (show T="int" from ty);exact ⟨typeIs_int s i t,fun _ e=>nomatch e⟩
 |ref p=>
  cases r;rcases ty with ⟨rfl,xs,hq⟩|⟨rfl,o,hk,hc,hd⟩|⟨rfl,hk⟩|⟨rfl,S,n,hk⟩
  ·obtain ⟨its,_,pl,_⟩:=I.list hq
   refine ⟨pl.isList.typeIs,fun a e=>?_⟩;cases e;obtain ⟨o,n,e,c,hd,_⟩:=pl;exact ⟨o,e,hd⟩
  ·refine ⟨⟨o,I.kIn p o hk,hc⟩,fun a e=>?_⟩
   cases e;exact ⟨o,I.kIn _ o hk,hd⟩
  ·have z:∃o,s.heap.get? p=some o/\o.ExactDict:=by
    rcases hk with ⟨kvs,hk⟩|⟨kvs,hk⟩
    ·obtain ⟨_,_,_,_,o,_,_,e,ex,_⟩:=I.hok p _ hk
     exact ⟨o,e,ex⟩
    ·obtain ⟨_,_,_,_,o,_,_,e,ex,_⟩:=I.hok p _ hk
     exact ⟨o,e,ex⟩
   obtain ⟨o,e,ex⟩:=z;refine ⟨⟨o,e,ex.1⟩,fun a e2=>?_⟩;cases e2;exact ⟨o,e,ex.2.1⟩
  ·obtain ⟨o,_,_,_,e,ex,_⟩:=I.hok p _ hk
   refine ⟨⟨o,e,ex.1⟩,fun a e2=>?_⟩;cases e2;exact ⟨o,e,ex.2.1⟩
 |_=>exact False.elim ty
def tBM0(K:W.Frag)(T:String)(r:V->List V->Hp->VK->Prop)(to:TE):TE:=fun σ H Q=>to σ H fun x H1=>tyV K T x H1/\r x [] H1 Q
def tBM(K:W.Frag)(T:String)(r:V->List V->Hp->VK->Prop)(to:TE)(t:TA):TE:=fun σ H Q=>to σ H fun x H1=>tyV K T x H1/\t σ H1 fun xs H2=>r x xs H2 Q
variable {o e:Expr}{es:List Expr}{to:TE}{t:TA}{name:Str}{apos cpos:Pos}{T id:String}{r:V->List V->Hp->VK->Prop}
theorem D8(pa:PlainAttrs T)(slot:Slot T name id)(hty:typeOf (.builtin id)=pure (.type "method_descriptor"))(hm:vV X id r)(ho:PE X o to)
  (hbase:attributeBase o name X.env (eval o X.env)=eval o X.env:=by rfl) (hline:(apos.endLine==cpos.line)=true:=by rfl):PE X (.Call (.Attribute o name apos) [] [] cpos) (tBM0 X.K T r to):=by
 intro pins s σ H Q I h;refine wpAny_Call_method0_late hbase hline (thn (ho pins s σ H _ I h) fun v s1 ⟨x,H1,I1,r1,ty,q1⟩=>?_);obtain ⟨h1,h2⟩:=wG I1 r1 ty;exact ⟨T,id,pa,slot,hty,h1,h2,Calls.callWith_builtin rfl (PySem.evalArgs_none (hm pins s1 σ H1 x [] v [] Q I1 r1 .nil q1))⟩
theorem FX(pa:PlainAttrs T)(slot:Slot T name id)(hty:typeOf (.builtin id)=pure (.type "method_descriptor"))(hm:vV X id r)(ho:PE X o to)(ha:PA X (e::es) t)
  (hbase:attributeBase o name X.env (eval o X.env)=eval o X.env:=by rfl)
  (hfew:((backTo cpos (starEach (e::es) X.env)).all (fun x=>!x.1)&&(backToKw cpos (keywordEach [] X.env)).all (fun x=>x.1.isSome)
   && decide ((e::es).length+([]:List Keyword).length+(if ([]:List Keyword).isEmpty then 0 else 1)<30))=true:=by rfl)
  (hline:(apos.endLine==cpos.line)=true:=by rfl) (hs:starEach (e::es) X.env=(false,eval e X.env)::starEach es X.env:=by rfl) (hplain:(backTo cpos (starEach es X.env)).any (·.1)=false:=by rfl):
  PE X (.Call (.Attribute o name apos) (e::es) [] cpos) (tBM X.K T r to t):=by
 intro pins s σ H Q I h;refine wpAny_Call_method_late hbase hfew hline rfl (thn (ho pins s σ H _ I h) fun v s1 ⟨x,H1,I1,r1,ty,q1⟩=>?_);obtain ⟨h1,h2⟩:=wG I1 r1 ty;refine ⟨T,id,pa,slot,hty,h1,h2,?_⟩;have hA:=ha cpos pins s1 σ H1 _ I1 q1;rw [hs] at hA ⊢;refine Calls.callWith_builtin (by show (false||(backTo cpos (starEach es X.env)).any (·.1))=false;rw [hplain]<;>rfl) (Calls.evalArgs_plain ?_)
 exact thn hA fun us s2 ⟨vs,H2,I2,r2,q2⟩=>hm pins s2 σ H2 x vs v us Q I2 r1 r2 q2
end
end L2
namespace L2
open PySem PySem.Spec PyProof.Rows
def MtM(X:Cx)(id:String)(r:V->List V->Hp->VK->Prop):Prop:=
 ∀(pins:List (Addr×Obj)) (s:Shared) (σ:St) (H:Hp) (x:V) (xs:List V) (v:Value) (us:List Value) (Q:VK),Inv X pins σ H s->RelV x v->Vals xs us->r x xs H Q->
  wpAny (model X.prog X.w) X.A (call (.builtin id) (v::us)) (EP X pins σ Q) X.xe s
theorem Vals.one:∀{x:V} {us:List Value},Vals [x] us->∃u,us=[u]/\RelV x u
 |_,_,h=>by cases h with|cons r q=>cases q;exact ⟨_,rfl,r⟩
theorem Vals.two:∀{x y:V} {us:List Value},Vals [x,y] us->∃u v,us=[u,v]/\RelV x u/\RelV y v
 |_,_,_,h=>by cases h with|cons r q=>cases q with|cons q z=>cases z;exact ⟨_,_,rfl,r,q⟩
theorem Vals.zero:∀{us:List Value},Vals [] us->us=[]
 |_,.nil=>rfl
theorem Vals.dropLast{xs:List V}{us:List Value}(h:Vals xs us):Vals xs.dropLast us.dropLast:=by
 induction h with
 |nil=>exact .nil
 |cons r t ih=>
  cases t with
  |nil=>exact .nil
  |cons q t'=>exact .cons r ih
theorem Vals.eraseIdx:∀{xs:List V} {us:List Value} (i:Nat),Vals xs us->Vals (xs.eraseIdx i) (us.eraseIdx i)
 |_,_,_,.nil=>.nil
 |_,_,0,.cons _ t=>t
 |_,_,i+1,.cons r t=>.cons r (Vals.eraseIdx i t)
theorem Vals.rep{xs:List V}{us:List Value}(h:Vals xs us):∀k:Nat,Vals (List.replicate k xs).flatten (List.replicate k us).flatten
 |0=>.nil
 |k+1=>by
  rw [List.replicate_succ,List.replicate_succ,List.flatten_cons,List.flatten_cons];exact Vals.append h (Vals.rep h k)
theorem qa{α:Type}(l:List α):l.eraseIdx (l.length-1)=l.dropLast:=by
 induction l with
 |nil=>rfl
 |cons a r ih=>
  cases r with
  |nil=>rfl
  |cons b r=>
   have e:(a::b::r).length-1=((b::r).length-1)+1:=by
    have h1:(a::b::r).length=r.length+2:=rfl;have h2:(b::r).length=r.length+1:=rfl;lia
   rw [e,List.eraseIdx_cons_succ,ih]
   all_goals rfl
theorem kQ{α:Type}:∀(l:List α) (i:Nat),(l.eraseIdx i).length<=l.length
 |[],_=>Nat.le_refl _
 |_::_,0=>Nat.le_succ _
 |_::r,i+1=>Nat.succ_le_succ (kQ r i)
section
variable {X:Cx}{pins:List (Addr×Obj)}{σ:St}{H:Hp}{s:Shared}{l b:Addr}{xs ys zs:List V}
theorem Inv.lset{its its':List Value}{n:Nat}{f:Array Value->Array Value}{t':Nat}(I:Inv X pins σ H s)(hH:H l=some (.lst xs))
  (e:s.heap.get? l=some { cls:=.type "list",data:=.seq its.toArray n }) (hf:f its.toArray=its'.toArray) (hv:Vals ys its') (hz:ys.length<=sizeLine):
  Inv X pins σ (upd H l (.lst ys)) { s with heap:=s.heap.update l (Obj.mapSeq f),toks:=t' }:=by
 have q:=PySem.IsL.update e f;rw [hf] at q;refine I.write (x:=l) (e:=l) (by rw [hH];exact trivial) (.inl rfl) (fun b' u hb hu=>(Heap.get?_update_other s.heap (Obj.mapSeq f) (Ne.symm hb)).trans hu) ⟨_,q⟩ ?_
 exact ⟨hz,its',_,hv,q⟩
theorem Inv.lnew{its:List Value}{t':Nat}(I:Inv X pins σ H s)(hv:Vals ys its)(hz:ys.length<=sizeLine):
  Inv X pins σ (upd H s.heap.objs.size (.lst ys)) { s with heap:=s.heap.push { cls:=.type "list",data:=.seq its.toArray },toks:=t' }:=
 I.laid (fun _ _ q=>Heap.get?_push_of_some _ q) (Nat.le_refl _) ⟨hz,its,0,hv,Heap.get?_push_size _ rfl⟩
theorem Inv.fresh(I:Inv X pins σ H s):H s.heap.objs.size=none:=I.hok.fresh (Nat.le_refl _)
theorem Inv.lstM(I:Inv X pins σ H s)(hH:H l=some (.lst xs)):xs.length<=sizeLine/\∃(its:List Value) (n:Nat),Vals xs its/\xs.length=its.length/\s.heap.get? l=some { cls:=.type "list",data:=.seq its.toArray n }:=by
 obtain ⟨z,its,n,r,e⟩:=I.hok l _ hH;exact ⟨z,its,n,r,r.length,e⟩
theorem vB{n:Nat}(h:n<=sizeLine):Builtin.List.listTooLong n=false:=by
 unfold Builtin.List.listTooLong;exact decide_eq_false (by lia)
end
section
variable {X:Cx}
def zD:V->List V->Hp->VK->Prop:=fun x vs H Q=>∃l xs y,x=.ref l/\vs=[y]/\H l=some (.lst xs)/\xs.length<sizeLine/\Q .non (upd H l (.lst (xs++[y])))
theorem sI:MtM X "list.append" zD:=by
 intro pins s σ H x vs v us Q I rx rv h;obtain ⟨l,xs,y,rfl,rfl,hH,hz,q⟩:=h;cases rx;obtain ⟨u,rfl,ru⟩:=rv.one;obtain ⟨z,its,n,r,hl,e⟩:=I.lstM hH;refine call_meets F.slot_list_append ⟨_,e,rfl⟩ F.entry_list_append (F.args_list_append_2 _ _) (PySem.list_append l its.toArray n u (by rw [List.size_toArray];lia)) ⟨e,?_⟩
 refine ⟨.non,_,I.lset (its':=its++[u]) hH e (by simp) (r.append (.cons ru .nil)) ?_,rfl,q⟩
 rw [List.length_append,List.length_singleton];lia
def rPop:V->List V->Hp->VK->Prop:=fun x vs H Q=>∃l xs y,x=.ref l/\vs=[]/\H l=some (.lst xs)/\xs[xs.length-1]?=some y/\Q y (upd H l (.lst xs.dropLast))
theorem CA:MtM X "list.pop" rPop:=by
 intro pins s σ H x vs v us Q I rx rv h;obtain ⟨l,xs,y,rfl,rfl,hH,hy,q⟩:=h;cases rx;have hus:=rv.zero;subst hus;obtain ⟨z,its,n,r,hl,e⟩:=I.lstM hH;obtain ⟨u,hu,ru⟩:=r.get hy;have hy':its.toArray[its.toArray.size-1]?=some u:=by
  show its.toArray[its.length-1]?=some u;rw [<- Array.getElem?_toList,<- hl];exact hu
 refine call_meets F.slot_list_pop ⟨_,e,rfl⟩ F.entry_list_pop (F.args_list_pop_1 _) (MeetsSeq.list_pop_last l its.toArray n u hy' (by rw [List.size_toArray];lia)) ⟨e,?_⟩
 refine ⟨y,_,I.lset (its':=its.dropLast) hH e ?_ r.dropLast ?_,ru,q⟩
 ·show its.toArray.eraseIdxIfInBounds (its.toArray.size-1)=its.dropLast.toArray
  rw [List.size_toArray,List.eraseIdxIfInBounds_toArray,qa]
 ·rw [List.length_dropLast]
  lia
def Di:V->List V->Hp->VK->Prop:=fun x vs H Q=>∃l xs i k y,x=.ref l/\vs=[.int i]/\H l=some (.lst xs)/\-(2 ^ 63)<=i/\i<2 ^ 63/\seqIndex? i xs.length=some k/\xs[k]?=some y/\Q y (upd H l (.lst (xs.eraseIdx k)))
theorem vx:MtM X "list.pop" Di:=by
 intro pins s σ H x vs v us Q I rx rv h;obtain ⟨l,xs,i,k,y,rfl,rfl,hH,h1,h2,hk,hy,q⟩:=h;cases rx;obtain ⟨u,rfl,ru⟩:=rv.one;obtain ⟨t,rfl⟩:=ru;obtain ⟨z,its,n,r,hl,e⟩:=I.lstM hH;obtain ⟨w,hw,rw'⟩:=r.get hy
 refine call_meets F.slot_list_pop ⟨_,e,rfl⟩ F.entry_list_pop (F.args_list_pop_2 _ _)
  (MeetsSeq.list_pop_at l its.toArray n i t k w (fitsIndex_both h1 h2) (by rw [List.size_toArray,<- hl];exact hk) (by rw [<- Array.getElem?_toList];exact hw) (by rw [List.size_toArray];lia)) ⟨e,?_⟩
 refine ⟨y,_,I.lset (its':=its.eraseIdx k) hH e ?_ (r.eraseIdx k) ?_,rw',q⟩
 ·show its.toArray.eraseIdxIfInBounds k=(its.eraseIdx k).toArray
  rw [List.eraseIdxIfInBounds_toArray]
 ·have:=kQ xs k
  lia
theorem Ac{α:Type}(xs:List α)(k:Nat):(List.replicate k xs).flatten.length=k*xs.length:=by
 induction k with
 |zero=>simp
 |succ k ih=>rw [List.replicate_succ,List.flatten_cons,List.length_append,ih,Nat.succ_mul,Nat.add_comm]
end
section
variable {prog:Program}{w:World}{A:Around}{E:Value->Shared->Prop}{s:Shared}
set_option maxRecDepth 100000 in
end
section
variable {X:Cx}
end
end L2
namespace L2
open PySem PySem.Spec PyProof.Rows
section
variable {κ:Type}[DecidableEq κ]
def fB(kvs:List (κ×V))(k:κ):Option V:=(kvs.find? fun kv=>decide (kv.1=k)).map (·.2)
def cZ(kvs:List (κ×V))(k:κ)(v:V):List (κ×V):=
 if (kvs.any fun kv=>decide (kv.1=k))=true then kvs.map (fun kv=>if kv.1=k then (kv.1,v) else kv) else kvs++[(k,v)]
theorem jh{p:κ×V}{r:List (κ×V)}{k:κ}(e:p.1=k):fB (p::r) k=some p.2:=by simp [fB,List.find?_cons,e]
theorem jv{p:κ×V}{r:List (κ×V)}{k:κ}(e:¬p.1=k):fB (p::r) k=fB r k:=by simp [fB,List.find?_cons,e]
theorem oh(k:κ):∀kvs:List (κ×V),(kvs.any fun kv=>decide (kv.1=k))=(fB kvs k).isSome
 |[]=>rfl
 |p::r=>by
  rw [List.any_cons]
  by_cases e:p.1=k
  ·simp only [jh e,decide_eq_true e,Bool.true_or,Option.isSome_some]
  ·rw [jv e,decide_eq_false e,Bool.false_or];exact oh k r
theorem eQ(kvs:List (κ×V))(k:κ)(v:V):(cZ kvs k v).length<=kvs.length+1:=by
 unfold cZ
 split
 ·rw [List.length_map];lia
 ·rw [List.length_append,List.length_cons,List.length_nil];lia
theorem RelO.isSome_eq{o:Option V}{u:Option Value}(r:RelO o u):o.isSome=u.isSome:=by
 cases o with
 |none=>cases u with
  |none=>rfl
  |some _=>exact (show False from r).elim
 |some _=>cases u with
  |none=>exact (show False from r).elim
  |some _=>rfl
theorem KV.val{kvs:List (κ×V)}{vs:List (κ×Value)}(r:KV kvs vs)(k:κ):RelO (fB kvs k) (valueAt vs k):=by
 unfold KV at r
 induction r with
 |nil=>exact True.intro
 |@cons p q ps qs h t ih=>
  obtain ⟨h1,h2⟩:=h
  by_cases e:p.1=k
  ·have e':q.1=k:=h1.symm.trans e
   have b:valueAt (q::qs) k=some q.2:=by simp [valueAt,List.find?_cons,e']
   rw [jh e,b];exact h2
  ·have e':¬q.1=k:=fun z=>e (h1.trans z)
   have b:valueAt (q::qs) k=valueAt qs k:=by simp [valueAt,List.find?_cons,e']
   rw [jv e,b];exact ih
theorem KV.any{kvs:List (κ×V)}{vs:List (κ×Value)}(r:KV kvs vs)(k:κ):(kvs.any fun kv=>decide (kv.1=k))=vs.any fun kv=>decide (kv.1=k):=by
 unfold KV at r
 induction r with
 |nil=>rfl
 |cons h t ih=>rw [List.any_cons,List.any_cons,ih,h.1]
theorem KV.repl{kvs:List (κ×V)}{vs:List (κ×Value)}(r:KV kvs vs)(k:κ){y:V}{u:Value}(ry:RelV y u):
  KV (kvs.map fun kv=>if kv.1=k then (kv.1,y) else kv) (vs.map fun kv=>if kv.1=k then (kv.1,u) else kv):=by
 unfold KV at r ⊢
 induction r with
 |nil=>exact .nil
 |@cons p q ps qs h t ih=>
  rw [List.map_cons,List.map_cons];refine .cons ?_ ih;obtain ⟨h1,h2⟩:=h
  by_cases e:p.1=k
  ·rw [if_pos e,if_pos (h1.symm.trans e)];exact ⟨h1,ry⟩
  ·rw [if_neg e,if_neg (fun z=>e (h1.trans z))];exact ⟨h1,h2⟩
theorem KV.put{kvs:List (κ×V)}{vs:List (κ×Value)}(r:KV kvs vs)(k:κ){y:V}{u:Value}(ry:RelV y u):KV (cZ kvs k y) (stored vs k u):=by
 unfold cZ stored;rw [r.any k]
 by_cases e:(vs.any fun kv=>decide (kv.1=k))=true
 ·rw [if_pos e,if_pos e];exact r.repl k ry
 ·rw [if_neg e,if_neg e];exact Paired.snoc r ⟨rfl,ry⟩
theorem KV.length{kvs:List (κ×V)}{vs:List (κ×Value)}(r:KV kvs vs):kvs.length=vs.length:=Paired.length r
end
theorem nO{P:Program}{w:World}{k:bR}{u:Value}(r:RelV (kV k) u):(bJ P w).is k u=true:=by
 cases k with
 |inl i=>obtain ⟨t,e⟩:=(show ∃t,u=Value.int i t from r);subst e;exact nS P w i t
 |inr x=>obtain ⟨t,e⟩:=(show ∃t,u=Value.str x t from r);subst e;exact mO P w x t
theorem kT{P:Program}{w:World}:∀{ks:List bR} {us:List Value},Vals (ks.map kV) us->ItemsAre (bJ P w) ks us
 |[],_,r=>by rw [List.map_nil] at r;cases r;exact .nil
 |k::ks,_,r=>by
  rw [List.map_cons] at r;cases r with
  |cons h t=>exact .cons (nO h) (kT t)
abbrev KT(H:Hp):List (List bR×V)->List (List bR×Addr×Value)->Prop:=Paired fun p q=>p.1=q.1/\H q.2.1=some (.tup (p.1.map kV))/\RelV p.2 q.2.2
theorem KT.val{H:Hp}{kvs:List (List bR×V)}{xs:List (List bR×Addr×Value)}(r:KT H kvs xs)(k:List bR):RelO (fB kvs k) ((atKey xs k).map (·.2)):=by
 induction r with
 |nil=>exact True.intro
 |@cons p q ps qs h t ih=>
  obtain ⟨h1,_,h2⟩:=h
  by_cases e:p.1=k
  ·have e':q.1=k:=h1.symm.trans e
   have b:atKey (q::qs) k=some q.2:=by simp [atKey,List.find?_cons,e']
   rw [jh e,b];exact h2
  ·have e':¬q.1=k:=fun z=>e (h1.trans z)
   have b:atKey (q::qs) k=atKey qs k:=by simp [atKey,List.find?_cons,e']
   rw [jv e,b];exact ih
theorem KT.repl{H:Hp}{kvs:List (List bR×V)}{xs:List (List bR×Addr×Value)}(r:KT H kvs xs)(k:List bR){y:V}{u:Value}(ry:RelV y u):
  KT H (kvs.map fun kv=>if kv.1=k then (kv.1,y) else kv) (xs.map (putAt k u)):=by
 induction r with
 |nil=>exact .nil
 |@cons p q ps qs h t ih=>
  rw [List.map_cons,List.map_cons];refine .cons ?_ ih;obtain ⟨h1,h2,h3⟩:=h;unfold putAt
  by_cases e:p.1=k
  ·rw [if_pos e,if_pos (h1.symm.trans e)];exact ⟨h1,h2,ry⟩
  ·rw [if_neg e,if_neg (fun z=>e (h1.trans z))];exact ⟨h1,h2,h3⟩
theorem KT.put{H:Hp}{kvs:List (List bR×V)}{xs:List (List bR×Addr×Value)}(r:KT H kvs xs)(k:List bR){b:Addr}{y:V}{u:Value}(hb:H b=some (.tup (k.map kV)))(ry:RelV y u):
  KT H (cZ kvs k y) (storedH xs k b u):=by
 have e:(kvs.any fun kv=>decide (kv.1=k))=(atKey xs k).isSome:=by
  rw [oh,(r.val k).isSome_eq,Option.isSome_map]
 unfold cZ storedH;rw [e]
 by_cases q:(atKey xs k).isSome=true
 ·rw [if_pos q,if_pos q];exact r.repl k ry
 ·rw [if_neg q,if_neg q];exact Paired.snoc r ⟨rfl,hb,ry⟩
theorem KT.keeps{H H':Hp}{kvs:List (List bR×V)}{xs:List (List bR×Addr×Value)}(r:KT H kvs xs)(ht:∀b ys,H b=some (.tup ys)->H' b=some (.tup ys)):KT H' kvs xs:=
 du r fun _ _ z=>⟨z.1,ht _ _ z.2.1,z.2.2⟩
section
variable {P:Program}{w:World}{H:Hp}{h:Heap}{a:Addr}
theorem B6{u:HO}(ok:HOk P w H h)(e:Rd H a u):ObjOk P w H h a u:=e.ok ok
theorem mM{kvs:List (bR×V)}(ok:HOk P w H h)(e:Rd H a (.dK kvs)):kvs.length<=sizeLine/\(a==sysModules)=false/\∃vs,KV kvs vs/\h.DictOf (bJ P w) a vs:=
 show ObjOk P w H h a (.dK kvs) from B6 ok e
theorem FR{kvs:List (bR×V)}(ok:HOk P w H h)(e:H a=some (.dK kvs)):kvs.length<=sizeLine/\(a==sysModules)=false/\∃vs,KV kvs vs/\h.DictOf (bJ P w) a vs:=mM ok (.inl e)
theorem lN{ks:List bR}(ok:HOk P w H h)(e:H a=some (.tup (ks.map kV))):(tupleKind (bJ P w)).is h ks a:=by
 obtain ⟨_,its,r,o,h1,⟨h2,n,h3⟩,_⟩:=(show ObjOk P w H h a (.tup (ks.map kV)) from ok a _ e);exact ⟨o,its.toArray,n,h1,h2,h3,by simpa using kT r⟩
theorem rO{kvs:List (List bR×V)}(ok:HOk P w H h)(e:Rd H a (.dT kvs)):kvs.length<=sizeLine/\(a==sysModules)=false/\
  ∃xs,KT H kvs xs/\h.DictOfH (tupleKind (bJ P w)) a xs:=by
 obtain ⟨z,y,xs,r,o,es,ep,h1,h2,h3,h4,h5⟩:=(show ObjOk P w H h a (.dT kvs) from B6 ok e);refine ⟨z,y,xs,r,o,es,ep,h1,h2,h3,h4,fun x hx=>?_,h5⟩;have all:∀{l:List (List bR×V)} {m:List (List bR×Addr×Value)},KT H l m->∀x∈m,(tupleKind (bJ P w)).is h x.1 x.2.1:=by
  intro l m q
  induction q with
  |nil=>intro x hx;exact nomatch hx
  |@cons p q ps qs hq t ih=>
   intro x hx;rcases List.mem_cons.mp hx with e|hx
   ·subst e
    exact lN ok (by rw [<- hq.1];exact hq.2.1)
   ·exact ih x hx
 exact all r x hx
theorem FN{kvs:List (List bR×V)}(ok:HOk P w H h)(e:H a=some (.dT kvs)):kvs.length<=sizeLine/\(a==sysModules)=false/\
  ∃xs,KT H kvs xs/\h.DictOfH (tupleKind (bJ P w)) a xs:=rO ok (.inl e)
end
def DGet(H:Hp)(a:Addr)(y:V)(r:Option V):Prop:=
 (∃kvs k,Rd H a (.dK kvs)/\y=kV k/\r=fB kvs k)\/∃kvs k b,Rd H a (.dT kvs)/\y=.ref b/\H b=some (.tup (k.map kV))/\r=fB kvs k
def DPut(H:Hp)(a:Addr)(y v:V)(H':Hp):Prop:=
 (∃kvs k,H a=some (.dK kvs)/\y=kV k/\kvs.length<sizeLine/\H'=upd H a (.dK (cZ kvs k v)))\/
 ∃kvs k b,H a=some (.dT kvs)/\y=.ref b/\H b=some (.tup (k.map kV))/\kvs.length<sizeLine/\H'=upd H a (.dT (cZ kvs k v))
theorem DGet.k{H:Hp}{a:Addr}{kvs:List (bR×V)}{k:bR}(e:H a=some (.dK kvs)):DGet H a (kV k) (fB kvs k):=.inl ⟨kvs,k,.inl e,rfl,rfl⟩
theorem DGet.t{H:Hp}{a b:Addr}{kvs:List (List bR×V)}{k:List bR}(e:H a=some (.dT kvs))(eb:H b=some (.tup (k.map kV))):DGet H a (.ref b) (fB kvs k):=.inr ⟨kvs,k,b,.inl e,rfl,eb,rfl⟩
theorem DPut.k{H:Hp}{a:Addr}{kvs:List (bR×V)}{k:bR}{v:V}(e:H a=some (.dK kvs))(hl:kvs.length<sizeLine):DPut H a (kV k) v (upd H a (.dK (cZ kvs k v))):=.inl ⟨kvs,k,e,rfl,hl,rfl⟩
theorem DPut.t{H:Hp}{a b:Addr}{kvs:List (List bR×V)}{k:List bR}{v:V}(e:H a=some (.dT kvs))(eb:H b=some (.tup (k.map kV)))(hl:kvs.length<sizeLine):
  DPut H a (.ref b) v (upd H a (.dT (cZ kvs k v))):=.inr ⟨kvs,k,b,e,rfl,eb,hl,rfl⟩
section
variable {X:Cx}{pins:List (Addr×Obj)}{σ:St}{H:Hp}{s:Shared}{a:Addr}{y v:V}{u r:Value}{o:Option V}{A:Around}{E:Value->Shared->Prop}
theorem Inv.big(I:Inv X pins σ H s):sysModules<s.heap.objs.size:=by
 have h:mainGlobals<s.heap.objs.size:=(I.mod.glob.keeps I.bk).lt;exact Nat.lt_trans (by decide) h
theorem rX{Q:Value->Shared->Prop}(hu:A.units+1<cLine)(I:Inv X pins σ H s)(g:DGet H a y (some v))(ry:RelV y u)(h:∀w' s',Inv X pins σ H s'->RelV v w'->Q w' s'):
  wpAny (model X.prog X.w) A (getItem (.ref a) u) Q E s:=by
 rcases g with ⟨kvs,k,e,ey,l⟩|⟨kvs,k,b,e,ey,eb,l⟩
 ·subst ey
  obtain ⟨z,hd,vs,rel,dd⟩:=mM I.hok e;obtain ⟨w',hw,rw'⟩:=eh (v:=v) (o:=valueAt vs k) (by rw [l];exact rel.val k)
  exact wpAny_getItem_of (nO ry) dd.mapOf hw (h w' _ (I.tok _) rw')
 ·subst ey
  cases (show u=Value.ref b from ry);obtain ⟨z,hd,xs,rel,dd⟩:=rO I.hok e;obtain ⟨w',hw,rw'⟩:=eh (v:=v) (o:=(atKey xs k).map (·.2)) (by rw [l];exact rel.val k)
  obtain ⟨p,hp,hp2⟩:=Option.map_eq_some_iff.mp hw;refine wpAny_getItem_heap (tupleKind_room_in1 hu) (lN I.hok eb) dd hp ?_;rw [hp2];exact h w' _ (I.tok _) rw'
theorem F_{Q:Value->Shared->Prop}(hu:A.units+1<cLine)(I:Inv X pins σ H s)(g:DGet H a y o)(ry:RelV y u)(h:∀s',Inv X pins σ H s'->Q (.bool o.isSome) s'):
  wpAny (model X.prog X.w) A (compareOp .In u (.ref a)) Q E s:=by
 rcases g with ⟨kvs,k,e,ey,l⟩|⟨kvs,k,b,e,ey,eb,l⟩
 ·subst ey
  obtain ⟨z,hd,vs,rel,dd⟩:=mM I.hok e;refine wpAny_in_of (nO ry) hd dd.mapOf ?_;rw [<- (rel.val k).isSome_eq,<- l];exact h _ (I.tok _)
 ·subst ey
  cases (show u=Value.ref b from ry);obtain ⟨z,hd,xs,rel,dd⟩:=rO I.hok e;refine wpAny_in_heap (tupleKind_room_in1 hu) (lN I.hok eb) hd dd ?_;have q:=(rel.val k).isSome_eq;rw [Option.isSome_map] at q;rw [<- q,<- l];exact h _ (I.tok _)
theorem qQ{h':Heap}{t':Nat}{ob:HO}(I:Inv X pins σ H s)(mu:EA (H a))(hs:Heap.SameBut a s.heap h')(he:∃q,h'.get? a=some q)(new:ObjOk X.prog X.w (upd H a ob) h' a ob):
  Inv X pins σ (upd H a ob) { s with heap:=h',toks:=t' }:=
 I.write (x:=a) (e:=a) mu (.inl rfl) (fun b q hb z=>(hs.2 b hb).trans z) he new
theorem vH{P:Program}{w:World}{H':Hp}{h':Heap}{kvs:List (bR×V)}{vs:List (bR×Value)}(z:kvs.length<=sizeLine)(hd:(a==sysModules)=false)(rel:KV kvs vs)(dd:h'.DictOf (bJ P w) a vs):
  ObjOk P w H' h' a (.dK kvs):=⟨z,hd,vs,rel,dd⟩
theorem kL{H':Hp}{Q:Unit->Shared->Prop}(hu:A.units+1<cLine)(I:Inv X pins σ H s)(g:DPut H a y v H')(ry:RelV y u)(rv:RelV v r)(h:∀s',Inv X pins σ H' s'->Q () s'):
  wpAny (model X.prog X.w) A (setItem (.ref a) u r) Q E s:=by
 rcases g with ⟨kvs,k,e,ey,l,eH⟩|⟨kvs,k,b,e,ey,eb,l,eH⟩
 ·subst ey eH
  obtain ⟨z,hd,vs,rel,dd⟩:=FR I.hok e;have hz:vs.length<=sizeLine:=by rw [<- rel.length];exact z
  have hl:(cZ kvs k v).length<=sizeLine:=by have:=eQ kvs k v;lia
  refine wpAny_setItem_pairs (hsz:=hz) (nO ry) dd fun h' dd' hs=>h _ ?_;have he:∃q,h'.get? a=some q:=let ⟨q,_,_,hq,_⟩:=dd';⟨q,hq⟩;exact qQ I (by rw [e];exact True.intro) hs he (vH hl hd (rel.put k rv) dd')
 ·subst ey eH
  cases (show u=Value.ref b from ry);obtain ⟨z,hd,xs,rel,dd⟩:=FN I.hok e;have hz:xs.length<=sizeLine:=by rw [<- Paired.length rel];exact z
  have hl:(cZ kvs k v).length<=sizeLine:=by have:=eQ kvs k v;lia
  refine wpAny_setItem_heap (hsz:=hz) (tupleKind_room_in1 hu) (lN I.hok eb) dd fun h' dd' hs=>h _ ?_;obtain ⟨q,es,ep,hq,h2,h3,h4,_,h5⟩:=dd';refine qQ I (by rw [e];exact True.intro) hs ⟨q,hq⟩ ⟨hl,hd,_,(rel.put k eb rv).keeps fun c ys ec=>?_,q,es,ep,hq,h2,h3,h4,h5⟩
  rw [upd_ne (Ey ec e (fun z=>nomatch z))];exact ec
end
section
variable {X:Cx}{pins:List (Addr×Obj)}{σ:St}{H:Hp}{s:Shared}{a:Addr}{kvs:List (bR×V)}{k:bR}{u:Value}{A:Around}{E:Value->Shared->Prop}
theorem FA{Q:Value->Shared->Prop}(I:Inv X pins σ H s)(e:Rd H a (.dK kvs))(h:∀t s',Inv X pins σ H s'->Q (.int kvs.length t) s'):wpAny (model X.prog X.w) A (call (.builtin "len") [.ref a]) Q E s:=by
 obtain ⟨z,hd,vs,rel,dd⟩:=mM I.hok e;refine call_len_dict hd dd (by rw [<- rel.length];rw [sizeLine_eq] at z;lia) ?_
 rw [<- rel.length];exact h _ _ (I.tok _)
end
theorem oE{X:Cx}{pins:List (Addr×Obj)}{σ:St}{H:Hp}{s:Shared}{a:Addr}{y:V}{o:Option V}(I:Inv X pins σ H s)(g:DGet H a y o):s.TypeIs (.ref a) "dict":=by
 rcases g with ⟨kvs,k,e,_,_⟩|⟨kvs,k,b,e,_,_,_⟩
 ·obtain ⟨_,_,vs,_,dd⟩:=mM I.hok e
  exact dd.typeIs
 ·obtain ⟨_,_,xs,_,dd⟩:=rO I.hok e
  exact dd.typeIs
section
variable {X:Cx}{o i e value:Expr}{pos pos' tpos:Pos}{td ty tv:TE}
end
section
variable {X:Cx}{pos:Pos}
end
section
variable {X:Cx}{pins:List (Addr×Obj)}{σ:St}{H:Hp}{s:Shared}{a:Addr}{y d:V}{u r:Value}{o:Option V}{A:Around}{E:Value->Shared->Prop}
end
section
variable {X:Cx}{o e f:Expr}{apos cpos:Pos}{td ty tx:TE}
end
section
variable {X:Cx}{pins:List (Addr×Obj)}{σ:St}{H:Hp}{s:Shared}{a:Addr}{kvs:List (bR×V)}{A:Around}{E:Value->Shared->Prop}
end
section
variable {X:Cx}{pins:List (Addr×Obj)}{σ:St}{H:Hp}{s:Shared}{a:Addr}{y:V}{u:Value}{A:Around}{E:Value->Shared->Prop}
end
end L2
namespace Att
open PySem PySem.W PySem.Calls PyProof.Rows
theorem iG{P:Params}{h:Heap}:∀(ns:List Int) (vs:List Value),WellAll P h vs (ns.map WData.int)->IntsAre vs ns:=by
 intro ns
 induction ns with
 |nil=>
  intro vs w;rw [List.map_nil] at w;cases w;exact .nil
 |cons n ns ih=>
  intro vs w;rw [List.map_cons] at w;cases w with
  |cons a b=>
   cases a;exact .cons _ _ (ih _ b)
theorem rW{l:OpenLaw}{n:Nat}(hn:l.most=some n){P:Params}{h:Heap}{args:List WData}{vals:List Value}
  (hpre:l.row.toRowW.claim.pre args=true) (hwl:WellAll P h vals args):
  ∃a vs ns,vals=[Value.ref a]/\args=[WData.list (ns.map WData.int)]/\h.get? a=some { cls:=.type "list",data:=.seq vs.toArray }/\IntsAre vs ns/\ns.length<=n:=by
 have hsh:WShape.hasAll [] args [.list .int]=true:=(pre_splitW hpre).1;have hc:l.pre.holds [] { args:=args }=true:=(pre_splitW hpre).2;obtain ⟨d,r,rfl,h1,h2⟩:=hasAllW_cons hsh;obtain rfl:=hasAllW_nil h2;obtain ⟨xs,rfl,h3⟩:=hasW_list h1;obtain ⟨ns,rfl⟩:=items_int h3;have hlen:ns.length<=n:=by
  unfold OpenLaw.pre at hc;have h4:(WTm.not (.lt (.lit (.int (n:Int))) (.len (.arg 0)))).holds [] { args:=[.list (ns.map .int)] }=true:=by
   have h4:=(holds_andW hc).1;rw [hn] at h4;exact h4
  have h5:=condW_of h4 (w_not (w_lt w_lit (w_len_list (w_arg rfl))));rw [List.length_map] at h5;refine Nat.le_of_not_lt fun q=>?_;have q':(n:Int)<((ns.length:Nat):Int):=by lia
  first
   |(rw [decide_eq_true q'] at h5;exact absurd h5 (by decide))
   |(simp at h5;lia)
 cases hwl with
 |cons w1 w2=>
  cases w2;cases w1 with
  |list ho hall=>exact ⟨_,_,ns,rfl,rfl,ho,iG ns _ hall,hlen⟩
theorem tH(l:OpenLaw)(args:List WData):l.row.toRowW.claim.post args (.bool true) args=true:=
 postW_of (r:=l.row.toRowW) (X:=(true==true))
  (show WShape.has [] (.bool true) .bool=true by first|rfl|decide|simp [WShape.has,WShape.arms,WShape.armsAll])
  (show (WTm.eq .res (.lit (.bool true))).value [] { args:=args,res:=some (.bool true),after:=args }=some (.bool (true==true)) from w_eq_bool (w_res rfl) w_lit) rfl
theorem o8{l:OpenLaw}{n:Nat}{q:Program}{loose:List Str}{XP:(Str->Option Value)->Heap->Prop}{YP:World->Heap->Prop}{d:DefRec}
  (hn:l.most=some n) (hdf:d.params.defaults=[])
  (call:∀(w:World) (s₀ s₁:Shared) (mg mb:Str->Option Value) (fa:Addr) (o:Obj) (pm cd doc:Value) (a:Addr) (vs:List Value) (ns:List Int),
   Ground q loose [] XP w s₀ mg mb s₁.heap->YP w s₁.heap->
   s₁.heap.get? fa=some o->o.data=.func (docDef d.name d.params d.body d.scope pm cd doc)->s₁.heap.CodeRec cd d.name->mg d.name=some (.ref fa)->
   s₁.heap.get? a=some { cls:=.type "list",data:=.seq vs.toArray }->IntsAre vs ns->ns.length<=n->s₁.gens=#[]->
   codeAny (model l.prog w) callerA (.call (.ref fa) ⟨[.ref a],[]⟩) (fun r s'=>r=.ok (.ret (.bool true))/\OldK s₁.heap s'.heap/\s'.os=s₁.os/\AllBare s'.gens) s₁):
  WalkO q loose XP YP l.row.toRowW d [] (fun f vs=>PySem.call f vs):=by
 intro w s₀ s₁ mg mb G Y fa o pm cd doc dV kV ho hd hcd hD hmg hg args vals as hpre hlay hrd hwl hlo;obtain rfl:dV=.none:=Dflts.none hD hdf;obtain rfl:kV=.none:=Dflts.noKw hD;obtain ⟨a,vs,ns,rfl,rfl,hobj,hints,hlen⟩:=rW hn hpre hwl;refine enter_call (codeAny_mono (call w s₀ s₁ mg mb fa o pm cd doc a vs ns G Y ho (fd_plain hd) hcd hmg hobj hints hlen hg) fun r s' hq=>?_);obtain ⟨rfl,h2,h3,h4⟩:=hq;exact ⟨.inl ⟨.bool true,.bool true,[],rfl,fun _=>rfl,.bool true,tH l _,fun _=>⟨List.Pairwise.nil,fun _ hm=>(nomatch hm)⟩⟩,h2,h3,h4⟩
section
variable {prog:Program}{w:World}{A:Around}{E:Value->Shared->Prop}{s:Shared}{K:Frag}
end
end Att
namespace L2
open PySem PySem.Spec PyProof.Rows
theorem kR:∀{vs:List Value} {ns:List Int},IntsAre vs ns->Vals (ns.map V.int) vs
 |_,_,.nil=>.nil
 |_,_,.cons n t h=>.cons ⟨t,rfl⟩ (kR h)
def uc(H:Hp):Prop:=∀b,H b=none\/∃o xs,H b=some (.frz o (.lst xs))
theorem wZ{P:Program}{w:World}{K:W.Frag}{mg mb:Str->Option Value}{CX:mK}{k:Nat}{fa a:Addr}{fd:FuncData}{x:Str}{sp:Sp}{s₁:Shared}{vs:List Value}{ns:List Int}
  (KX:K.In s₁.heap) (hns:s₁.heap.Ns mainGlobals mg) (hb:s₁.heap.Ns builtinsNs mb) (hbb:∀x:Str,x≠"__name__"->mb x=bootBuiltins x) (hlim:s₁.heap.NoLimit) (hg:s₁.gens=#[])
  (ha:s₁.heap.get? a=some { cls:=.type "list",data:=.seq vs.toArray }) (hi:IntsAre vs ns) (hl:ns.length<=sizeLine) (hr:Room k callerA)
  (F:∀base:Heap,K.In base->base.Ns mainGlobals mg->FnOk P w K mg base CX k fa fd [x] sp) (hbind:∀(s:Shared) (u:Value),BindsTo s fd ⟨[u],[]⟩ [(x,u)])
  (hsp:∀H:Hp,uc H->SqL K H a (ns.map V.int)->sp [.ref a] H (fun v _=>v=.bl true) fun _ _ _=>False)
  (hCX:∀H e s',CX [] H s₁ (fun _ _ _=>False) e s'->False):
  codeAny (model P w) callerA (.call (.ref fa) ⟨[.ref a],[]⟩) (fun r s'=>r=.ok (.ret (.bool true))/\OldK s₁.heap s'.heap/\s'.os=s₁.os/\AllBare s'.gens) s₁:=by
 have rv:=kR hi;have lenV:=hi.length
 -- from an abstract heap in which nothing but the script may be tracked
 have core:∀H:Hp,uc H->SqL K H a (ns.map V.int)->HOk P w H s₁.heap->(∀b,H b≠none->b=a)->(H a≠none->K.lookup a=none)->
   codeAny (model P w) callerA (.call (.ref fa) ⟨[.ref a],[]⟩) (fun r s'=>r=.ok (.ret (.bool true))/\OldK s₁.heap s'.heap/\s'.os=s₁.os/\AllBare s'.gens) s₁:=by
  intro H hO hS hok hA hK;have base_of:∀{b:Addr} {o:Obj},s₁.heap.get? b=some o->H b=none->(lE s₁.heap H).get? b=some o:=fun e n=>wX e n;have noA:∀{b:Addr} {o:Obj} {es:Array DictEntry} {ep:Nat},s₁.heap.get? b=some o->o.data=.dict es ep->H b=none:=fun {b o es ep} e d=>by
   cases q:H b with
   |none=>rfl
   |some u=>
    have e':b=a:=hA b (by rw [q];simp)
    subst e';rw [ha] at e;cases e;have d':Data.seq vs.toArray _=Data.dict es ep:=d;cases d'
  have nsK:∀{b:Addr} {m:Str->Option Value},s₁.heap.Ns b m->(lE s₁.heap H).Ns b m:=fun {b m} ⟨o,es,ep,e,d,r⟩=>⟨o,es,ep,base_of e (noA e d),d,r⟩;have hKb:K.In (lE s₁.heap H):=fun b o e=>base_of (KX b o e) (by
   cases q:H b with
   |none=>rfl
   |some u=>
    have e':b=a:=hA b (by rw [q];simp)
    subst e';rw [hK (by rw [q];simp)] at e;cases e)
  have hM:Mod K mg (lE s₁.heap H):=⟨hKb,nsK hns,⟨mb,nsK hb,hbb⟩,let ⟨mc,h1,h2⟩:=hlim;⟨mc,nsK h1,h2⟩⟩;have e0:Env0 P w K mg (lE s₁.heap H) callerA [] s₁ H:=⟨rfl,hM,fun b o e=>yK e,Nat.le_of_eq (tm _ _),trivial,fun b hb=>absurd (show b∈([]:List Addr) from hb) (by simp),hok,.of_eq hg⟩
  refine codeAny_mono ((F _ hKb (nsK hns)).run callerA [] s₁ H ⟨[.ref a],[]⟩ [.ref a] [.ref a] _ _ hr e0 (hbind s₁ (.ref a)) (.cons rfl .nil) (hsp H hO hS)) fun r s' h=>?_;cases r with
  |error e=>exact (hCX H e s' h).elim
  |ok fl=>
   cases fl with
   |next=>exact False.elim h
   |brk=>exact False.elim h
   |cont=>exact False.elim h
   |ret u=>
    obtain ⟨v,H',os,bare,un,hok',r',q⟩:=h;have q':v=.bl true:=q;subst q';obtain rfl:u=Value.bool true:=r';refine ⟨rfl,OldK.of_keep fun b o e=>?_,os,bare⟩;cases q:H b with
    |none=>exact un.keep b o e q (by intro z;exact absurd (show b∈([]:List Addr) from z) (by simp)) (by simp)
    |some u=>
     rcases hO b with z|⟨ob,xs,z⟩
     ·rw [q] at z;cases z
     ·have z2:=un.frzs b ob _ z
      obtain ⟨e1,_⟩:=hok b _ z;obtain ⟨e2,_⟩:=hok' b _ z2;rw [e] at e1;cases e1;exact e2
 cases hk:K.lookup a with
 |some o=>
  -- the script is one of the module's own objects
  have e:=KX a o hk;rw [ha] at e;cases e;refine core (fun _=>none) (fun _=>.inl rfl) (.inr ⟨_,vs.toArray,_,hk,rfl,rfl,rfl,by rw [List.size_toArray,lenV];exact hl,by simpa using rv⟩) (fun b u z=>by have z':(none:Option HO)=some u:=z;cases z') (fun b z=>absurd rfl z) fun z=>absurd rfl z
 |none=>
  refine core (fun b=>if b=a then some (.frz { cls:=.type "list",data:=.seq vs.toArray } (.lst (ns.map V.int))) else none) (fun b=>?_) (.inl (.inr ⟨{ cls:=.type "list",data:=.seq vs.toArray },if_pos rfl⟩)) (fun b u z=>?_) (fun b z=>?_) fun _=>hk
  ·by_cases hb:b=a
   ·exact .inr ⟨_,_,if_pos hb⟩
   ·exact .inl (if_neg hb)
  ·by_cases hb:b=a
   ·have z':=(if_pos hb).symm.trans z
    cases z';subst hb;exact ⟨ha,by rw [List.length_map];exact hl,vs,_,rv,ha⟩
   ·have z':=(if_neg hb).symm.trans z
    cases z'
  ·by_cases hb:b=a
   ·exact hb
   ·exact absurd (if_neg hb) z
end L2
namespace L2
open PySem PySem.Spec PyProof.Rows
theorem zi{l:W.OpenLaw}{n k:Nat}{q:Program}{loose:List Str}{XP:(Str->Option Value)->Heap->Prop}{YP:World->Heap->Prop}{d:DefRec}{K:Params->W.Frag}{CX:World->mK}{sp:World->Sp}{x:Str}
  (hn:l.most=some n) (hn2:n<=sizeLine) (hdf:d.params.defaults=[]) (hr:Room k callerA)
  (hY:∀(w:World) (h:Heap),YP w h->(K w.params).In h)
  (F:∀(w:World) (mg:Str->Option Value) (fa:Addr) (h:Heap),(K w.params).In h->h.Ns mainGlobals mg->mg d.name=some (.ref fa)->
   ∃fd:FuncData,(∀(s:Shared) (u:Value),BindsTo s fd ⟨[u],[]⟩ [(x,u)])/\
    ∀base:Heap,(K w.params).In base->base.Ns mainGlobals mg->FnOk l.prog w (K w.params) mg base (CX w) k fa fd [x] (sp w))
  (hsp:∀(w:World) (H:Hp) (a:Addr) (ns:List Int),ns.length<=n->uc H->SqL (K w.params) H a (ns.map V.int)->sp w [.ref a] H (fun v _=>v=.bl true) fun _ _ _=>False)
  (hCX:∀(w:World) (H:Hp) (s:Shared) (e:Value) (s':Shared),CX w [] H s (fun _ _ _=>False) e s'->False):
  W.WalkO q loose XP YP l.row.toRowW d [] (fun f vs=>PySem.call f vs):=by
 refine Att.o8 hn hdf fun w s₀ s₁ mg mb fa o pm cd doc a vs ns G Y ho hd hcd hmg hobj hints hlen hg=>?_;have KX:=hY w _ Y;obtain ⟨fd,hb,hF⟩:=F w mg fa _ KX G.T.g hmg;exact wZ KX G.T.g G.T.b G.T.builtins G.T.nolimit hg hobj hints (Nat.le_trans hlen hn2) hr hF hb (fun H hO hS=>hsp w H a ns hlen hO hS) fun H e s'=>hCX w H s₁ e s'
end L2
namespace L2
open PySem PySem.Spec PyProof.Rows
def lA(s:Stmt)(j:Nat):Stmt:=match s with
 |.ClassDef _ _ _ body _ _ _ _ _ _ _=>body.getD j (.Pass ⟨0,0,0,0⟩)
 |_=>.Pass ⟨0,0,0,0⟩
def fj(s:Stmt):Arguments:=match s with
 |.FunctionDef _ a _ _ _ _ _ _ _ _=>a
 |_=>{ posonlyargs:=[],args:=[],vararg:=none,kwonlyargs:=[],kw_defaults:=[],kwarg:=none,defaults:=[] }
def eg(s:Stmt):List Stmt:=match s with
 |.FunctionDef _ _ b _ _ _ _ _ _ _=>b
 |_=>[]
def aC(s:Stmt):Scope:=match s with
 |.FunctionDef _ _ _ _ _ _ sc _ _ _=>sc
 |_=>{ kind:=.function,names:=[],isGenerator:=false,isCoroutine:=false }
abbrev CX0:mK:=fun _ _ _ _ _ _=>False
abbrev E0:XK:=fun _ _ _=>False
structure Fun(K:W.Frag)(x qual:Str)(st:Stmt)(f:Addr)(fd:FuncData):Prop where
 ex:∃(oc:Value) (od:Option Addr) (kV doc pm:Value) (an:Option Addr) (cdv ct:Value) (osl:Array (Option Value)),
  fd=W.fnOf x qual (fj st) (eg st) (aC st) .none kV doc pm an cdv ct/\K.lookup f=some ⟨oc,od,.func fd,osl⟩/\W.codeIn K cdv qual=true
 kp:W.keepIn K (.ref f)=true
section
variable {P:Program}{w:World}{K:W.Frag}{mg:Str->Option Value}{base:Heap}
theorem Fun.binds{x qual:Str}{st:Stmt}{f:Addr}{fd:FuncData}{ps:List Str}(F:Fun K x qual st f fd)
  (h:∀(kV doc pm:Value) (an:Option Addr) (cdv ct:Value) (us:List Value),us.length=ps.length->bindArgs (W.fnOf x qual (fj st) (eg st) (aC st) .none kV doc pm an cdv ct) ⟨us,[]⟩=pure (ps.zip us)):Binds K fd ps []:=by
 obtain ⟨oc,od,kV,doc,pm,an,cdv,ct,osl,rfl,lk,hcd⟩:=F.ex;exact .all (h kV doc pm an cdv ct)
theorem uR{x qual:Str}{st:Stmt}{f:Addr}{oc:Value}{od an:Option Addr}{osl:Array (Option Value)}{kV doc pm cdv ct:Value}(l:K.lookup f=some ⟨oc,od,.func (W.fnOf x qual (fj st) (eg st) (aC st) .none kV doc pm an cdv ct),osl⟩)
  (c:W.codeIn K cdv qual=true) (k:W.keepIn K (.ref f)=true):Fun K x qual st f (W.fnOf x qual (fj st) (eg st) (aC st) .none kV doc pm an cdv ct):=⟨⟨oc,od,kV,doc,pm,an,cdv,ct,osl,rfl,l,c⟩,k⟩
end
theorem bv{A:Around}{k:Nat}(hr:Room k A):A.units+1<cLine:=Nat.lt_of_le_of_lt (Nat.add_le_add_left (by decide:1<=64) _) hr.units
section
variable {X:Cx}
theorem su:cj X (.builtin "len") (fun xs H Q=>∃a kvs,xs=[V.ref a]/\H a=some (.dK kvs)/\Q (.int kvs.length) H):=by
 intro pins s σ H xs us Q I r h;obtain ⟨a,kvs,rfl,ha,q⟩:=h;obtain ⟨u,rfl,ru⟩:=fJ r;cases ru;exact FA I (.inl ha) fun t s' I'=>⟨.int kvs.length,H,I',⟨t,rfl⟩,q⟩
end
section
variable {κ:Type}[DecidableEq κ]
end
end L2
namespace L2
open PySem PySem.Spec PyProof.Rows
section
variable {prog:Program}{w:World}{A:Around}{R:Result->Shared->Prop}{s:Shared}
theorem lh{elt target iter:Expr}{ifs:List Expr}{scope:Scope}{pos:Pos}{it acc:Value}{env:Env}(I:Nat->Shared->Prop)
  (turn:∀n s,I n s->wpAny (model prog w) A (pyNext it) (fun r s₁=>match r with
   |none=>R (.ok .next) s₁
   |some v=>wpAny (model prog w) A (letOwnedTupleGo target it v) (fun _ s₂=>wpAny (model prog w) A (assign target env v) (fun _ s₃=>
     wpAny (model prog w) A (forIn ifs true fun c r=>if r=true then do let ok <- isTrue c env (eval c env);pure (ForInStep.yield ok) else pure (ForInStep.yield r)) (fun ok s₄=>
      if ok=true then wpAny (model prog w) A (eval elt env) (fun x s₅=>
       wpAny (model prog w) A (call (.builtin "list.append") [acc,x]) (fun _ s₆=>∃m,m<n/\I m s₆) (fun _ _=>False) s₅) (fun _ _=>False) s₄
      else ∃m,m<n/\I m s₄) (fun _ _=>False) s₃) (fun _ _=>False) s₂) (fun _ _=>False) s₁) (fun _ _=>False) s)
  (n:Nat) (h:I n s):
  codeAny (model prog w) A (.compLoop (.ListComp elt [⟨target,iter,ifs,0⟩] scope pos) 0 it acc env) R s:=by
 refine codeAny_loop rfl I (fun n s hI=>?_) n h;show wpAny _ A ((compTurn (.ListComp elt [⟨target,iter,ifs,0⟩] scope pos) 0 it acc env).onRaise (fun x=>do noteFrame x env;theTreesLotGoes x)) _ _ s
 refine wpAny_noted ?_;rw [compTurn_list];refine wpAny_bind (wpAny_standAt (wpAny_bind (wpAny_mono (turn n s hI) (fun r s₁ h₁=>?_) fun _ _ z=>z.elim)));cases r with
 |none=>exact wpAny_pure h₁
 |some v=>
  refine wpAny_bind (wpAny_mono h₁ (fun _ s₂ h₂=>wpAny_bind (wpAny_mono h₂ (fun _ s₃ h₃=>wpAny_bind (wpAny_mono h₃ (fun ok s₄ h₄=>?_) fun _ _ z=>z.elim)) fun _ _ z=>z.elim)) fun _ _ z=>z.elim);cases ok with
  |false=>exact wpAny_pure ⟨rfl,h₄⟩
  |true=>
   exact wpAny_bind (wpAny_bind (wpAny_mono h₄ (fun x s₅ h₅=>wpAny_bind (wpAny_mono h₅ (fun _ s₆ h₆=>wpAny_pure (wpAny_pure ⟨rfl,h₆⟩)) fun _ _ z=>z.elim)) fun _ _ z=>z.elim))
end
def ca(X:Cx)(N:List Str)(scope:Scope)(cl:List (Str×Addr))(C:Addr)(s₀:Shared)(H₀:Hp)(fp:List Addr)(pl:List (Addr×Obj)):Cx where
 prog:=X.prog
 w:=X.w
 K:=X.K
 mg:=X.mg
 base:=X.base
 A:=X.A
 N:=N
 s₀:=s₀
 H₀:=H₀
 env:=compEnvC scope cl C X.env
 outer:=X.stack
 stack:=X.stack
 ex:=fp
 fn:=fun _=>false
 calm:=X.calm
 pn:=X.pn++pl
 xe:=fun _ _=>False
inductive Frees(X:Cx)(scope:Scope):List Str->List Nat->Prop where
 |nil:Frees X scope [] []
 |cons {x:Str} {j:Nat} {xs:List Str} {js:List Nat}:X.N[j]?=some x->(X.env.kindOf x=some .cell\/X.env.kindOf x=some .free)->
   ((relabel scope X.env).names.lookup x=some .cell\/(relabel scope X.env).names.lookup x=some .free)->Frees X scope xs js->Frees X scope (x::xs) (j::js)
theorem Frees.length{X:Cx}{scope:Scope}:∀{xs:List Str} {js:List Nat},Frees X scope xs js->xs.length=js.length
 |_,_,.nil=>rfl
 |_,_,.cons _ _ _ t=>congrArg (·+1) t.length
theorem Frees.get{X:Cx}{scope:Scope}:∀{xs:List Str} {js:List Nat},Frees X scope xs js->∀{i:Nat} {x:Str},xs[i]?=some x->∃j,js[i]?=some j/\X.N[j]?=some x/\(X.env.kindOf x=some .cell\/X.env.kindOf x=some .free)/\
   ((relabel scope X.env).names.lookup x=some .cell\/(relabel scope X.env).names.lookup x=some .free)
 |_,_,.nil,i,x,h=>by simp at h
 |_,_,.cons a b c _,0,x,h=>by simp at h;subst h;exact ⟨_,rfl,a,b,c⟩
 |_,_,.cons _ _ _ t,i+1,x,h=>by
  obtain ⟨j,h1,h2⟩:=t.get (i:=i) (x:=x) (by simpa using h)
  exact ⟨j,by simpa using h1,h2⟩
def cM(ls:List Str)(js:List Nat)(σ:St):St:=ls.map (fun _=>none)++js.map fun j=>(σ[j]?).join
structure CompOk(X:Cx)(scope:Scope)(cl:List (Str×Addr))(ls fs:List Str)(js:List Nat):Prop where
 kind:scope.kind=.function
 nocell:∀y∈scope.names,y.2≠.cell
 locs:∀x∈scope.names,x.2=.local->scope.names.lookup x.1=some .local
 clos:closureFor scope X.env=pure cl
 cells:∀x c,cl.lookup x=some c->X.env.cells.lookup x=some c
 has:∀x,((relabel scope X.env).names.lookup x=some .cell\/(relabel scope X.env).names.lookup x=some .free)->∃c,cl.lookup x=some c
 frees:Frees X scope fs js
theorem va{X:Cx}{pins:List (Addr×Obj)}{σ:St}{H:Hp}{s:Shared}{scope:Scope}{cl:List (Str×Addr)}{ls fs:List Str}{js:List Nat}{fp:List Addr}{h₁:Heap}{m:Str->Option Value}{t':Nat}
  (I:Inv X pins σ H s) (co:CompOk X scope cl ls fs js) (hfp:∀b∈fp,gO X pins H b/\b<s.heap.objs.size) (hns:h₁.Ns s.heap.objs.size m) (hk:∀b o,s.heap.get? b=some o->h₁.get? b=some o):
  Inv (ca X (ls++fs) scope cl s.heap.objs.size s H fp pins) [] (cM ls js σ) H { s with heap:=h₁,toks:=t' }:=by
 have lk:∀b o,s.heap.get? b=some o->b≠s.heap.objs.size:=fun b o e=>Nat.ne_of_lt (Heap.lt_size e);refine ⟨⟨I.ok.mod,co.kind,I.ok.glob,I.ok.blt,Nat.le_refl _,fun x y c h1 h2=>?_,fun x hx=>co.has x hx,fun x c h _=>absurd (show false=true from h) Bool.false_ne_true,I.ok.hd,I.ok.frames,.inl rfl,fun b hb=>⟨Nat.ne_of_lt (hfp b hb).2,fun x c e=>?_⟩,
   fun b o e=>I.bs b o e,Nat.le_trans I.ok.bsz I.sz,fun b o e hb=>?_,fun b hb hf=>?_,I.stack,fun b hb=>I.stkFree b hb⟩,
  rfl,I.bare,Un.kept hk,⟨m,hns,fun i x v h1 h2 h3=>?_⟩,fun x c e=>?_,I.hok.fresh (Nat.le_refl _),fun x c e=>I.freeC x c (co.cells x c e),fun p hp=>?_,I.hok.kept hk,?_⟩
 ·exact I.ok.inj x y c (co.cells x c h1) (co.cells y c h2)
 ·exact (hfp b hb).1.2.2.2.2.1 x c (co.cells x c e)
 ·obtain ⟨f0,f1,f2,f3,_⟩:=(hfp b hb).1
  rcases f3 with z|z
  ·exact I.ok.noex b o e z
  ·exact absurd (Nat.lt_of_lt_of_le (Heap.lt_size (I.ok.bs b o e).1) z) (Nat.lt_irrefl _)
 ·obtain ⟨f0,f1,f2,f3,_⟩:=(hfp b hb).1
  rcases List.mem_cons.mp (I.stkSub b hf) with z|z
  ·exact f1 z
  ·exact f2 z
 ·have hi:¬i<ls.length:=fun hi=>by
   have h2':(cM ls js σ)[i]?=some (some v):=h2;unfold cM at h2';rw [List.getElem?_append_left (by simpa using hi),List.getElem?_map,List.getElem?_eq_getElem hi] at h2'
   cases h2'
  have hN:fs[i-ls.length]?=some x:=by
   have h1':(ls++fs)[i]?=some x:=h1
   rwa [List.getElem?_append_right (by lia)] at h1'
  obtain ⟨j,hj,hx,hc,hl⟩:=co.frees.get hN;have hσ:σ[j]?=some (some v):=by
   have h2':(cM ls js σ)[i]?=some (some v):=h2;unfold cM at h2';rw [List.getElem?_append_right (by simpa using hi),List.length_map,List.getElem?_map,hj] at h2'
   have q:(σ[j]?).join=some v:=by simpa using h2'
   cases e:σ[j]? with
   |none=>rw [e] at q;cases q
   |some o=>rw [e] at q;have q':o=some v:=q;rw [q']
  obtain ⟨mX,_,hlX⟩:=I.loc;have vis:Eh X.env.scope x:=by
   rcases hc with z|z
   ·exact .inr (.inl z)
   ·exact .inr (.inr z)
  obtain ⟨u,ru,lo⟩:=hlX j x v hx hσ vis;refine ⟨u,ru,.inr ⟨hl,?_⟩⟩;obtain ⟨c,ec⟩:=co.has x hl;refine ⟨c,ec,?_⟩;rcases lo with ⟨kl,_⟩|⟨_,c',e',z⟩
  ·rcases hc with q|q<;>(rw [q] at kl;cases kl)
  ·rw [co.cells x c ec] at e'
   cases e';obtain ⟨o,ho,hd⟩:=z;exact ⟨o,hk _ _ ho,hd⟩
 ·obtain ⟨v,o,ho,hd⟩:=I.cell x c (co.cells x c e)
  exact ⟨v,o,hk _ _ ho,hd⟩
 ·have hp':p∈X.pn++pins:=by
   have q:p∈(X.pn++pins)++[]:=hp;simpa using q
  obtain ⟨e,n,ne,nf,d⟩:=I.pin p hp';refine ⟨hk _ _ e,n,lk _ _ e,fun hb=>?_,d⟩;rcases List.mem_cons.mp (I.stkSub p.1 hb) with z|z
  ·exact ne z
  ·exact nf z
 ·show (cM ls js σ).length=(ls++fs).length
  unfold cM;rw [List.length_append,List.length_map,List.length_map,List.length_append,co.frees.length]
def Ej(X:Cx)(ifs:List Expr)(t:TT):Prop:=
 ∀(pins:List (Addr×Obj)) (s:Shared) (σ:St) (H:Hp) (Q:Bool->Hp->Prop),Inv X pins σ H s->t σ H Q->
  wpAny (model X.prog X.w) X.A (forIn ifs true fun c r=>if r=true then do let ok <- isTrue c X.env (eval c X.env);pure (ForInStep.yield ok) else pure (ForInStep.yield r)) (TP X pins σ Q) X.xe s
def tAll:TT:=fun _ H Q=>Q true H
theorem xp{X:Cx}:Ej X [] tAll:=fun _ _ _ H _ I h=>wpAny_tests_nil ⟨H,I,h⟩
theorem ym{X:Cx}{c:Expr}{t:TT}(h:PT X c t):Ej X [c] t:=fun pins s σ H Q I q=>wpAny_tests_one (h pins s σ H Q I q)
def AQ(wi:TI)(ls:List Str)(js:List Nat)(g:TG)(tt:TT)(te:TE):TE:=fun σ H Q=>wi σ H fun J H1=>∀p,H1 p=none->∃W:Nat->Nat->St->Hp->Prop,(∃m,W 0 m (cM ls js σ) (upd H1 p (.lst [])))/\∀i m σ' H',W i m σ' H'->
 (J.stop i H'/\Q (.ref p) H')\/(J.go i H'/\∃N:St->Hp->Prop,(∀σ2 H2,N σ2 H2->∃m',m'<m/\W (i+1) m' σ2 H2)/\∀x H2,J.yld i H' x H2->g x σ' H2 fun σ3 H3=>tt σ3 H3 fun c H4=>
  if c=true then te σ3 H4 fun y H5=>∃ys,H5 p=some (.lst ys)/\ys.length<sizeLine/\N σ3 (upd H5 p (.lst (ys++[y]))) else N σ3 H4)
section
variable {X:Cx}{tg iter elt:Expr}{ifs:List Expr}{scope:Scope}{cl:List (Str×Addr)}{pos:Pos}{ls fs:List Str}{js:List Nat}{wi:TI}{g:TG}{tt:TT}{te:TE}
theorem vK{pins:List (Addr×Obj)}{σ:St}{s2:Shared}{it:Addr}{fp:List Addr}{tn:Nat->Heap->Prop}{J:It}{H1:Hp}{R:Value->Addr->Result->Shared->Prop}{Q:VK}{E:Value->Shared->Prop}(hc:X.calm=true)(co:CompOk X scope cl ls fs js)
  (hY:∀(C:Addr) (s₀:Shared) (H₀:Hp) (fp:List Addr) (pl:List (Addr×Obj)),PG (ca X (ls++fs) scope cl C s₀ H₀ fp pl) tg g/\Ej (ca X (ls++fs) scope cl C s₀ H₀ fp pl) ifs tt/\PE (ca X (ls++fs) scope cl C s₀ H₀ fp pl) elt te)
  (I:Inv X pins σ H1 s2) (T:Turn X.prog X.w X.K tg J fp it tn) (st:tn 0 s2.heap) (hf:∀b∈fp,gO X pins H1 b)
  (q:∀p,H1 p=none->∃W:Nat->Nat->St->Hp->Prop,(∃m,W 0 m (cM ls js σ) (upd H1 p (.lst [])))/\∀i m σ' H',W i m σ' H'->
   (J.stop i H'/\Q (.ref p) H')\/(J.go i H'/\∃N:St->Hp->Prop,(∀σ2 H2,N σ2 H2->∃m',m'<m/\W (i+1) m' σ2 H2)/\∀x H2,J.yld i H' x H2->g x σ' H2 fun σ3 H3=>tt σ3 H3 fun c H4=>
    if c=true then te σ3 H4 fun y H5=>∃ys,H5 p=some (.lst ys)/\ys.length<sizeLine/\N σ3 (upd H5 p (.lst (ys++[y]))) else N σ3 H4))
  (hR:∀(p C:Addr) (H':Hp) (s':Shared) (m:Str->Option Value),s'.heap.Ns C m->Inv X pins σ H' s'->H' C=none->C≠X.env.locals->X.s₀.heap.objs.size<=C->(∀x c,X.env.cells.lookup x=some c->c≠C)->(∀pp∈X.pn++pins,pp.1≠C)->Q (.ref p) H'->R (.ref p) C (.ok .next) s'):
  wpAny (model X.prog X.w) X.A (newList []) (fun acc s₃=>wpAny (model X.prog X.w) X.A (newFunctionEnv scope X.env.globals cl [] X.env.qual none .none (some X.env)) (fun cenv s₄=>
   codeAny (model X.prog X.w) X.A (.compStart (.ListComp elt [⟨tg,iter,ifs,0⟩] scope pos) 0 (.ref it) acc { cenv with scope:=relabel scope X.env }) (R acc cenv.locals) s₄) E s₃) E s2:=by
 have hp0:H1 s2.heap.objs.size=none:=I.hok.fresh (Nat.le_refl _);obtain ⟨W,⟨m0,w0⟩,turn⟩:=q s2.heap.objs.size hp0;refine wpAny_newObj_type (wpAny_newFunctionEnv co.nocell (by intro y hy;simp at hy) (fun h₁ hns₁ hsb₁=>?_) co.kind)
 dsimp only at hns₁ hsb₁ ⊢;have I3:Inv X pins σ (upd H1 s2.heap.objs.size (.lst [])) { s2 with heap:=s2.heap.push { cls:=.type "list",dict:=none,data:=.seq ([]:List Value).toArray } }:=
  I.lnew (its:=[]) (t':=s2.toks) .nil (Nat.zero_le _)
 generalize hs3:({ s2 with heap:=s2.heap.push { cls:=.type "list",dict:=none,data:=.seq ([]:List Value).toArray } }:Shared)=s3 at I3;have hh3:s2.heap.push { cls:=.type "list",dict:=none,data:=.seq ([]:List Value).toArray }=s3.heap:=by rw [<- hs3]
 rw [hh3] at hns₁ hsb₁ ⊢;have hsz3:s3.heap.objs.size=s2.heap.objs.size+1:=by rw [<- hh3,Heap.size_push]
 have hk3:∀b o,s2.heap.get? b=some o->s3.heap.get? b=some o:=fun b o e=>by rw [<- hh3];exact Heap.get?_push_of_some _ e
 have hlt:∀b∈fp,b<s2.heap.objs.size:=fun b hb=>by
  obtain ⟨o,e,_⟩:=T.obj _ _ st b hb;exact Heap.lt_size e
 have hnp:∀b∈fp,upd H1 s2.heap.objs.size (.lst []) b=none:=fun b hb=>by
  rw [upd_ne (Nat.ne_of_lt (hlt b hb))];exact (hf b hb).1
 have hf3:∀b∈fp,gO X pins (upd H1 s2.heap.objs.size (.lst [])) b/\b<s3.heap.objs.size:=fun b hb=>⟨⟨hnp b hb,(hf b hb).2⟩,by rw [hsz3];exact Nat.lt_succ_of_lt (hlt b hb)⟩
 have hk4:∀b o,s3.heap.get? b=some o->h₁.get? b=some o:=fun b o e=>hsb₁.extBut b o (Nat.ne_of_lt (Heap.lt_size e)) (Heap.get?_push_of_some _ e);have st4:tn 0 h₁:=T.keep _ _ _ st fun b hb o e=>hk4 b o (hk3 b o e);have I4:=va (t':=s3.toks) I3 co hf3 hns₁ hk4;obtain ⟨hg,ht,he⟩:=hY s3.heap.objs.size s3 (upd H1 s2.heap.objs.size (.lst [])) fp pins;have stat:∀{H':Hp},(∀b∈fp,H' b=none)->∀b∈fp,gO (ca X (ls++fs) scope cl s3.heap.objs.size s3 (upd H1 s2.heap.objs.size (.lst [])) fp pins) [] H' b:=fun {H'} hn b hb=>by
  obtain ⟨f0,f1,f2,f3,f4,f5⟩:=hf b hb;refine ⟨hn b hb,Nat.ne_of_lt (hf3 b hb).2,fun z=>?_,.inl hb,fun x c e=>f4 x c (co.cells x c e),fun pp hp=>f5 pp ?_⟩
  ·rcases List.mem_cons.mp (I3.stkSub b z) with y|y
   ·exact f1 y
   ·exact f2 y
  ·have q:pp∈(X.pn++pins)++[]:=hp
   simpa using q
 have loop:∀s₄:Shared,s₄={ s3 with heap:=h₁,toks:=s3.toks }->
   codeAny (model X.prog X.w) X.A (.compLoop (.ListComp elt [⟨tg,iter,ifs,0⟩] scope pos) 0 (.ref it) (.ref s2.heap.objs.size) (compEnvC scope cl s3.heap.objs.size X.env)) (R (.ref s2.heap.objs.size) s3.heap.objs.size) s₄:=by
  rintro s₄ rfl
  refine lh (fun n s'=>∃i σ' H',Inv (ca X (ls++fs) scope cl s3.heap.objs.size s3 (upd H1 s2.heap.objs.size (.lst [])) fp pins) [] σ' H' s'/\tn i s'.heap/\(∀b∈fp,H' b=none)/\W i n σ' H') ?_ m0 ⟨0,_,_,I4,st4,hnp,w0⟩
  rintro n s5 ⟨i,σ5,H5,I5,st5,fr5,w5⟩
  rcases turn i n σ5 H5 w5 with ⟨stop,qn⟩|⟨go,N,hN,step⟩
  ·refine thn (T.done (ca X (ls++fs) scope cl s3.heap.objs.size s3 (upd H1 s2.heap.objs.size (.lst [])) fp pins) rfl rfl rfl hc i [] s5 σ5 H5 _ I5 (stat fr5) st5 stop) fun r s6 ⟨hr,I6⟩=>?_
   subst hr;obtain ⟨m6,hn6,_⟩:=I6.loc;have IX:Inv X pins σ H5 s6:=I3.call' I6.os I6.base I6.hok I6.bare fun b hb=>⟨(hf b hb).2.2.2.1,(hf b hb).2.1,(hf b hb).2.2.2.2.1,(hf b hb).2.2.2.2.2⟩;refine hR _ _ H5 s6 m6 hn6 IX I6.free (Nat.ne_of_gt I3.lt) I3.sz (fun x c e z=>?_) (fun pp hp z=>?_) qn
   ·obtain ⟨v,zz⟩:=I3.cell x c e
    have zl:=zz.lt;rw [z] at zl;exact Nat.lt_irrefl _ zl
   ·have zl:=Heap.lt_size (I3.pin pp hp).1
    rw [z] at zl;exact Nat.lt_irrefl _ zl
  ·refine thn (T.item (ca X (ls++fs) scope cl s3.heap.objs.size s3 (upd H1 s2.heap.objs.size (.lst [])) fp pins) rfl rfl rfl hc i [] s5 σ5 H5 _ I5 (stat fr5) st5 go) fun r s6 ⟨u,hr,h6⟩=>?_
   subst hr;refine thn h6 fun _ s7 ⟨x,H7,I7,r7,y7,st7,fr7⟩=>?_;have I7':=I7.pinned (stat fr7) (T.obj _ _ st7);refine thn (hg _ s7 σ5 H7 x u _ I7' r7 (step x H7 y7)) fun _ s8 ⟨σ8,H8,I8,q8⟩=>?_
   have again:∀{σ9:St} {H9:Hp} {s9:Shared},Inv (ca X (ls++fs) scope cl s3.heap.objs.size s3 (upd H1 s2.heap.objs.size (.lst [])) fp pins) ([]++jr fp s7.heap) σ9 H9 s9->N σ9 H9->
     ∃m,m<n/\∃i σ' H',Inv (ca X (ls++fs) scope cl s3.heap.objs.size s3 (upd H1 s2.heap.objs.size (.lst [])) fp pins) [] σ' H' s9/\tn i s9.heap/\(∀b∈fp,H' b=none)/\W i m σ' H':=fun {σ9 H9 s9} I9 n9=>by
    obtain ⟨m',hm,w9⟩:=hN σ9 H9 n9;refine ⟨m',hm,i+1,σ9,H9,I9.unpinned,T.keep _ _ _ st7 fun b hb o e=>(I9.pin (b,o) (List.mem_append_right _ (List.mem_append_right _ (dL hb e)))).1,fun b hb=>?_,w9⟩;obtain ⟨o,e,d⟩:=T.obj _ _ st7 b hb;exact (I9.pin (b,o) (List.mem_append_right _ (List.mem_append_right _ (dL hb e)))).2.1
   refine thn (ht _ s8 σ8 H8 _ I8 q8) fun ok s9 ⟨H9,I9,q9⟩=>?_;cases ok with
   |false=>exact again I9 q9
   |true=>
    refine thn (he _ s9 σ8 H9 _ I9 q9) fun xv s10 ⟨y,H10,I10,r10,ys,hp,hl,n10⟩=>?_;obtain ⟨z,its,n',r,hl',e⟩:=I10.lstM hp;refine call_meets F.slot_list_append ⟨_,e,rfl⟩ F.entry_list_append (F.args_list_append_2 _ _) (PySem.list_append s2.heap.objs.size its.toArray n' xv (by rw [List.size_toArray];lia)) ⟨e,?_⟩
    refine again (I10.lset (its':=its++[xv]) hp e (by simp) (r.append (.cons r10 .nil)) ?_) n10
    rw [List.length_append,List.length_singleton];lia
 have se:({ s2 with heap:=h₁,toks:=s2.toks+([]:List (Str×Value)).length }:Shared)={ s3 with heap:=h₁,toks:=s3.toks }:=by rw [<- hs3];rfl
 exact codeAny_compStart_list (loop _ se) (T.self _ 0 _ _ _ st4 (loop _ se))
theorem zQ(hc:X.calm=true)(co:CompOk X scope cl ls fs js)(hi:PI X tg iter wi)
  (hY:∀(C:Addr) (s₀:Shared) (H₀:Hp) (fp:List Addr) (pl:List (Addr×Obj)),PG (ca X (ls++fs) scope cl C s₀ H₀ fp pl) tg g/\Ej (ca X (ls++fs) scope cl C s₀ H₀ fp pl) ifs tt/\PE (ca X (ls++fs) scope cl C s₀ H₀ fp pl) elt te)
  (hs:∀x,foldedSetIterable iter X.env x=pure x:=by intro _;rfl):PE X (.ListComp elt [⟨tg,iter,ifs,0⟩] scope pos) (AQ wi ls js g tt te):=by
 intro pins s σ H Q I h;rw [eval_ListComp];refine wpAny_comprehension_free (use:=none) rfl hs co.clos co.kind co.locs (thn (hi pins s σ H _ I h) fun xv s1 h1=>thn h1 fun itv s2 h2=>?_);obtain ⟨it,fp,tn,J,H2,e,I2,T,st2,f2,q⟩:=h2;subst e;refine vK (R:=fun acc C=>compPost (model X.prog X.w) X.A X.xe none (EP X pins σ Q) acc C) (Q:=Q) hc co hY I2 T st2 f2 q ?_;intro p C H' s' m hn IX hC hL hge hcell hpin hq;exact ⟨m,hn,fun h' sb=>⟨.ref p,H',IX.turned (t':=s'.toks) (fun b o hb e=>sb.extBut b o hb e) hC hL (.inr hge) hcell hpin,rfl,hq⟩⟩
end
end L2
namespace L2
open PySem PySem.Spec PyProof.Rows
def SrcTn(b:Bool)(it a:Addr)(i:Nat)(h:Heap):Prop:=if b=true then h.IsListIter it a i else h.IsTupleIter it a i
def SrcSq(b:Bool)(h:Heap)(a:Addr)(items:Array Value):Prop:=if b=true then h.IsList a items else h.IsTuple a items
theorem SrcTn.lt{b:Bool}{it a:Addr}{i:Nat}{h:Heap}(x:SrcTn b it a i h):∃o,h.get? it=some o/\∀v,o.data≠.cell v:=by
 cases b with
 |true=>obtain ⟨o,e,c,d⟩:=(show h.IsListIter it a i from x);exact ⟨o,e,fun v z=>by rw [d] at z;cases z⟩
 |false=>obtain ⟨o,e,c,d⟩:=(show h.IsTupleIter it a i from x);exact ⟨o,e,fun v z=>by rw [d] at z;cases z⟩
theorem SrcTn.keep{b:Bool}{it a:Addr}{i:Nat}{h h':Heap}(x:SrcTn b it a i h)(k:∀o,h.get? it=some o->h'.get? it=some o):SrcTn b it a i h':=by
 cases b with
 |true=>obtain ⟨o,e,r⟩:=(show h.IsListIter it a i from x);exact (show h'.IsListIter it a i from ⟨o,k o e,r⟩)
 |false=>obtain ⟨o,e,r⟩:=(show h.IsTupleIter it a i from x);exact (show h'.IsTupleIter it a i from ⟨o,k o e,r⟩)
theorem SrcSq.keep{b:Bool}{a:Addr}{items:Array Value}{h h':Heap}(x:SrcSq b h a items)(k:∀o,h.get? a=some o->h'.get? a=some o):SrcSq b h' a items:=by
 cases b with
 |true=>obtain ⟨o,e,r⟩:=(show h.IsList a items from x);exact (show h'.IsList a items from ⟨o,k o e,r⟩)
 |false=>obtain ⟨o,e,r⟩:=(show h.IsTuple a items from x);exact (show h'.IsTuple a items from ⟨o,k o e,r⟩)
section
variable {prog:Program}{w:World}{A:Around}{E:Value->Shared->Prop}{s:Shared}
theorem fV{it l:Addr}{i:Nat}{items:Array Value}{x:Value}{Q:Value->Shared->Prop}(hit:s.heap.IsTupleIter it l i)(hl:s.heap.IsTuple l items)(hx:items[i]?=some x)
  (hQ:∀h',h'.IsTupleIter it l (i+1)->Heap.SameBut it s.heap h'->Q x { s with heap:=h' }):wpAny (model prog w) A (Builtin.SmallTypes.nextOf (.ref it)) Q E s:=by
 obtain ⟨o,ho,hc,hd⟩:=id hit;obtain ⟨ol,hol,_,nl,hdl⟩:=hl;unfold Builtin.SmallTypes.nextOf
 refine wpAny_bind (wpAny_callSpecial?_slot (name:=Str.ofString "__next__") hit.typeIs F.slot_tuple_iterator_next
  (wpAny_call_entry F.slot_tuple_iterator_next hit.typeIs F.entry_tuple_iterator_next ?_ (F.args_tuple_iterator_next_1 _)))
 show wpAny _ _ (field (.ref it) 0 >>= _) _ _ s;refine wpAny_bind (wpAny_field ho hd (x:=.ref l) rfl ?_);show wpAny _ _ (if (Value.ref l==Value.none)=true then _ else _) _ _ s
 rw [if_neg (show ¬((Value.ref l==Value.none)=true) from Bool.false_ne_true)];show wpAny _ _ (field (.ref it) 1 >>= _) _ _ s;refine wpAny_bind (wpAny_field ho hd (x:=.int i 0) rfl ?_);show wpAny _ _ (seqItems? (.ref l) >>= _) _ _ s;refine wpAny_bind (wpAny_seqItems hol hdl ?_);simp only [Int.toNat_natCast,hx];refine wpAny_bind (wpAny_setField ho hd (by simp) (wpAny_pure ⟨x,rfl,wpAny_pure (hQ _ ?_ (Heap.SameBut.update ..))⟩))
 exact ⟨_,Heap.get?_update_self _ ho (Obj.isFreed_of_fields (Obj.data_mapFields hd _)),(Obj.cls_mapFields ..).trans hc,by
  rw [Obj.data_mapFields hd];simp [rawInt]⟩
theorem gK{it l:Addr}{i:Nat}{items:Array Value}{Q:Value->Shared->Prop}(hh:A.handled=none)(hit:s.heap.IsTupleIter it l i)(hl:s.heap.IsTuple l items)(hx:items[i]?=none)
  (hE:∀h' e,Heap.ExtBut it s.heap h'->(∃o,h'.get? e=some o/\o.cls=.type "StopIteration")->E (.ref e) { s with heap:=h' }):wpAny (model prog w) A (Builtin.SmallTypes.nextOf (.ref it)) Q E s:=by
 obtain ⟨o,ho,hc,hd⟩:=id hit;obtain ⟨ol,hol,_,nl,hdl⟩:=hl;unfold Builtin.SmallTypes.nextOf
 refine wpAny_bind (wpAny_callSpecial?_slot (name:=Str.ofString "__next__") hit.typeIs F.slot_tuple_iterator_next
  (wpAny_call_entry F.slot_tuple_iterator_next hit.typeIs F.entry_tuple_iterator_next ?_ (F.args_tuple_iterator_next_1 _)))
 show wpAny _ _ (field (.ref it) 0 >>= _) _ _ s;refine wpAny_bind (wpAny_field ho hd (x:=.ref l) rfl ?_);show wpAny _ _ (if (Value.ref l==Value.none)=true then _ else _) _ _ s
 rw [if_neg (show ¬((Value.ref l==Value.none)=true) from Bool.false_ne_true)];show wpAny _ _ (field (.ref it) 1 >>= _) _ _ s;refine wpAny_bind (wpAny_field ho hd (x:=.int i 0) rfl ?_);show wpAny _ _ (seqItems? (.ref l) >>= _) _ _ s;refine wpAny_bind (wpAny_seqItems hol hdl ?_);simp only [Int.toNat_natCast,hx];refine wpAny_bind (wpAny_rule (wpAny_bind (wpAny_setField ho hd (by simp) ?_)))
 show wpAny _ _ (newExc (.type "StopIteration") [] >>= _) _ _ _;refine wpAny_bind ?_;simp only [newExc,newTuple];refine wpAny_bind (wpAny_newObj_type ?_ (by size_fits))
 refine wpAny_bind (m:=firstArgMember _ _) (wpAny_of_eq (a:=Value.none) (by first|rfl|(simp only [firstArgMember];rfl)) ?_)
 refine wpAny_newObj_type ?_ (by size_fits)
 simp only [raiseNew];refine wpAny_bind (wpAny_handled ?_)
 first|rw [show A.in1.handled=none from hh]|rw [hh]
 refine wpAny_bind (wpAny_pure (wpAny_throw ?_));exact hE _ _ (((Heap.SameBut.update ..).extBut.push _).push _) ⟨_,Heap.get?_push_size _ rfl,rfl⟩
theorem bG{b:Bool}{it l:Addr}{i:Nat}{items:Array Value}{x:Value}{Q:Value->Shared->Prop}(hit:SrcTn b it l i s.heap)(hl:SrcSq b s.heap l items)(hx:items[i]?=some x)
  (hQ:∀h',SrcTn b it l (i+1) h'->Heap.SameBut it s.heap h'->Q x { s with heap:=h' }):wpAny (model prog w) A (Builtin.SmallTypes.nextOf (.ref it)) Q E s:=by
 cases b with
 |true=>exact wpAny_nextOf_list_item hit hl hx hQ
 |false=>exact fV hit hl hx hQ
theorem bZ{b:Bool}{it l:Addr}{i:Nat}{items:Array Value}{Q:Value->Shared->Prop}(hh:A.handled=none)(hit:SrcTn b it l i s.heap)(hl:SrcSq b s.heap l items)(hx:items[i]?=none)
  (hE:∀h' e,Heap.ExtBut it s.heap h'->(∃o,h'.get? e=some o/\o.cls=.type "StopIteration")->E (.ref e) { s with heap:=h' }):wpAny (model prog w) A (Builtin.SmallTypes.nextOf (.ref it)) Q E s:=by
 cases b with
 |true=>exact wpAny_nextOf_list_end hh hit hl hx hE
 |false=>exact gK hh hit hl hx hE
def aX(b:Bool):String:=if b=true then "list_iterator" else "tuple_iterator"
theorem dg{b:Bool}{l:Addr}{items:Array Value}{Q:Value->Shared->Prop}(hl:SrcSq b s.heap l items)
  (hQ:Q (.ref s.heap.objs.size) { s with heap:=s.heap.push { cls:=.type (aX b),data:=.fields #[.ref l,.int 0 0] } }):wpAny (model prog w) A (pyIter (.ref l)) Q E s:=by
 cases b with
 |true=>exact wpAny_pyIter_list hl hQ
 |false=>exact wpAny_pyIter_tuple hl hQ
theorem lV{b:Bool}{h:Heap}{it l:Addr}(e:h.get? it=some { cls:=.type (aX b),data:=.fields #[.ref l,.int 0 0] }):SrcTn b it l 0 h:=by
 cases b with
 |true=>exact (show h.IsListIter it l 0 from ⟨_,e,rfl,rfl⟩)
 |false=>exact (show h.IsTupleIter it l 0 from ⟨_,e,rfl,rfl⟩)
structure ZApart(z TI TO i1 i2:Addr):Prop where
 TIz:TI≠z
 TOz:TO≠z
 i1z:i1≠z
 i2z:i2≠z
 TITO:TI≠TO
 TIi1:TI≠i1
 TIi2:TI≠i2
 TOi1:TO≠i1
 TOi2:TO≠i2
 i12:i1≠i2
def oW(z TO i1 i2 l:Addr):Prop:=l≠z/\l≠TO/\l≠i1/\l≠i2
theorem tT{b1 b2:Bool}{z TI TO i1 i2 l1 l2:Addr}{k1 k2:Nat}{xs ys:Array Value}{x y a b:Value}{Q:Value->Shared->Prop}(D:ZApart z TI TO i1 i2)(O1:oW z TO i1 i2 l1)(O2:oW z TO i1 i2 l2)
  (hz:IsZip s.heap z TI TO .none) (hTI:IsPair s.heap TI (.ref i1) (.ref i2)) (hTO:IsPair s.heap TO a b)
  (h1:SrcTn b1 i1 l1 k1 s.heap) (h2:SrcTn b2 i2 l2 k2 s.heap) (hl1:SrcSq b1 s.heap l1 xs) (hl2:SrcSq b2 s.heap l2 ys) (hx:xs[k1]?=some x) (hy:ys[k2]?=some y)
  (hQ:∀h',IsZip h' z TI TO (rawInt s.heap.objs.size)->IsPair h' TO x y->SrcTn b1 i1 l1 (k1+1) h'->SrcTn b2 i2 l2 (k2+1) h'->IsPair h' s.heap.objs.size x y->h'.objs.size=s.heap.objs.size+1->
   (∀c o,c≠z->c≠TO->c≠i1->c≠i2->s.heap.get? c=some o->h'.get? c=some o)->Q (.ref s.heap.objs.size) { s with heap:=h' }):
  wpAny (model prog w) A (Builtin.«zip.__next__» ⟨[.ref z],[]⟩) (fun fin s'=>∃v,fin=.done (.ret v)/\Q v s') E s:=by
 show wpAny _ _ (field (.ref z) 2 >>= _) _ _ _;refine wpAny_bind (wpAny_field hz rfl (x:=.bool false) rfl ?_);show wpAny _ _ (field (.ref z) 3 >>= _) _ _ _;refine wpAny_bind (wpAny_field hz rfl (x:=.ref TI) rfl ?_);refine wpAny_bind (wpAny_seqItems hTI rfl ?_);show wpAny _ _ (Builtin.SmallTypes.ownedTupleIsFree (.ref z) >>= _) _ _ _;refine wpAny_bind ?_;unfold Builtin.SmallTypes.ownedTupleIsFree;refine wpAny_bind (wpAny_field hz rfl (x:=.none) rfl (wpAny_pure ?_));simp only [if_true];refine wpAny_bind (wpAny_rule ?_);refine wpAny_bind (wpAny_field hz rfl (x:=.ref TO) rfl ?_);refine wpAny_bind (wpAny_setField_rec hz (by simp) fun h₁ hz₁ hs₁=>?_)
 replace hz₁:IsZip h₁ z TI TO .ellipsis:=hz₁
 refine wpAny_bind ?_;simp only [List.zipIdx_cons,List.zipIdx_nil,List.forIn_cons,List.forIn_nil];refine wpAny_bind (wpAny_bind (wpAny_onRaise ?_));show wpAny _ _ (Builtin.SmallTypes.nextOf (.ref i1) >>= _) _ _ _;refine wpAny_bind (bG (h1.keep fun o e=>hs₁.extBut _ o D.i1z e) (hl1.keep fun o e=>hs₁.extBut _ o O1.1 e) hx fun h₂ h1₂ hs₂=>wpAny_pure ?_);have hTO₂:IsPair h₂ TO a b:=hs₂.extBut _ _ D.TOi1 (hs₁.extBut _ _ D.TOz hTO);refine wpAny_bind (wpAny_seqItems hTO₂ rfl ?_);refine wpAny_bind (wpAny_updateSeq_pair hTO₂ fun h₃ hTO₃ hs₃=>?_)
 replace hTO₃:IsPair h₃ TO x b:=hTO₃
 refine wpAny_bind (wpAny_letGo (wpAny_pure ?_));refine wpAny_bind (wpAny_bind (wpAny_onRaise ?_));show wpAny _ _ (Builtin.SmallTypes.nextOf (.ref i2) >>= _) _ _ _
 refine wpAny_bind (bG (h2.keep fun o e=>hs₃.extBut _ o D.TOi2.symm (hs₂.extBut _ o D.i12.symm (hs₁.extBut _ o D.i2z e)))
  (hl2.keep fun o e=>hs₃.extBut _ o O2.2.1 (hs₂.extBut _ o O2.2.2.1 (hs₁.extBut _ o O2.1 e))) hy fun h₄ h2₄ hs₄=>wpAny_pure ?_)
 have hTO₄:IsPair h₄ TO x b:=hs₄.extBut _ _ D.TOi2 hTO₃;refine wpAny_bind (wpAny_seqItems hTO₄ rfl ?_);refine wpAny_bind (wpAny_updateSeq_pair hTO₄ fun h₅ hTO₅ hs₅=>?_)
 replace hTO₅:IsPair h₅ TO x y:=hTO₅
 refine wpAny_bind (wpAny_letGo (wpAny_pure (wpAny_pure ?_)));refine wpAny_bind (wpAny_seqItems hTO₅ rfl ?_);refine wpAny_bind (wpAny_newTuple ?_);have hsz:h₅.objs.size=s.heap.objs.size:=by rw [hs₅.1,hs₄.1,hs₃.1,hs₂.1,hs₁.1]
 have hz₅:IsZip h₅ z TI TO .ellipsis:=hs₅.extBut _ _ D.TOz.symm (hs₄.extBut _ _ D.i2z.symm (hs₃.extBut _ _ D.TOz.symm (hs₂.extBut _ _ D.i1z.symm hz₁)));have hk₅:∀c o,c≠z->c≠TO->c≠i1->c≠i2->s.heap.get? c=some o->h₅.get? c=some o:=fun c o c1 c2 c3 c4 e=>
  hs₅.extBut _ _ c2 (hs₄.extBut _ _ c4 (hs₃.extBut _ _ c2 (hs₂.extBut _ _ c3 (hs₁.extBut _ _ c1 e))))
 have h1₅:SrcTn b1 i1 l1 (k1+1) h₅:=h1₂.keep fun o e=>hs₅.extBut _ o D.TOi1.symm (hs₄.extBut _ o D.i12 (hs₃.extBut _ o D.TOi1.symm e));have h2₅:SrcTn b2 i2 l2 (k2+1) h₅:=h2₄.keep fun o e=>hs₅.extBut _ o D.TOi2.symm e;have hzlt:z<h₅.objs.size:=Heap.lt_size hz₅;show wpAny _ _ (Builtin.SmallTypes.ownedTupleHandOut (.ref z) (.ref h₅.objs.size) >>= _) _ _ _;refine wpAny_bind ?_;unfold Builtin.SmallTypes.ownedTupleHandOut;have hz₆:IsZip (h₅.push { cls:=.type "tuple",data:=.seq #[x,y] }) z TI TO .ellipsis:=Heap.get?_push_of_some _ hz₅;refine wpAny_bind (wpAny_setField_rec hz₆ (by simp) fun h₇ hz₇ hs₇=>?_)
 replace hz₇:IsZip h₇ z TI TO (rawInt h₅.objs.size):=hz₇
 refine wpAny_setField_rec hz₇ (by simp) fun h₈ hz₈ hs₈=>?_
 replace hz₈:IsZip h₈ z TI TO (rawInt h₅.objs.size):=hz₈
 have up:∀c o,c≠z->h₅.get? c=some o->h₈.get? c=some o:=fun c o c1 e=>hs₈.extBut _ _ c1 (hs₇.extBut _ _ c1 (Heap.get?_push_of_some _ e));have hT₈:IsPair h₈ h₅.objs.size x y:=hs₈.extBut _ _ (Nat.ne_of_gt hzlt) (hs₇.extBut _ _ (Nat.ne_of_gt hzlt) (Heap.get?_push_size _ rfl));have hz8:h₈.objs.size=h₅.objs.size+1:=by rw [hs₈.1,hs₇.1,Heap.size_push]
 rw [hsz] at hz₈ hT₈ hz8;refine wpAny_pure ⟨_,rfl,?_⟩;show Q (.ref h₅.objs.size) _;rw [hsz];exact hQ h₈ hz₈ (up _ _ D.TOz hTO₅) (h1₅.keep fun o e=>up _ o D.i1z e) (h2₅.keep fun o e=>up _ o D.i2z e) hT₈ hz8 fun c o c1 c2 c3 c4 e=>up c o c1 (hk₅ c o c1 c2 c3 c4 e)
theorem yY{b1 b2:Bool}{z TI TO i1 i2 l1 l2:Addr}{k1 k2:Nat}{xs ys:Array Value}{a b:Value}{Q:Fin->Shared->Prop}(hh:A.handled=none)(D:ZApart z TI TO i1 i2)(O1:oW z TO i1 i2 l1)(O2:oW z TO i1 i2 l2)
  (hz:IsZip s.heap z TI TO .none) (hTI:IsPair s.heap TI (.ref i1) (.ref i2)) (hTO:IsPair s.heap TO a b)
  (h1:SrcTn b1 i1 l1 k1 s.heap) (h2:SrcTn b2 i2 l2 k2 s.heap) (hl1:SrcSq b1 s.heap l1 xs) (hl2:SrcSq b2 s.heap l2 ys) (hend:xs[k1]?=none\/ys[k2]?=none)
  (hE:∀h' e,(∀c o,c≠z->c≠TO->c≠i1->c≠i2->s.heap.get? c=some o->h'.get? c=some o)->(∃o,h'.get? e=some o/\o.cls=.type "StopIteration")->E (.ref e) { s with heap:=h' }):
  wpAny (model prog w) A (Builtin.«zip.__next__» ⟨[.ref z],[]⟩) Q E s:=by
 show wpAny _ _ (field (.ref z) 2 >>= _) _ _ _;refine wpAny_bind (wpAny_field hz rfl (x:=.bool false) rfl ?_);show wpAny _ _ (field (.ref z) 3 >>= _) _ _ _;refine wpAny_bind (wpAny_field hz rfl (x:=.ref TI) rfl ?_);refine wpAny_bind (wpAny_seqItems hTI rfl ?_);show wpAny _ _ (Builtin.SmallTypes.ownedTupleIsFree (.ref z) >>= _) _ _ _;refine wpAny_bind ?_;unfold Builtin.SmallTypes.ownedTupleIsFree;refine wpAny_bind (wpAny_field hz rfl (x:=.none) rfl (wpAny_pure ?_));simp only [if_true];refine wpAny_bind (wpAny_rule ?_);refine wpAny_bind (wpAny_field hz rfl (x:=.ref TO) rfl ?_);refine wpAny_bind (wpAny_setField_rec hz (by simp) fun h₁ hz₁ hs₁=>?_)
 replace hz₁:IsZip h₁ z TI TO .ellipsis:=hz₁
 refine wpAny_bind ?_;simp only [List.zipIdx_cons,List.zipIdx_nil,List.forIn_cons,List.forIn_nil];refine wpAny_bind (wpAny_bind (wpAny_onRaise ?_));show wpAny _ _ (Builtin.SmallTypes.nextOf (.ref i1) >>= _) _ _ _;cases hx:xs[k1]? with
 |none=>
  refine wpAny_bind (bZ hh (h1.keep fun o e=>hs₁.extBut _ o D.i1z e) (hl1.keep fun o e=>hs₁.extBut _ o O1.1 e) hx fun h₂ e hs₂ he=>?_);obtain ⟨oe,hoe,hce⟩:=he;have hz₂:IsZip h₂ z TI TO .ellipsis:=hs₂ _ _ D.i1z.symm hz₁;have hez:e≠z:=fun x=>by subst x;rw [hz₂] at hoe;cases hoe;simp at hce
  refine wpAny_setField_rec hz₂ (by simp) fun h₃ _ hs₃=>hE h₃ e (fun c o c1 _ c3 _ x=>hs₃.extBut _ _ c1 (hs₂ _ _ c3 (hs₁.extBut _ _ c1 x))) ⟨oe,hs₃.extBut _ _ hez hoe,hce⟩
 |some x=>
  have hy:ys[k2]?=none:=by rcases hend with h|h;rw [hx] at h;cases h;exact h
  refine wpAny_bind (bG (h1.keep fun o e=>hs₁.extBut _ o D.i1z e) (hl1.keep fun o e=>hs₁.extBut _ o O1.1 e) hx fun h₂ h1₂ hs₂=>wpAny_pure ?_);have hTO₂:IsPair h₂ TO a b:=hs₂.extBut _ _ D.TOi1 (hs₁.extBut _ _ D.TOz hTO);refine wpAny_bind (wpAny_seqItems hTO₂ rfl ?_);refine wpAny_bind (wpAny_updateSeq_pair hTO₂ fun h₃ hTO₃ hs₃=>?_);refine wpAny_bind (wpAny_letGo (wpAny_pure ?_));refine wpAny_bind (wpAny_bind (wpAny_onRaise ?_));show wpAny _ _ (Builtin.SmallTypes.nextOf (.ref i2) >>= _) _ _ _
  refine wpAny_bind (bZ hh (h2.keep fun o e=>hs₃.extBut _ o D.TOi2.symm (hs₂.extBut _ o D.i12.symm (hs₁.extBut _ o D.i2z e)))
   (hl2.keep fun o e=>hs₃.extBut _ o O2.2.1 (hs₂.extBut _ o O2.2.2.1 (hs₁.extBut _ o O2.1 e))) hy fun h₄ e hs₄ he=>?_)
  obtain ⟨oe,hoe,hce⟩:=he;have hz₄:IsZip h₄ z TI TO .ellipsis:=hs₄ _ _ D.i2z.symm (hs₃.extBut _ _ D.TOz.symm (hs₂.extBut _ _ D.i1z.symm hz₁));have hez:e≠z:=fun x=>by subst x;rw [hz₄] at hoe;cases hoe;simp at hce
  refine wpAny_setField_rec hz₄ (by simp) fun h₅ _ hs₅=>hE h₅ e (fun c o c1 c2 c3 c4 x=>hs₅.extBut _ _ c1 (hs₄ _ _ c4 (hs₃.extBut _ _ c2 (hs₂.extBut _ _ c3 (hs₁.extBut _ _ c1 x))))) ⟨oe,hs₅.extBut _ _ hez hoe,hce⟩
theorem et{b1 b2:Bool}{z TI TO i1 i2 l1 l2:Addr}{k1 k2:Nat}{xs ys:Array Value}{x y a b:Value}{Q:Option Value->Shared->Prop}(D:ZApart z TI TO i1 i2)(O1:oW z TO i1 i2 l1)(O2:oW z TO i1 i2 l2)
  (hz:IsZip s.heap z TI TO .none) (hTI:IsPair s.heap TI (.ref i1) (.ref i2)) (hTO:IsPair s.heap TO a b)
  (h1:SrcTn b1 i1 l1 k1 s.heap) (h2:SrcTn b2 i2 l2 k2 s.heap) (hl1:SrcSq b1 s.heap l1 xs) (hl2:SrcSq b2 s.heap l2 ys) (hx:xs[k1]?=some x) (hy:ys[k2]?=some y)
  (hQ:∀h',IsZip h' z TI TO (rawInt s.heap.objs.size)->IsPair h' TO x y->SrcTn b1 i1 l1 (k1+1) h'->SrcTn b2 i2 l2 (k2+1) h'->IsPair h' s.heap.objs.size x y->h'.objs.size=s.heap.objs.size+1->
   (∀c o,c≠z->c≠TO->c≠i1->c≠i2->s.heap.get? c=some o->h'.get? c=some o)->Q (some (.ref s.heap.objs.size)) { s with heap:=h' }):
  wpAny (model prog w) A (pyNext (.ref z)) Q E s:=by
 have hT:s.TypeIs (.ref z) "zip":=⟨_,hz,rfl⟩;unfold pyNext
 exact wpAny_bind (wpAny_attempt (wpAny_callSpecial?_slot (name:=Str.ofString "__next__") hT F.slot_zip_next
  (wpAny_call_entry F.slot_zip_next hT F.entry_zip_next (tT D O1 O2 hz hTI hTO h1 h2 hl1 hl2 hx hy fun h' a1 a2 a3 a4 a5 a6 a7=>wpAny_pure (hQ h' a1 a2 a3 a4 a5 a6 a7)) (F.args_zip_next_1 _))))
theorem jt{b1 b2:Bool}{z TI TO i1 i2 l1 l2:Addr}{k1 k2:Nat}{xs ys:Array Value}{a b:Value}{Q:Option Value->Shared->Prop}(hh:A.handled=none)(D:ZApart z TI TO i1 i2)(O1:oW z TO i1 i2 l1)(O2:oW z TO i1 i2 l2)
  (hz:IsZip s.heap z TI TO .none) (hTI:IsPair s.heap TI (.ref i1) (.ref i2)) (hTO:IsPair s.heap TO a b)
  (h1:SrcTn b1 i1 l1 k1 s.heap) (h2:SrcTn b2 i2 l2 k2 s.heap) (hl1:SrcSq b1 s.heap l1 xs) (hl2:SrcSq b2 s.heap l2 ys) (hend:xs[k1]?=none\/ys[k2]?=none)
  (hQ:∀h',(∀c o,c≠z->c≠TO->c≠i1->c≠i2->s.heap.get? c=some o->h'.get? c=some o)->Q none { s with heap:=h' }):wpAny (model prog w) A (pyNext (.ref z)) Q E s:=by
 have hT:s.TypeIs (.ref z) "zip":=⟨_,hz,rfl⟩;unfold pyNext
 refine wpAny_bind (wpAny_attempt (wpAny_callSpecial?_slot (name:=Str.ofString "__next__") hT F.slot_zip_next
  (wpAny_call_entry F.slot_zip_next hT F.entry_zip_next (yY hh D O1 O2 hz hTI hTO h1 h2 hl1 hl2 hend fun h' e hk he=>?_) (F.args_zip_next_1 _))))
 obtain ⟨o,ho,hc⟩:=he;refine wpAny_bind (wpAny_isInstance (T:="StopIteration") (b:=true) ⟨o,ho,hc⟩ isSubtype_stop ?_);exact wpAny_pure (hQ _ hk)
end
abbrev zH1(c1:String)(h:Heap)(l1:Addr):Heap:=h.push { cls:=.type c1,data:=.fields #[.ref l1,.int 0 0] }
abbrev zH2(c1 c2:String)(h:Heap)(l1 l2:Addr):Heap:=(zH1 c1 h l1).push { cls:=.type c2,data:=.fields #[.ref l2,.int 0 0] }
abbrev zH3(c1 c2:String)(h:Heap)(l1 l2:Addr):Heap:=(zH2 c1 c2 h l1 l2).push { cls:=.type "tuple",data:=.seq #[.ref h.objs.size,.ref (zH1 c1 h l1).objs.size] }
abbrev zH4(c1 c2:String)(h:Heap)(l1 l2:Addr):Heap:=(zH3 c1 c2 h l1 l2).push { cls:=.type "tuple",data:=.seq #[.none,.none] }
abbrev CC(c1 c2:String)(h:Heap)(l1 l2:Addr):Heap:=(zH4 c1 c2 h l1 l2).push { cls:=.type "zip",data:=.fields #[.none,.bool false,.bool false,.ref (zH2 c1 c2 h l1 l2).objs.size,.ref (zH3 c1 c2 h l1 l2).objs.size] }
theorem sV(b1 b2:Bool)(l1 l2:Addr)(xs ys:Array Value):
  Meets (Builtin.«zip.__new__» ⟨[.type "zip",.ref l1,.ref l2],[]⟩) (fun _ R s=>SrcSq b1 s.heap l1 xs/\SrcSq b2 s.heap l2 ys/\
   R (.ok (.ret (.ref (zH4 (aX b1) (aX b2) s.heap l1 l2).objs.size))) { s with heap:=CC (aX b1) (aX b2) s.heap l1 l2 }):=
 .of_wp fun prog w A R s h=>by
  obtain ⟨hp,g,d,tk,os⟩:=s;obtain ⟨hl1,hl2,h⟩:=h;have hsub:=sub_zip;have hL1:SrcSq b1 (Shared.heap ⟨hp,g,d,tk,os⟩) l1 xs:=hl1;have hL2:SrcSq b2 (Shared.heap ⟨hp.push { cls:=.type (aX b1),data:=.fields #[.ref l1,.int 0 0] },g,d,tk,os⟩) l2 ys:=SrcSq.keep hl2 fun o e=>Heap.get?_push_of_some _ e
  wp_walk using dg hL1,dg hL2
  exact ⟨_,rfl,h⟩
section
variable {prog:Program}{w:World}{A:Around}{E:Value->Shared->Prop}{s:Shared}
theorem oG{b1 b2:Bool}{l1 l2:Addr}{xs ys:Array Value}{Q:Value->Shared->Prop}(hl1:SrcSq b1 s.heap l1 xs)(hl2:SrcSq b2 s.heap l2 ys)
  (h:∀h',IsZip h' (s.heap.objs.size+4) (s.heap.objs.size+2) (s.heap.objs.size+3) .none->IsPair h' (s.heap.objs.size+2) (.ref s.heap.objs.size) (.ref (s.heap.objs.size+1))->
   IsPair h' (s.heap.objs.size+3) .none .none->SrcTn b1 s.heap.objs.size l1 0 h'->SrcTn b2 (s.heap.objs.size+1) l2 0 h'->h'.objs.size=s.heap.objs.size+5->
   (∀c o,s.heap.get? c=some o->h'.get? c=some o)->Q (.ref (s.heap.objs.size+4)) { s with heap:=h' }):
  wpAny (model prog w) A (call (.type "zip") [.ref l1,.ref l2]) Q E s:=by
 refine callType_new F.called_zip (by decide) (F.typeCall_zip_2 _ _) (F.newCall_zip_2 _ _) (fun obj=>F.args_object_init_3 obj _ _) F.entry_zip_new (sV b1 b2 l1 l2 xs ys) ⟨hl1,hl2,?_⟩
 have z1:(zH1 (aX b1) s.heap l1).objs.size=s.heap.objs.size+1:=Heap.size_push ..;have z2:(zH2 (aX b1) (aX b2) s.heap l1 l2).objs.size=s.heap.objs.size+2:=by rw [Heap.size_push,z1]
 have z3:(zH3 (aX b1) (aX b2) s.heap l1 l2).objs.size=s.heap.objs.size+3:=by rw [Heap.size_push,z2]
 have z4:(zH4 (aX b1) (aX b2) s.heap l1 l2).objs.size=s.heap.objs.size+4:=by rw [Heap.size_push,z3]
 have z5:(CC (aX b1) (aX b2) s.heap l1 l2).objs.size=s.heap.objs.size+5:=by rw [Heap.size_push,z4]
 have g5:(CC (aX b1) (aX b2) s.heap l1 l2).get? (zH4 (aX b1) (aX b2) s.heap l1 l2).objs.size=some _:=Heap.get?_push_size _ rfl;have g4:(CC (aX b1) (aX b2) s.heap l1 l2).get? (zH3 (aX b1) (aX b2) s.heap l1 l2).objs.size=some _:=Heap.get?_push_of_some _ (Heap.get?_push_size _ rfl);have g3:(CC (aX b1) (aX b2) s.heap l1 l2).get? (zH2 (aX b1) (aX b2) s.heap l1 l2).objs.size=some _:=Heap.get?_push_of_some _ (Heap.get?_push_of_some _ (Heap.get?_push_size _ rfl));have g2:(CC (aX b1) (aX b2) s.heap l1 l2).get? (zH1 (aX b1) s.heap l1).objs.size=some _:=Heap.get?_push_of_some _ (Heap.get?_push_of_some _ (Heap.get?_push_of_some _ (Heap.get?_push_size _ rfl)));have g1:(CC (aX b1) (aX b2) s.heap l1 l2).get? s.heap.objs.size=some _:=Heap.get?_push_of_some _ (Heap.get?_push_of_some _ (Heap.get?_push_of_some _ (Heap.get?_push_of_some _ (Heap.get?_push_size _ rfl))));show _/\_;rw [z2,z3,z4] at g5;rw [z1,z2] at g3;rw [z3] at g4;rw [z1] at g2;rw [z4];exact ⟨⟨_,g5,rfl⟩,h _ g5 g3 g4 (lV g1) (lV g2) z5 fun c o x=>
  Heap.get?_push_of_some _ (Heap.get?_push_of_some _ (Heap.get?_push_of_some _ (Heap.get?_push_of_some _ (Heap.get?_push_of_some _ x))))⟩
end
end L2
namespace L2
open PySem PySem.Spec PyProof.Rows
def kZ(K:W.Frag)(b:Bool)(H:Hp)(a:Addr)(xs:List V):Prop:=if b=true then SqL K H a xs else gG K H a xs
section
variable {X:Cx}{pins:List (Addr×Obj)}{σ:St}{H:Hp}{s:Shared}{a:Addr}{xs ys:List V}{b:Bool}
theorem Inv.src(I:Inv X pins σ H s)(h:kZ X.K b H a xs):∃its:List Value,Vals xs its/\SrcSq b s.heap a its.toArray/\xs.length<=sizeLine:=by
 cases b with
 |true=>obtain ⟨its,r,p,z⟩:=I.list (show SqL X.K H a xs from h);exact ⟨its,r,p.isList,z⟩
 |false=>obtain ⟨its,r,p,z⟩:=I.tuple (show gG X.K H a xs from h);exact ⟨its,r,p,z⟩
theorem Inv.src_inj(I:Inv X pins σ H s)(h:kZ X.K b H a xs)(h':kZ X.K b H a ys):xs=ys:=by
 cases b with
 |true=>exact I.list_inj (show SqL X.K H a xs from h) h'
 |false=>exact I.tuple_inj (show gG X.K H a xs from h) h'
theorem Inv.src_ne(I:Inv X pins σ H s)(h:kZ X.K b H a xs){it:Addr}(f:gO X pins H it):a≠it:=by
 obtain ⟨f0,f1,f2,f3,f4,f5⟩:=f;intro e;subst e;have kne:∀o,X.K.lookup a=some o->False:=fun o hk=>by
  have hb:=I.ok.mod.kin a o hk;rcases f3 with z|z
  ·exact I.ok.noex a o hb z
  ·exact absurd (Nat.lt_of_lt_of_le (Heap.lt_size (I.ok.bs a o hb).1) z) (Nat.lt_irrefl _)
 cases b with
 |true=>
  rcases (show SqL X.K H a xs from h) with (z|⟨o,z⟩)|⟨o,_,_,hk,_⟩
  ·rw [f0] at z;cases z
  ·rw [f0] at z;cases z
  ·exact kne o hk
 |false=>
  rcases (show gG X.K H a xs from h) with (z|⟨o,z⟩)|⟨o,_,_,hk,_⟩
  ·rw [f0] at z;cases z
  ·rw [f0] at z;cases z
  ·exact kne o hk
end
def Itz(K:W.Frag)(b1 b2:Bool)(l1 l2:Addr):It:=
 ⟨fun i H=>∃xs ys x y,kZ K b1 H l1 xs/\kZ K b2 H l2 ys/\xs[i]?=some x/\ys[i]?=some y,
  fun i H v H'=>∃T x y,H T=none/\v=.ref T/\H'=upd H T (.tup [x,y])/\(∀xs,kZ K b1 H l1 xs->xs[i]?=some x)/\(∀ys,kZ K b2 H l2 ys->ys[i]?=some y),
  fun i H=>∃xs ys,kZ K b1 H l1 xs/\kZ K b2 H l2 ys/\(xs.length<=i\/ys.length<=i)⟩
theorem Inv.turned4{X:Cx}{pins:List (Addr×Obj)}{σ:St}{H:Hp}{s:Shared}{h':Heap}{t':Nat}{fp:List Addr}(I:Inv X pins σ H s)(hf:∀b∈fp,gO X pins H b)
  (k:∀b o,b∉fp->s.heap.get? b=some o->h'.get? b=some o):Inv X pins σ H { s with heap:=h',toks:=t' }:=by
 have nfp:∀b u,H b=some u->b∉fp:=fun b u e z=>by have:=(hf b z).1;rw [e] at this;cases this
 refine I.step (g':=s.gens) (d':=s.drawn) (ch:=fp) (fun b hb=>?_) (fun b o _ _ hc e _=>k b o hc e) (fun b o _ _ hc e _=>⟨o.slots,k b o hc e⟩) (fun _ _ _ _ n=>n)
  (fun b o hc e=>⟨o,k b o hc e⟩) (fun _ _ e=>e) (fun _ _ _ e=>e) (fun b ps e=>⟨#[],by rw [e];simp⟩) (fun m hm=>?_) (fun b u e=>?_) I.bare
 ·obtain ⟨f0,f1,f2,f3,f4,f5⟩:=hf b hb
  exact ⟨f3,f1,f4,f5⟩
 ·obtain ⟨o,es,ep,ho,r⟩:=hm
  exact ⟨o,es,ep,k _ o (fun z=>(hf _ z).2.1 rfl) ho,r⟩
 ·refine (I.hok b u e).stay (fun c v hc q=>k c v ?_ q) (fun _ q=>q) fun _ _ q=>q
  rcases hc with z|z
  ·rw [z];exact nfp b u e
  ·exact nfp c _ z
theorem Inv.turnedNew{X:Cx}{pins:List (Addr×Obj)}{σ:St}{H:Hp}{s:Shared}{h':Heap}{t':Nat}{fp:List Addr}{zs:List V}{us:List Value}{o':Obj}(I:Inv X pins σ H s)(hf:∀b∈fp,gO X pins H b)
  (k:∀b o,b∉fp->s.heap.get? b=some o->h'.get? b=some o) (hlt:∀b∈fp,∃o,s.heap.get? b=some o) (hlv:∀b∈fp,∃o,h'.get? b=some o) (hT:h'.get? s.heap.objs.size=some o') (hoc:o'.cls=.type "tuple") (hod:∃n,o'.data=.seq us.toArray n)
  (r:Vals zs us) (hdn:o'.dict=none) (hz:zs.length<=sizeLine):Inv X pins σ (upd H s.heap.objs.size (.tup zs)) { s with heap:=h',toks:=t' }:=by
 have hTn:H s.heap.objs.size=none:=I.hok.fresh (Nat.le_refl _);have nfp:∀b u,H b=some u->b∉fp:=fun b u e z=>by have:=(hf b z).1;rw [e] at this;cases this
 refine I.step (g':=s.gens) (d':=s.drawn) (ch:=fp) (fun b hb=>?_) (fun b o _ _ hc e _=>k b o hc e) (fun b o _ _ hc e _=>⟨o.slots,k b o hc e⟩) (fun b o _ e n=>by rw [upd_ne (Nat.ne_of_lt (Heap.lt_size e))];exact n)
  (fun b o hc e=>⟨o,k b o hc e⟩) (fun b zs' e=>by rw [upd_ne (br e hTn)];exact e) (fun b o u e=>by rw [upd_ne (br e hTn)];exact e) (fun b ps e=>⟨#[],by rw [upd_ne (br e hTn),e];simp⟩) (fun m hm=>?_) (fun b u e=>?_) I.bare
 ·obtain ⟨f0,f1,f2,f3,f4,f5⟩:=hf b hb
  exact ⟨f3,f1,f4,f5⟩
 ·obtain ⟨o,es,ep,ho,r⟩:=hm
  exact ⟨o,es,ep,k _ o (fun z=>(hf _ z).2.1 rfl) ho,r⟩
 ·by_cases hb:b=s.heap.objs.size
  ·subst hb
   rw [upd_same] at e;cases e;obtain ⟨n,hd⟩:=hod;exact ⟨hz,us,r,⟨o',hT,⟨hoc,n,hd⟩,hdn⟩⟩
  ·rw [upd_ne hb] at e
   refine (I.hok b u e).stay (fun c v hc q=>k c v ?_ q) (fun c q=>by rw [upd_ne (br q hTn)];exact q) fun c zs' q=>by rw [upd_ne (br q hTn)];exact q
   rcases hc with z|z
   ·rw [z];exact nfp b u e
   ·exact nfp c _ z
theorem vd{P:Program}{w:World}{K:W.Frag}{elts:List Expr}{x1:Nat}{tp:Pos}(b1 b2:Bool)(l1 l2 z TI TO i1 i2:Addr)(D:ZApart z TI TO i1 i2):
  Turn P w K (.Tuple elts x1 tp) (Itz K b1 b2 l1 l2) [z,TI,TO,i1,i2] z (fun i h=>IsZip h z TI TO .none/\IsPair h TI (.ref i1) (.ref i2)/\(∃a b,IsPair h TO a b)/\SrcTn b1 i1 l1 i h/\SrcTn b2 i2 l2 i h) where
 mem:=by simp
 obj:=fun i h st b hb=>by
  obtain ⟨hz,hTI,⟨a,c,hTO⟩,h1,h2⟩:=st;have hb':b=z\/b=TI\/b=TO\/b=i1\/b=i2:=by simpa using hb
  rcases hb' with e|e|e|e|e<;>subst e
  ·exact ⟨_,hz,fun v q=>nomatch q⟩
  ·exact ⟨_,hTI,fun v q=>nomatch q⟩
  ·exact ⟨_,hTO,fun v q=>nomatch q⟩
  ·exact h1.lt
  ·exact h2.lt
 keep:=fun i h h' st k=>by
  obtain ⟨hz,hTI,⟨a,c,hTO⟩,h1,h2⟩:=st;exact ⟨k z (by simp) _ hz,k TI (by simp) _ hTI,⟨a,c,k TO (by simp) _ hTO⟩,h1.keep fun o e=>k i1 (by simp) o e,h2.keep fun o e=>k i2 (by simp) o e⟩
 item:=by
  intro X hP hw hK hc i pins s σ H E I hf st hg;subst hP hw hK;obtain ⟨xs,ys,x,y,q1,q2,hx,hy⟩:=hg;obtain ⟨hz,hTI,⟨a,c,hTO⟩,h1,h2⟩:=st;obtain ⟨its1,r1,s1,z1⟩:=I.src q1;obtain ⟨its2,r2,s2,z2⟩:=I.src q2;obtain ⟨u,hu,ru⟩:=r1.get hx;obtain ⟨v,hv,rv⟩:=r2.get hy;have O1:oW z TO i1 i2 l1:=⟨I.src_ne q1 (hf z (by simp)),I.src_ne q1 (hf TO (by simp)),I.src_ne q1 (hf i1 (by simp)),I.src_ne q1 (hf i2 (by simp))⟩
  have O2:oW z TO i1 i2 l2:=⟨I.src_ne q2 (hf z (by simp)),I.src_ne q2 (hf TO (by simp)),I.src_ne q2 (hf i1 (by simp)),I.src_ne q2 (hf i2 (by simp))⟩
  refine et D O1 O2 hz hTI hTO h1 h2 s1 s2 (x:=u) (y:=v) (by simpa using hu) (by simpa using hv) fun h' a1 a2 a3 a4 a5 a6 hk=>?_
  refine ⟨_,rfl,wpAny_letOwnedTupleGo_zip a1 fun h'' hz'' hs''=>?_⟩;have hzs:z≠s.heap.objs.size:=Nat.ne_of_lt (Heap.lt_size hz);have kk:∀b o,b∉[z,TI,TO,i1,i2]->s.heap.get? b=some o->h''.get? b=some o:=fun b o hb e=>
   hs''.extBut b o (fun q=>hb (by simp [q])) (hk b o (fun q=>hb (by simp [q])) (fun q=>hb (by simp [q])) (fun q=>hb (by simp [q])) (fun q=>hb (by simp [q])) e)
  have hT:h''.get? s.heap.objs.size=some { cls:=.type "tuple",data:=.seq #[u,v] }:=hs''.extBut _ _ hzs.symm a5;have lv:∀b∈[z,TI,TO,i1,i2],∃o,s.heap.get? b=some o:=fun b hb=>by
   have hb':b=z\/b=TI\/b=TO\/b=i1\/b=i2:=by simpa using hb
   rcases hb' with e|e|e|e|e<;>subst e
   ·exact ⟨_,hz⟩
   ·exact ⟨_,hTI⟩
   ·exact ⟨_,hTO⟩
   ·obtain ⟨o,e,_⟩:=h1.lt;exact ⟨o,e⟩
   ·obtain ⟨o,e,_⟩:=h2.lt;exact ⟨o,e⟩
  have n1:SrcTn b1 i1 l1 (i+1) h'':=a3.keep fun o e=>hs''.extBut _ o D.i1z e;have n2:SrcTn b2 i2 l2 (i+1) h'':=a4.keep fun o e=>hs''.extBut _ o D.i2z e;have nTI:IsPair h'' TI (.ref i1) (.ref i2):=hs''.extBut _ _ D.TIz (hk _ _ D.TIz D.TITO D.TIi1 D.TIi2 hTI);have nTO:IsPair h'' TO u v:=hs''.extBut _ _ D.TOz a2;have lv':∀b∈[z,TI,TO,i1,i2],∃o,h''.get? b=some o:=fun b hb=>by
   have hb':b=z\/b=TI\/b=TO\/b=i1\/b=i2:=by simpa using hb
   rcases hb' with e|e|e|e|e<;>subst e
   ·exact ⟨_,hz''⟩
   ·exact ⟨_,nTI⟩
   ·exact ⟨_,nTO⟩
   ·obtain ⟨o,e,_⟩:=n1.lt;exact ⟨o,e⟩
   ·obtain ⟨o,e,_⟩:=n2.lt;exact ⟨o,e⟩
  have hTn:H s.heap.objs.size=none:=I.hok.fresh (Nat.le_refl _);refine ⟨.ref s.heap.objs.size,_,I.turnedNew (s:=s) (h':=h'') (t':=s.toks) (zs:=[x,y]) (us:=[u,v]) hf kk lv lv' hT rfl ⟨_,rfl⟩ (.cons ru (.cons rv .nil)) rfl (by show 2<=sizeLine;decide),rfl,⟨_,x,y,hTn,rfl,rfl,fun zs hzs'=>?_,fun zs hzs'=>?_⟩,⟨hz'',nTI,⟨_,_,nTO⟩,n1,n2⟩,fun b hb=>?_⟩
  ·rw [I.src_inj hzs' q1];exact hx
  ·rw [I.src_inj hzs' q2];exact hy
  ·obtain ⟨o,e⟩:=lv b hb
   rw [upd_ne (Nat.ne_of_lt (Heap.lt_size e))];exact (hf b hb).1
 done:=by
  intro X hP hw hK hc i pins s σ H E I hf st hg;subst hP hw hK;obtain ⟨xs,ys,q1,q2,hx⟩:=hg;obtain ⟨hz,hTI,⟨a,c,hTO⟩,h1,h2⟩:=st;obtain ⟨its1,r1,s1,z1⟩:=I.src q1;obtain ⟨its2,r2,s2,z2⟩:=I.src q2;have l1':=r1.length;have l2':=r2.length;have O1:oW z TO i1 i2 l1:=⟨I.src_ne q1 (hf z (by simp)),I.src_ne q1 (hf TO (by simp)),I.src_ne q1 (hf i1 (by simp)),I.src_ne q1 (hf i2 (by simp))⟩
  have O2:oW z TO i1 i2 l2:=⟨I.src_ne q2 (hf z (by simp)),I.src_ne q2 (hf TO (by simp)),I.src_ne q2 (hf i1 (by simp)),I.src_ne q2 (hf i2 (by simp))⟩
  refine jt (I.ok.hd hc) D O1 O2 hz hTI hTO h1 h2 s1 s2 ?_ fun h' hk=>⟨rfl,I.turned4 (t':=s.toks) hf fun b o hb e=>hk b o (fun q=>hb (by simp [q])) (fun q=>hb (by simp [q])) (fun q=>hb (by simp [q])) (fun q=>hb (by simp [q])) e⟩
  rcases hx with hx|hx
  ·exact .inl (by simp;lia)
  ·exact .inr (by simp;lia)
 self:=fun _ _ _ _ _ st h=>wpAny_pyIter_zip st.1 h
section
variable {X:Cx}
def Ite(K:W.Frag)(b:Bool)(l:Addr):It:=
 ⟨fun i H=>∃xs x,kZ K b H l xs/\xs[i]?=some x,
  fun i H v H'=>∃T x,H T=none/\v=.ref T/\H'=upd H T (.tup [.int i,x])/\(∀xs,kZ K b H l xs->xs[i]?=some x),
  fun i H=>∃xs,kZ K b H l xs/\xs.length<=i⟩
end
section
variable {prog:Program}{w:World}{A:Around}{E:Value->Shared->Prop}{s:Shared}
theorem Draws.src(hh:A.handled=none)(b:Bool)(it l:Addr)(hne:l≠it)(items:Array Value):
  Draws prog w A it [it,l] items.size (fun i v=>items[i]?=some v) (fun i h=>SrcTn b it l i h/\SrcSq b h l items) where
 live:=fun _ _ st=>let ⟨o,ho,_⟩:=st.1.lt;⟨o,ho⟩
 frame:=fun _ _ _ st hk=>⟨st.1.keep fun o e=>hk it (by simp) o e,st.2.keep fun o e=>hk l (by simp) o e⟩
 item:=fun i s Q E hi st hQ=>by
  refine bG st.1 st.2 (x:=items[i]) (by simp [hi]) fun h' hit' hs'=>?_
  exact hQ _ h' s.toks (by simp [hi]) ⟨hit',st.2.keep fun o e=>hs'.extBut _ o hne e⟩ hs'
 done:=fun s Q E st hE=>bZ hh st.1 st.2 (by simp) hE
theorem p6(b:Bool)(l:Addr)(items:Array Value):
  Meets (Builtin.«enumerate.__new__» ⟨[.type "enumerate",.ref l],[]⟩) (fun _ R s=>SrcSq b s.heap l items/\
   R (.ok (.ret (.ref (s.heap.push { cls:=.type (aX b),data:=.fields #[.ref l,.int 0 0] }).objs.size)))
    { s with heap:=(s.heap.push { cls:=.type (aX b),data:=.fields #[.ref l,.int 0 0] }).push { cls:=.type "enumerate",data:=.fields #[.none,.bool false,.ref s.heap.objs.size,rawInt 0,.none,.none] } }):=
 .of_wp fun prog w A R s h=>by
  obtain ⟨hp,g,d,tk,os⟩:=s;obtain ⟨hl,h⟩:=h;have hsub:=sub_enumerate;have hL:SrcSq b (Shared.heap ⟨hp,g,d,tk,os⟩) l items:=hl
  wp_walk
  refine wpAny_stack_any fun st=>wpAny_pure ?_
  split
  ·rename_i c _ _ _ _ _
   cases (c==Value.type "enumerate")
   ·wp_walk using dg hL
    exact ⟨_,rfl,h⟩
   ·wp_walk using dg hL
    exact ⟨_,rfl,h⟩
  ·wp_walk using dg hL
   exact ⟨_,rfl,h⟩
theorem sM{b:Bool}{l:Addr}{items:Array Value}{Q:Value->Shared->Prop}(hL:SrcSq b s.heap l items)
  (h:∀h',IsEnum h' (s.heap.objs.size+1) s.heap.objs.size 0 .none->SrcTn b s.heap.objs.size l 0 h'->h'.objs.size=s.heap.objs.size+2->
   (∀b o,s.heap.get? b=some o->h'.get? b=some o)->Q (.ref (s.heap.objs.size+1)) { s with heap:=h' }):
  wpAny (model prog w) A (call (.type "enumerate") [.ref l]) Q E s:=by
 refine callType_new F.called_enumerate (by decide) (F.typeCall_enumerate_1 _) (F.newCall_enumerate_1 _) (fun obj=>F.args_object_init_2 obj _) F.entry_enumerate_new (p6 b l items) ⟨hL,?_⟩
 have hz:(s.heap.push { cls:=.type (aX b),data:=.fields #[.ref l,.int 0 0] }).objs.size=s.heap.objs.size+1:=Heap.size_push ..;show _/\_;rw [hz]
 have he:IsEnum ((s.heap.push { cls:=.type (aX b),data:=.fields #[.ref l,.int 0 0] }).push
   { cls:=.type "enumerate",data:=.fields #[.none,.bool false,.ref s.heap.objs.size,rawInt 0,.none,.none] }) (s.heap.objs.size+1) s.heap.objs.size 0 .none:=by
  have:=Heap.get?_push_size (s.heap.push { cls:=.type (aX b),data:=.fields #[.ref l,.int 0 0] })
   (o:={ cls:=.type "enumerate",data:=.fields #[.none,.bool false,.ref s.heap.objs.size,rawInt 0,.none,.none] }) rfl
  rw [hz] at this;exact this
 refine ⟨⟨_,he,rfl⟩,h _ he (lV (Heap.get?_push_of_some _ (Heap.get?_push_size _ rfl))) (by rw [Heap.size_push,hz]) fun b o x=>Heap.get?_push_of_some _ (Heap.get?_push_of_some _ x)⟩
end
theorem sf{P:Program}{w:World}{K:W.Frag}{elts:List Expr}{x1:Nat}{tp:Pos}(b:Bool)(l e it:Addr)(hei:e≠it):
  Turn P w K (.Tuple elts x1 tp) (Ite K b l) [e,it] e (fun i h=>(∃old,IsEnum h e it i old)/\SrcTn b it l i h) where
 mem:=by simp
 obj:=fun i h st c hc=>by
  obtain ⟨⟨old,he⟩,h1⟩:=st;have hc':c=e\/c=it:=by simpa using hc
  rcases hc' with q|q<;>subst q
  ·exact ⟨_,he,fun v z=>nomatch z⟩
  ·exact h1.lt
 keep:=fun i h h' st k=>by
  obtain ⟨⟨old,he⟩,h1⟩:=st;exact ⟨⟨old,k e (by simp) _ he⟩,h1.keep fun o q=>k it (by simp) o q⟩
 item:=by
  intro X hP hw hK hc i pins s σ H E I hf st hg;subst hP hw hK;obtain ⟨xs,x,q1,hx⟩:=hg;obtain ⟨⟨old,he⟩,h1⟩:=st;obtain ⟨its,r,sq,z1⟩:=I.src q1;obtain ⟨u,hu,ru⟩:=r.get hx;have hle:l≠e:=I.src_ne q1 (hf e (by simp))
  have hli:l≠it:=I.src_ne q1 (hf it (by simp))
  have hil:i<its.toArray.size:=by
   rw [List.size_toArray,<- r.length];exact (List.getElem?_eq_some_iff.mp hx).1
  have D:Draws X.prog X.w X.A.in1 it [it,l] its.toArray.size (fun i v=>its.toArray[i]?=some v) (fun i h=>SrcTn b it l i h/\SrcSq b h l its.toArray):=Draws.src (A:=X.A.in1) (I.ok.hd hc) b it l hli its.toArray;refine wpAny_pyNext_enum_itemD D he ⟨h1,sq⟩ hil hei (by simp [hei,Ne.symm hle]) fun v h' tk hv ho hs' hT hsz hk=>?_
  have ev:v=u:=by
   have hu':its.toArray[i]?=some u:=by simpa using hu
   rw [hu'] at hv;exact (Option.some.inj hv).symm
  subst ev;refine ⟨_,rfl,wpAny_letOwnedTupleGo_enum ho fun h'' he'' hs''=>?_⟩;have hes:e≠s.heap.objs.size:=Nat.ne_of_lt (Heap.lt_size he);have n1:SrcTn b it l (i+1) h'':=hs'.1.keep fun o q=>hs''.extBut _ o hei.symm q;have kk:∀c o,c∉[e,it]->s.heap.get? c=some o->h''.get? c=some o:=fun c o hc q=>
   hs''.extBut c o (fun z=>hc (by simp [z])) (hk c o (fun z=>hc (by simp [z])) (fun z=>hc (by simp [z])) q)
  have hT':h''.get? s.heap.objs.size=some { cls:=.type "tuple",data:=.seq #[.int i tk,v] }:=hs''.extBut _ _ hes.symm hT;have lv:∀c∈[e,it],∃o,s.heap.get? c=some o:=fun c hc=>by
   have hc':c=e\/c=it:=by simpa using hc
   rcases hc' with q|q<;>subst q
   ·exact ⟨_,he⟩
   ·obtain ⟨o,q,_⟩:=h1.lt;exact ⟨o,q⟩
  have lv':∀c∈[e,it],∃o,h''.get? c=some o:=fun c hc=>by
   have hc':c=e\/c=it:=by simpa using hc
   rcases hc' with q|q<;>subst q
   ·exact ⟨_,he''⟩
   ·obtain ⟨o,q,_⟩:=n1.lt;exact ⟨o,q⟩
  have hTn:H s.heap.objs.size=none:=I.hok.fresh (Nat.le_refl _);refine ⟨.ref s.heap.objs.size,_,I.turnedNew (s:=s) (h':=h'') (t':=tk+1) (zs:=[.int i,x]) (us:=[.int i tk,v]) hf kk lv lv' hT' rfl ⟨_,rfl⟩ (.cons ⟨tk,rfl⟩ (.cons ru .nil)) rfl (by show 2<=sizeLine;decide),rfl,⟨_,x,hTn,rfl,rfl,fun zs hzs'=>?_⟩,⟨⟨v,by simpa using he''⟩,n1⟩,fun c hc=>?_⟩
  ·rw [I.src_inj hzs' q1];exact hx
  ·obtain ⟨o,q⟩:=lv c hc
   rw [upd_ne (Nat.ne_of_lt (Heap.lt_size q))];exact (hf c hc).1
 done:=by
  intro X hP hw hK hc i pins s σ H E I hf st hg;subst hP hw hK;obtain ⟨xs,q1,hx⟩:=hg;obtain ⟨⟨old,he⟩,h1⟩:=st;obtain ⟨its,r,sq,z1⟩:=I.src q1;have hli:l≠it:=I.src_ne q1 (hf it (by simp))
  have hT:s.TypeIs (.ref e) "enumerate":=⟨_,he,rfl⟩;have hl:=r.length;unfold pyNext
  refine wpAny_bind (wpAny_attempt (wpAny_callSpecial?_slot (name:=Str.ofString "__next__") hT F.slot_enumerate_next
   (wpAny_call_entry F.slot_enumerate_next hT F.entry_enumerate_next ?_ (F.args_enumerate_next_1 _))))
  show wpAny _ _ (field (.ref e) 2 >>= _) _ _ _;refine wpAny_bind (wpAny_field he rfl (x:=.ref it) rfl ?_);refine wpAny_bind (bZ (I.ok.hd hc) h1 sq (by simp;lia) fun h' x he' hx'=>?_)
  obtain ⟨o,ho,hcl⟩:=hx';refine wpAny_bind (wpAny_isInstance (T:="StopIteration") (b:=true) ⟨o,ho,hcl⟩ isSubtype_stop ?_);exact wpAny_pure ⟨rfl,I.turned4 (t':=s.toks) hf fun c o' hc' q=>he' c o' (fun z=>hc' (by simp [z])) q⟩
 self:=fun _ _ _ _ _ st h=>let ⟨⟨_,he⟩,_⟩:=st;wpAny_pyIter_enum he h
section
variable {X:Cx}
theorem nM:cj X (.builtin "isinstance") (fun xs H Q=>∃x T t b,xs=[x,.ty T]/\TyOf X.K H x t/\W.kitOne X.K t (.type T)=some b/\Q (.bl b) H):=by
 intro pins s σ H xs us Q I r h;obtain ⟨x,T,t,b,rfl,ty,e,q⟩:=h;obtain ⟨u,c,rfl,rx,rc⟩:=r.two;obtain rfl:c=Value.type T:=rc;exact sG I rx ty e fun tk=>⟨.bl b,H,I.tok tk,rfl,q⟩
theorem vq(hc:X.calm=true):cj X (.builtin "all") (fun xs H Q=>∃(l:Addr) (bs:List Bool),xs=[.ref l]/\SqL X.K H l (bs.map V.bl)/\Q (.bl (bs.all id)) H):=by
 intro pins s σ H xs us Q I r h;obtain ⟨l,bs,rfl,hq,q⟩:=h;obtain ⟨u,rfl,ru⟩:=r.one;cases ru;obtain ⟨its,rv,p,hz⟩:=I.list hq;have hl:=rv.length;have hli:l<s.heap.objs.size:=by obtain ⟨o,e,_⟩:=p.isList;exact Heap.lt_size e
 have hne:l≠s.heap.objs.size:=Nat.ne_of_lt hli;have val:∀(i:Nat) (v:Value),its.toArray[i]?=some v->∃c,bs[i]?=some c/\v=.bool c:=fun i v hv=>by
  have hv':its[i]?=some v:=by simpa using hv
  have hi:i<bs.length:=by
   have:=(List.getElem?_eq_some_iff.mp hv').1;rw [List.length_map] at hl;lia
  obtain ⟨w',h1,h2⟩:=rv.get (i:=i) (x:=.bl bs[i]) (by rw [List.getElem?_map,List.getElem?_eq_getElem hi];rfl)
  rw [hv'] at h1;cases h1;exact ⟨bs[i],List.getElem?_eq_getElem hi,h2⟩
 have hsz:its.toArray.size=bs.length:=by rw [List.size_toArray,<- hl,List.length_map]
 refine call_all_walk (wpAny_pyIter_list p.isList ⟨s.heap.objs.size,_,_,_,_,_,fun i=>bs.getD i false,rfl,Walks.list (A:=X.A.in1) (I.ok.hd hc) s.heap.objs.size l hne its.toArray,⟨⟨_,Heap.get?_push_size _ rfl,rfl,rfl⟩,p.isList.push _⟩,fun i v s' Q' E' hv hq'=>?_,fun h' tk hk=>?_⟩)
 ·obtain ⟨c,h1,rfl⟩:=val i v hv
  refine wpAny_truthy_bool ?_;have eb:bs.getD i false=c:=by rw [List.getD_eq_getElem?_getD,h1];rfl
  have hq2:Q' (bs.getD i false) s':=hq';rw [eb] at hq2;exact hq2
 ·have e:(List.range its.toArray.size).all (fun i=>bs.getD i false)=bs.all id:=by
   rw [hsz,Bool.eq_iff_iff,List.all_eq_true,List.all_eq_true];constructor
   ·intro h b hb
    obtain ⟨i,hi,rfl⟩:=List.mem_iff_getElem.mp hb;have:=h i (List.mem_range.mpr hi)
    rwa [List.getD_eq_getElem?_getD,List.getElem?_eq_getElem hi] at this
   ·intro h i hi
    have hi':=List.mem_range.mp hi;rw [List.getD_eq_getElem?_getD,List.getElem?_eq_getElem hi'];exact h _ (List.getElem_mem hi')
  rw [e];refine ⟨.bl (bs.all id),H,?_,rfl,q⟩;exact I.kept (t':=tk) fun b o hb=>hk b o (by simp;exact Nat.ne_of_lt (Heap.lt_size hb)) (Heap.get?_push_of_some _ hb)
end
end L2
namespace L2
open PySem PySem.Spec PyProof.Rows
abbrev xb(h:Heap)(z TI TO:Addr)(f0:Value)(f1:Bool):Prop:=
 h.get? z=some { cls:=.type "zip",dict:=none,data:=.fields #[f0,.bool f1,.bool false,.ref TI,.ref TO],slots:=#[] }
theorem dX:entryFor table "zip.__getattribute__"=some Builtin.«object.__getattribute__»:=
 entryFor_alias (id':="object.__getattribute__") (by kernel_rfl) (by decide +kernel) (by decide +kernel) (by kernel_rfl)
theorem gY:typeLookup (.type "zip") "__getattr__"=pure none:=by rw [typeLookup_type,builtinLookup_eq_fast];kernel_rfl
theorem oF:typeLookup (.type "zip") "keys"=pure none:=by rw [typeLookup_type,builtinLookup_eq_fast];kernel_rfl
theorem cA:entryFor table "dict.update.loop"=some Builtin.«dict.update.loop»:=entryFor_of_fast (by kernel_rfl)
theorem bA:plainId "dict.update.loop"=true:=by decide +kernel
theorem ju(a TI TO:Addr)(f0:Value)(f1:Bool)(name:Str)(u:Tok)(hmiss:typeLookup (.type "zip") name=pure none)(hname:(["__module__","__name__","__qualname__","__doc__","__annotations__"]:List Str).contains name=false)(hsz:name.length+100<=sizeLine:=by size_fits):
  Meets (Builtin.«object.__getattribute__» ⟨[.ref a,.str name u],[]⟩) (fun A R s=>xb s.heap a TI TO f0 f1/\raisesAttr (.ref a) name A R s):=
 Meets.of_wp fun prog w A R s hs=>by
  obtain ⟨hp,g,d,tk,os⟩:=s;obtain ⟨hx,hs⟩:=hs;have hT:(⟨hp,g,d,tk,os⟩:Shared).TypeIs (.ref a) "zip":=⟨_,hx,rfl⟩;unfold Builtin.«object.__getattribute__»
  repeat (any_goals (first|assumption|wp_step))
  simp only [hname,Bool.false_eq_true,if_false]
  repeat (any_goals (first|assumption|wp_step))
  exact wpAny_raiseAttrError hs.1 hs.2 (attrMsg_fits (by decide +kernel) hsz)
section
variable {prog:Program}{w:World}{A:Around}{E:Value->Shared->Prop}{s:Shared}
theorem kg{a TI TO:Addr}{f0:Value}{f1:Bool}{Q:Option Value->Shared->Prop}(hx:xb s.heap a TI TO f0 f1)(hA:A.handled=none)
  (h:∀h' tk,(∀b o,s.heap.get? b=some o->h'.get? b=some o)->Q none { s with heap:=h',toks:=tk }):wpAny (model prog w) A (getAttr? (.ref a) "keys") Q E s:=by
 obtain ⟨hp,g,d,tk,os⟩:=s;have hT:∀tk',(⟨hp,g,d,tk',os⟩:Shared).TypeIs (.ref a) "zip":=fun _=>⟨_,hx,rfl⟩;have f1':=sub_AttributeError;have f3:=F.slot_zip_getattribute.lookup;have f4:=F.slot_zip_getattribute.bind (.ref a);have f5:=gY;unfold getAttr? getAttrBy? getAttrBy
 repeat (any_goals (first|assumption|exact hT _|((with_reducible show wpAny _ _ (call (Value.builtin "zip.__getattribute__") _ _) _ _ _);refine call_meets F.slot_zip_getattribute (hT _) dX (F.args_zip_getattribute_2 _ _) (ju a TI TO f0 f1 "keys" _ oF (by decide +kernel) (by decide +kernel)) ⟨hx,hA,fun h' tk' e hx'=>?_⟩)|wp_step))
 obtain ⟨t',u',he⟩:=hx'.there;show wpAny _ _ (getattributeRaised _ _ _ _ _ _ _) _ _ _;unfold getattributeRaised
 repeat (any_goals (first|assumption|wp_step))
 exact h _ _ hx'.keeps
theorem jq{M:Model}{a:Addr}{o:Obj}{Q:Option Obj->Shared->Prop}(ho:s.heap.get? a=some o)(h:Q (some o) s):wpAny M A (loadIfAlive a) Q E s:=fun Γ p _=>by
 show Sem.wp M Γ (.loadIfAlive a .pure) _ _ p s;rw [Sem.wp_loadIfAlive,ho];exact h
end
end L2
namespace L2
open PySem PySem.Spec PyProof.Rows
section
variable {prog:Program}{w:World}{A:Around}{E:Value->Shared->Prop}{s:Shared}
theorem rU{b1 b2 f1:Bool}{z TI TO T i1 i2 l1 l2:Addr}{k1 k2:Nat}{xs ys:Array Value}{x y:Value}{oT:Obj}{Q:Value->Shared->Prop}(D:ZApart z TI TO i1 i2)(O1:l1≠z/\l1≠i1)(O2:l2≠z/\l2≠i1/\l2≠i2)
  (hz:xb s.heap z TI TO (rawInt T) f1) (hT:s.heap.get? T=some oT) (hTI:IsPair s.heap TI (.ref i1) (.ref i2))
  (h1:SrcTn b1 i1 l1 k1 s.heap) (h2:SrcTn b2 i2 l2 k2 s.heap) (hl1:SrcSq b1 s.heap l1 xs) (hl2:SrcSq b2 s.heap l2 ys) (hx:xs[k1]?=some x) (hy:ys[k2]?=some y)
  (hQ:∀h',xb h' z TI TO (rawInt T) true->SrcTn b1 i1 l1 (k1+1) h'->SrcTn b2 i2 l2 (k2+1) h'->IsPair h' s.heap.objs.size x y->h'.objs.size=s.heap.objs.size+1->
   (∀c o,c≠z->c≠i1->c≠i2->s.heap.get? c=some o->h'.get? c=some o)->Q (.ref s.heap.objs.size) { s with heap:=h' }):
  wpAny (model prog w) A (Builtin.«zip.__next__» ⟨[.ref z],[]⟩) (fun fin s'=>∃v,fin=.done (.ret v)/\Q v s') E s:=by
 show wpAny _ _ (field (.ref z) 2 >>= _) _ _ _;refine wpAny_bind (wpAny_field hz rfl (x:=.bool false) rfl ?_);show wpAny _ _ (field (.ref z) 3 >>= _) _ _ _;refine wpAny_bind (wpAny_field hz rfl (x:=.ref TI) rfl ?_);refine wpAny_bind (wpAny_seqItems hTI rfl ?_);show wpAny _ _ (Builtin.SmallTypes.ownedTupleIsFree (.ref z) >>= _) _ _ _;refine wpAny_bind ?_;unfold Builtin.SmallTypes.ownedTupleIsFree;refine wpAny_bind (wpAny_field hz rfl (x:=rawInt T) rfl ?_);show wpAny _ _ (loadIfAlive _ >>= _) _ _ _;refine wpAny_bind (jq (o:=oT) (by simpa using hT) ?_)
 simp only [Option.isNone_some,Bool.false_eq_true,if_false];refine wpAny_bind (wpAny_field hz rfl (x:=.bool f1) rfl ?_)
 have go:wpAny (model prog w) A (if (Value.bool f1 != Value.bool true)=true then do setField (Value.ref z) 1 (Value.bool true);pure false else pure false)
   (fun a s'=>a=false/\∃h₀,s'={ s with heap:=h₀ }/\xb h₀ z TI TO (rawInt T) true/\(∀c o,c≠z->s.heap.get? c=some o->h₀.get? c=some o)/\h₀.objs.size=s.heap.objs.size) E s:=by
  cases f1 with
  |true=>
   rw [if_neg (by decide)]
   exact wpAny_pure ⟨rfl,s.heap,rfl,hz,fun _ _ _ e=>e,rfl⟩
  |false=>
   rw [if_pos (by decide)]
   refine wpAny_bind (wpAny_setField_rec hz (by simp) fun h₀ hz₀ hs₀=>wpAny_pure ⟨rfl,h₀,rfl,hz₀,fun c o hc e=>hs₀.extBut c o hc e,hs₀.1⟩)
 refine wpAny_mono go (fun a s' hq=>?_) fun _ _ e=>e;obtain ⟨rfl,h₀,rfl,hz₀,hk₀,hs₀⟩:=hq;simp only [Bool.false_eq_true,if_false];rw [<- Array.forIn_toList];simp only [List.forIn_cons,List.forIn_nil];refine wpAny_bind (wpAny_bind (wpAny_bind (wpAny_holding ?_)));show wpAny _ _ (Builtin.SmallTypes.nextOf (.ref i1) >>= _) _ _ _;refine wpAny_bind (bG (s:={ s with heap:=h₀ }) (h1.keep fun o e=>hk₀ _ o D.i1z e) (hl1.keep fun o e=>hk₀ _ o O1.1 e) hx fun h₂ h1₂ hs₂=>wpAny_pure ?_);refine wpAny_pure ?_;refine wpAny_bind (wpAny_bind (wpAny_holding ?_));show wpAny _ _ (Builtin.SmallTypes.nextOf (.ref i2) >>= _) _ _ _;refine wpAny_bind (bG (s:={ s with heap:=h₂ }) (h2.keep fun o e=>hs₂.extBut _ o D.i12.symm (hk₀ _ o D.i2z e)) (hl2.keep fun o e=>hs₂.extBut _ o O2.2.1 (hk₀ _ o O2.1 e)) hy fun h₃ h2₃ hs₃=>wpAny_pure ?_);refine wpAny_pure (wpAny_pure ?_);refine wpAny_bind (wpAny_newTuple (wpAny_pure ⟨_,rfl,?_⟩) (by show 2<=sizeLine;decide))
 have e2:h₂.objs.size=h₀.objs.size:=hs₂.1;have e3:h₃.objs.size=h₂.objs.size:=hs₃.1;have hsz:h₃.objs.size=s.heap.objs.size:=by rw [e3,e2,hs₀]
 have zl:z≠i1:=D.i1z.symm;have zl2:z≠i2:=D.i2z.symm;show Q (.ref h₃.objs.size) _;rw [hsz];refine hQ _ (Heap.get?_push_of_some _ (hs₃.extBut _ _ zl2 (hs₂.extBut _ _ zl hz₀))) (h1₂.keep fun o e=>Heap.get?_push_of_some _ (hs₃.extBut _ o D.i12 e)) (h2₃.keep fun o e=>Heap.get?_push_of_some _ e) ?_ ?_ fun c o c1 c2 c3 e=>Heap.get?_push_of_some _ (hs₃.extBut _ _ c3 (hs₂.extBut _ _ c2 (hk₀ c o c1 e)))
 ·rw [<- hsz]
  exact Heap.get?_push_size _ rfl
 ·rw [Heap.size_push,hsz]
theorem tN{b1 b2 f1:Bool}{z TI TO T i1 i2 l1 l2:Addr}{k1 k2:Nat}{xs ys:Array Value}{oT:Obj}{Q:Fin->Shared->Prop}(hh:A.handled=none)(D:ZApart z TI TO i1 i2)(O1:l1≠z/\l1≠i1)
  (hz:xb s.heap z TI TO (rawInt T) f1) (hT:s.heap.get? T=some oT) (hTI:IsPair s.heap TI (.ref i1) (.ref i2))
  (h1:SrcTn b1 i1 l1 k1 s.heap) (hl1:SrcSq b1 s.heap l1 xs) (hx:xs[k1]?=none)
  (hE:∀h' e,(∀c o,c≠z->c≠i1->s.heap.get? c=some o->h'.get? c=some o)->(∃o,h'.get? e=some o/\o.cls=.type "StopIteration")->E (.ref e) { s with heap:=h' }):
  wpAny (model prog w) A (Builtin.«zip.__next__» ⟨[.ref z],[]⟩) Q E s:=by
 show wpAny _ _ (field (.ref z) 2 >>= _) _ _ _;refine wpAny_bind (wpAny_field hz rfl (x:=.bool false) rfl ?_);show wpAny _ _ (field (.ref z) 3 >>= _) _ _ _;refine wpAny_bind (wpAny_field hz rfl (x:=.ref TI) rfl ?_);refine wpAny_bind (wpAny_seqItems hTI rfl ?_);show wpAny _ _ (Builtin.SmallTypes.ownedTupleIsFree (.ref z) >>= _) _ _ _;refine wpAny_bind ?_;unfold Builtin.SmallTypes.ownedTupleIsFree;refine wpAny_bind (wpAny_field hz rfl (x:=rawInt T) rfl ?_);show wpAny _ _ (loadIfAlive _ >>= _) _ _ _;refine wpAny_bind (jq (o:=oT) (by simpa using hT) ?_)
 simp only [Option.isNone_some,Bool.false_eq_true,if_false];refine wpAny_bind (wpAny_field hz rfl (x:=.bool f1) rfl ?_)
 have go:wpAny (model prog w) A (if (Value.bool f1 != Value.bool true)=true then do setField (Value.ref z) 1 (Value.bool true);pure false else pure false)
   (fun a s'=>a=false/\∃h₀,s'={ s with heap:=h₀ }/\(∀c o,c≠z->s.heap.get? c=some o->h₀.get? c=some o)) E s:=by
  cases f1 with
  |true=>
   rw [if_neg (by decide)]
   exact wpAny_pure ⟨rfl,s.heap,rfl,fun _ _ _ e=>e⟩
  |false=>
   rw [if_pos (by decide)]
   refine wpAny_bind (wpAny_setField_rec hz (by simp) fun h₀ hz₀ hs₀=>wpAny_pure ⟨rfl,h₀,rfl,fun c o hc e=>hs₀.extBut c o hc e⟩)
 refine wpAny_mono go (fun a s' hq=>?_) fun _ _ e=>e;obtain ⟨rfl,h₀,rfl,hk₀⟩:=hq;simp only [Bool.false_eq_true,if_false];rw [<- Array.forIn_toList];simp only [List.forIn_cons,List.forIn_nil];refine wpAny_bind (wpAny_bind (wpAny_bind (wpAny_holding ?_)));show wpAny _ _ (Builtin.SmallTypes.nextOf (.ref i1) >>= _) _ _ _;exact wpAny_bind (bZ (s:={ s with heap:=h₀ }) hh (h1.keep fun o e=>hk₀ _ o D.i1z e) (hl1.keep fun o e=>hk₀ _ o O1.1 e) hx fun h₂ e hs₂ he=>hE h₂ e (fun c o c1 c2 q=>hs₂ _ _ c2 (hk₀ c o c1 q)) he)
theorem gW{b1 b2 f1:Bool}{z TI TO T i1 i2 l1 l2:Addr}{k1 k2:Nat}{xs ys:Array Value}{x y:Value}{oT:Obj}{Q:Option Value->Shared->Prop}(D:ZApart z TI TO i1 i2)(O1:l1≠z/\l1≠i1)(O2:l2≠z/\l2≠i1/\l2≠i2)
  (hz:xb s.heap z TI TO (rawInt T) f1) (hT:s.heap.get? T=some oT) (hTI:IsPair s.heap TI (.ref i1) (.ref i2))
  (h1:SrcTn b1 i1 l1 k1 s.heap) (h2:SrcTn b2 i2 l2 k2 s.heap) (hl1:SrcSq b1 s.heap l1 xs) (hl2:SrcSq b2 s.heap l2 ys) (hx:xs[k1]?=some x) (hy:ys[k2]?=some y)
  (hQ:∀h',xb h' z TI TO (rawInt T) true->SrcTn b1 i1 l1 (k1+1) h'->SrcTn b2 i2 l2 (k2+1) h'->IsPair h' s.heap.objs.size x y->h'.objs.size=s.heap.objs.size+1->
   (∀c o,c≠z->c≠i1->c≠i2->s.heap.get? c=some o->h'.get? c=some o)->Q (some (.ref s.heap.objs.size)) { s with heap:=h' }):wpAny (model prog w) A (pyNext (.ref z)) Q E s:=by
 have hTy:s.TypeIs (.ref z) "zip":=⟨_,hz,rfl⟩;unfold pyNext
 exact wpAny_bind (wpAny_attempt (wpAny_callSpecial?_slot (name:=Str.ofString "__next__") hTy F.slot_zip_next
  (wpAny_call_entry F.slot_zip_next hTy F.entry_zip_next (rU D O1 O2 hz hT hTI h1 h2 hl1 hl2 hx hy fun h' a1 a2 a3 a4 a5 a6=>wpAny_pure (hQ h' a1 a2 a3 a4 a5 a6)) (F.args_zip_next_1 _))))
theorem iz{b1 f1:Bool}{z TI TO T i1 i2 l1:Addr}{k1:Nat}{xs:Array Value}{oT:Obj}{Q:Option Value->Shared->Prop}(hh:A.handled=none)(D:ZApart z TI TO i1 i2)(O1:l1≠z/\l1≠i1)
  (hz:xb s.heap z TI TO (rawInt T) f1) (hT:s.heap.get? T=some oT) (hTI:IsPair s.heap TI (.ref i1) (.ref i2)) (h1:SrcTn b1 i1 l1 k1 s.heap) (hl1:SrcSq b1 s.heap l1 xs) (hx:xs[k1]?=none)
  (hQ:∀h',(∀c o,c≠z->c≠i1->s.heap.get? c=some o->h'.get? c=some o)->Q none { s with heap:=h' }):wpAny (model prog w) A (pyNext (.ref z)) Q E s:=by
 have hTy:s.TypeIs (.ref z) "zip":=⟨_,hz,rfl⟩;unfold pyNext
 refine wpAny_bind (wpAny_attempt (wpAny_callSpecial?_slot (name:=Str.ofString "__next__") hTy F.slot_zip_next
  (wpAny_call_entry F.slot_zip_next hTy F.entry_zip_next (tN (b2:=true) (l2:=l1) (k2:=0) (ys:=#[]) hh D O1 hz hT hTI h1 hl1 hx fun h' e hk he=>?_) (F.args_zip_next_1 _))))
 obtain ⟨o,ho,hc⟩:=he;refine wpAny_bind (wpAny_isInstance (T:="StopIteration") (b:=true) ⟨o,ho,hc⟩ isSubtype_stop ?_);exact wpAny_pure (hQ _ hk)
end
theorem t9{prog:Program}{w:World}{K:Type}[DecidableEq K]{knd:KeyKind prog w K}{A:Around}{R:Result->Shared->Prop}{b1 b2:Bool}{z TI TO T i1 i2 l1 l2 d:Addr}{xs ys:List Value}{ks:List K}(hh:A.handled=none)(D:ZApart z TI TO i1 i2)
  (O1:l1≠z/\l1≠i1/\l1≠i2/\l1≠d) (O2:l2≠z/\l2≠i1/\l2≠i2/\l2≠d) (Od:d≠z/\d≠i1/\d≠i2/\d≠TI/\d≠T) (OT:T≠z/\T≠i1/\T≠i2)
  (hk:Paired (fun k v=>knd.is k v=true) ks xs) (hl:xs.length=ys.length) (hz:xs.length<=1000):
  ∀(n i:Nat) (s:Shared) (f1:Bool) (kvs:List (K×Value)),n=xs.length-i->i<=xs.length->kvs.length<=i->xb s.heap z TI TO (rawInt T) f1->(∃oT,s.heap.get? T=some oT)->IsPair s.heap TI (.ref i1) (.ref i2)->
   SrcTn b1 i1 l1 i s.heap->SrcTn b2 i2 l2 i s.heap->SrcSq b1 s.heap l1 xs.toArray->SrcSq b2 s.heap l2 ys.toArray->s.heap.DictOf knd d kvs->
   (∀s':Shared,s'.os=s.os->s'.gens=s.gens->s'.drawn=s.drawn->s'.heap.DictOf knd d (((ks.zip ys).drop i).foldl (fun a p=>stored a p.1 p.2) kvs)->(∀c o,c≠z->c≠i1->c≠i2->c≠d->s.heap.get? c=some o->s'.heap.get? c=some o)->R (.ok (.ret .none)) s')->
   ∀tk:Nat,codeAny (model prog w) A (.builtin "dict.update.loop" ⟨[.ref d,.ref z,rawInt tk,.none],[]⟩) R s:=by
 intro n
 induction n with
 |zero=>
  intro i s f1 kvs hn hi hkl hzz hT hTI h1 h2 s1 s2 hd hR tk;obtain ⟨oT,hT⟩:=hT;have hin:i=xs.length:=by lia
  refine codeAny_builtin cA ?_;rw [Around.under_plainId bA _];show wpAny _ A.in1 (pyNext (.ref z) >>= _) _ _ s;refine wpAny_bind (iz hh D ⟨O1.1,O1.2.1⟩ hzz hT hTI h1 s1 (by simp;lia) fun h' hk'=>?_)
  refine wpAny_bind (m:=Builtin.Dict.addKeywords d []) (wpAny_pure ?_);refine wpAny_pure (hR _ rfl rfl rfl ?_ fun c o c1 c2 c3 c4 e=>hk' c o c1 c2 e);rw [List.drop_eq_nil_of_le (by have e:=Paired.length hk;rw [List.length_zip];lia)]
  obtain ⟨o,es,ep,ho,r⟩:=hd;exact ⟨o,es,ep,hk' d o Od.1 Od.2.1 ho,r⟩
 |succ n ih=>
  intro i s f1 kvs hn hi hkl hzz hT hTI h1 h2 s1 s2 hd hR tk;obtain ⟨oT,hT⟩:=hT;have hlt:i<xs.length:=by lia
  have hlt2:i<ys.length:=by lia
  refine codeAny_builtin cA ?_;rw [Around.under_plainId bA _];show wpAny _ A.in1 (pyNext (.ref z) >>= _) _ _ s;refine wpAny_bind (gW (x:=xs[i]) (y:=ys[i]) D ⟨O1.1,O1.2.1⟩ ⟨O2.1,O2.2.1,O2.2.2.1⟩ hzz hT hTI h1 h2 s1 s2 (by simp [hlt]) (by simp [hlt2]) fun h' a1 a2 a3 a4 a5 hk'=>?_)
  have hTy:({ s with heap:=h' }:Shared).TypeIs (.ref s.heap.objs.size) "tuple":=⟨_,a4,rfl⟩;refine wpAny_bind (wpAny_holding (wpAny_bind (wpAny_tryCatch ?_)));unfold Builtin.Dict.pairItems;refine wpAny_bind (wpAny_typeOf hTy ?_);rw [if_pos (by decide)]
  refine wpAny_bind (wpAny_seqItems (s:={ s with heap:=h' }) a4 rfl (wpAny_pure ?_));have hd':h'.DictOf knd d kvs:=by
   obtain ⟨o,es,ep,ho,r⟩:=hd;exact ⟨o,es,ep,hk' d o Od.1 Od.2.1 Od.2.2.1 ho,r⟩
  have hks:i<ks.length:=by rw [Paired.length hk];exact hlt
  have hkey:knd.is ks[i] xs[i]=true:=by
   have:∀{l₁:List K} {l₂:List Value},Paired (fun k v=>knd.is k v=true) l₁ l₂->∀(j:Nat) (h1:j<l₁.length) (h2:j<l₂.length),knd.is l₁[j] l₂[j]=true:=by
    intro l₁ l₂ p
    induction p with
    |nil=>intro j h1;exact absurd h1 (Nat.not_lt_zero _)
    |cons r _ ihp=>
     intro j h1 h2;cases j with
     |zero=>exact r
     |succ j=>exact ihp j (by simpa using h1) (by simpa using h2)
   exact this hk i hks hlt
  have hkz:kvs.length<=sizeLine:=Nat.le_trans (Nat.le_trans hkl hi) (Nat.le_trans hz (by decide))
  show wpAny _ _ (holding [xs[i],ys[i]] (dictSet d xs[i] ys[i])) _ _ _;refine wpAny_holding (wpAny_dictSet_pairs (s:={ s with heap:=h' }) hkey hd' (fun h'' hd'' hs''=>?_) hkz);have kk:∀c o,c≠z->c≠i1->c≠i2->c≠d->s.heap.get? c=some o->h''.get? c=some o:=fun c o c1 c2 c3 c4 e=>hs''.extBut c o c4 (hk' c o c1 c2 c3 e);refine wpAny_pure ⟨plainId_quiet bA _,?_⟩;have hst:(stored kvs ks[i] ys[i]).length<=i+1:=by
   unfold stored
   split
   ·rw [List.length_map];lia
   ·rw [List.length_append,List.length_singleton];lia
  refine ih (i+1) { s with heap:=h'',toks:=s.toks+1 } true (stored kvs ks[i] ys[i]) (by lia) hlt hst (hs''.extBut _ _ Od.1.symm a1) ⟨oT,kk T oT OT.1 OT.2.1 OT.2.2 Od.2.2.2.2.symm hT⟩ (kk TI _ D.TIz D.TIi1 D.TIi2 Od.2.2.2.1.symm hTI)
   (a2.keep fun o e=>hs''.extBut _ o Od.2.1.symm e) (a3.keep fun o e=>hs''.extBut _ o Od.2.2.1.symm e) (s1.keep fun o e=>kk l1 o O1.1 O1.2.1 O1.2.2.1 O1.2.2.2 e) (s2.keep fun o e=>kk l2 o O2.1 O2.2.1 O2.2.2.1 O2.2.2.2 e) hd'' ?_ (tk+1)
  intro s' q1 q2 q3 q4 q5;refine hR s' q1 q2 q3 ?_ fun c o c1 c2 c3 c4 e=>q5 c o c1 c2 c3 c4 (kk c o c1 c2 c3 c4 e);have ez:(ks.zip ys).drop i=(ks[i],ys[i])::(ks.zip ys).drop (i+1):=by
   rw [List.drop_eq_getElem_cons (by rw [List.length_zip];lia)]
   simp
  rw [ez,List.foldl_cons];exact q4
namespace F
theorem mro_dict:mroOf (.type "dict")=pure [.type "dict",.type "object"]:=by rw [mroOf_type];kernel_rfl
theorem iB:typeLookup (.type "dict") "__new__"=pure (some (.builtin "dict.__new__")):=by rw [typeLookup_type,builtinLookup_eq_fast];kernel_rfl
theorem called_dict:TypeCalled "dict" "dict.__new__" "dict.__init__":=
 ⟨by decide +kernel,by decide +kernel,⟨_,_,mro_dict⟩,madeBy_type mro_dict iB (by decide +kernel),by decide +kernel,by rw [isSubtype_type];kernel_rfl,PySem.F.slot_dict_init⟩
theorem typeCall_dict_1(a:Value):checkTypeCall "dict" ⟨[a],[]⟩=pure ():=by kernel_rfl
theorem newCall_dict_1(a:Value):checkBuiltinCall "dict.__new__" ⟨[.type "dict",a],[]⟩=pure ():=by kernel_rfl
theorem entry_dict_new:entryFor table "dict.__new__"=some Builtin.«dict.__new__»:=entryFor_of_tree (by kernel_rfl)
theorem plain_dict_new:plainId "dict.__new__"=true:=by decide +kernel
theorem sub_dict:isSubtype (.type "dict") (.type "dict")=pure true:=by rw [isSubtype_type];kernel_rfl
end F
section
variable {prog:Program}{w:World}{K:Type}[DecidableEq K]{knd:KeyKind prog w K}{A:Around}{E:Value->Shared->Prop}{s:Shared}
theorem kj(a:Value){Q₁:Value->Shared->Prop}(h:Q₁ (.ref s.heap.objs.size) { s with heap:=s.heap.push { cls:=.type "dict",data:=.dict #[] } }):
  codeAny (model prog w) A (.call (.builtin "dict.__new__") ⟨[.type "dict",a],[]⟩) (wants Q₁ E) s:=by
 refine codeAny_call_builtin F.plain_dict_new F.entry_dict_new (wpAny_of_eq (F.newCall_dict_1 a) ?_);have hsub:=F.sub_dict;have hmro:=F.mro_dict;obtain ⟨hp,g,d,tk,os⟩:=s;unfold Builtin.«dict.__new__»
 wp_walk
 exact h
theorem kn{b1 b2:Bool}{z TI TO i1 i2 l1 l2:Addr}{xs ys:List Value}{ks:List K}{Q:Value->Shared->Prop}(hh:A.handled=none)(D:ZApart z TI TO i1 i2)(O1:oW z TO i1 i2 l1)(O2:oW z TO i1 i2 l2)
  (hz:IsZip s.heap z TI TO .none) (hTI:IsPair s.heap TI (.ref i1) (.ref i2)) (hTO:∃a b,IsPair s.heap TO a b) (h1:SrcTn b1 i1 l1 0 s.heap) (h2:SrcTn b2 i2 l2 0 s.heap) (hl1:SrcSq b1 s.heap l1 xs.toArray) (hl2:SrcSq b2 s.heap l2 ys.toArray)
  (hk:Paired (fun k v=>knd.is k v=true) ks xs) (hl:xs.length=ys.length) (hz0:0<xs.length) (hzz:xs.length<=1000)
  (h:∀s':Shared,s'.os=s.os->s'.gens=s.gens->s'.drawn=s.drawn->s'.heap.DictOf knd s.heap.objs.size ((ks.zip ys).foldl (fun a p=>stored a p.1 p.2) [])->
   (∀c o,c≠z->c≠TO->c≠i1->c≠i2->s.heap.get? c=some o->s'.heap.get? c=some o)->Q (.ref s.heap.objs.size) s'):
  wpAny (model prog w) A (call (.type "dict") [.ref z]) Q E s:=by
 refine callType_codes (Q₁:=fun obj s₁=>obj=.ref s.heap.objs.size/\s₁={ s with heap:=s.heap.push { cls:=.type "dict",data:=.dict #[] } }) F.called_dict (F.typeCall_dict_1 _) F.entry_dict_init (kj _ ⟨rfl,rfl⟩) ?_
 rintro obj s₁ ⟨rfl,rfl⟩
 have hnew:(s.heap.push { cls:=.type "dict",data:=.dict #[] }).DictOf knd s.heap.objs.size []:=Heap.DictOf.new s.heap;refine ⟨hnew.typeIs,F.args_dict_init_2 _ _,?_⟩;unfold Builtin.«dict.__init__»;refine wpAny_bind ?_;unfold Builtin.Dict.selfAndRest;refine wpAny_bind (wpAny_notOrdered_dict hnew.typeIs ?_);show wpAny _ _ (pure (s.heap.objs.size,[Value.ref z])) _ _ _;refine wpAny_pure ?_;show wpAny _ _ (Builtin.Dict.updateFrom "dict.__init__" s.heap.objs.size (.ref z) [] .none) _ _ _;unfold Builtin.Dict.updateFrom;have hdz:∀c o,s.heap.get? c=some o->c≠s.heap.objs.size:=fun c o e=>Nat.ne_of_lt (Heap.lt_size e);have up:∀c o,s.heap.get? c=some o->(s.heap.push { cls:=.type "dict",data:=.dict #[] }).get? c=some o:=fun c o e=>Heap.get?_push_of_some _ e;refine wpAny_bind (wpAny_typeOf (T:="zip") ⟨_,up _ _ hz,rfl⟩ ?_);rw [if_pos (by decide)]
 refine wpAny_bind (kg (f1:=false) (s:={ s with heap:=s.heap.push { cls:=.type "dict",data:=.dict #[] } }) (up _ _ hz) hh fun h₁ tk₁ hk₁=>?_);rw [if_pos (show (none:Option Value).isNone=true from rfl)];have up1:∀c o,s.heap.get? c=some o->h₁.get? c=some o:=fun c o e=>hk₁ c o (up c o e);refine wpAny_bind (wpAny_rule (wpAny_bind (wpAny_pyIter_zip (s:={ s with heap:=h₁,toks:=tk₁ }) (up1 _ _ hz) (wpAny_pure ⟨plainId_quiet bA _,codeAny_builtin cA ?_⟩))));rw [Around.under_plainId bA _];show wpAny _ A.in1.in1 (pyNext (.ref z) >>= _) _ _ _;obtain ⟨a,b,hTO⟩:=hTO;have hlt2:0<ys.length:=by lia
 have hd1:h₁.DictOf knd s.heap.objs.size []:=by
  obtain ⟨o,es,ep,ho,r⟩:=hnew;exact ⟨o,es,ep,hk₁ _ o ho,r⟩
 have hnz:s.heap.objs.size≠z:=(hdz _ _ hz).symm;have hnTI:s.heap.objs.size≠TI:=(hdz _ _ hTI).symm;have hnTO:s.heap.objs.size≠TO:=(hdz _ _ hTO).symm;have hni1:s.heap.objs.size≠i1:=by obtain ⟨o,e,_⟩:=h1.lt;exact (hdz _ _ e).symm
 have hni2:s.heap.objs.size≠i2:=by obtain ⟨o,e,_⟩:=h2.lt;exact (hdz _ _ e).symm
 have nl:∀{b:Bool} {l:Addr} {us:Array Value},SrcSq b s.heap l us->l≠s.heap.objs.size:=fun {b l us} q=>by
  cases b with
  |true=>obtain ⟨o,e,_⟩:=(show s.heap.IsList l us from q);exact hdz _ _ e
  |false=>obtain ⟨o,e,_⟩:=(show s.heap.IsTuple l us from q);exact hdz _ _ e
 refine wpAny_bind (et (s:={ s with heap:=h₁,toks:=tk₁ }) (x:=xs[0]) (y:=ys[0]) D O1 O2 (up1 _ _ hz) (up1 _ _ hTI) (up1 _ _ hTO) (h1.keep fun o e=>up1 _ o e) (h2.keep fun o e=>up1 _ o e) (hl1.keep fun o e=>up1 _ o e) (hl2.keep fun o e=>up1 _ o e) (by simp [hz0]) (by simp [hlt2]) fun h₂ a1 a2 a3 a4 a5 a6 hk₂=>?_)
 have hTy:({ s with heap:=h₂,toks:=tk₁ }:Shared).TypeIs (.ref h₁.objs.size) "tuple":=⟨_,a5,rfl⟩;refine wpAny_bind (wpAny_holding (wpAny_bind (wpAny_tryCatch ?_)));unfold Builtin.Dict.pairItems;refine wpAny_bind (wpAny_typeOf hTy ?_);rw [if_pos (by decide)]
 refine wpAny_bind (wpAny_seqItems (s:={ s with heap:=h₂,toks:=tk₁ }) a5 rfl (wpAny_pure ?_));have hks:0<ks.length:=by rw [Paired.length hk];exact hz0
 have hkey:knd.is ks[0] xs[0]=true:=by
  cases hk with
  |nil=>exact absurd hz0 (Nat.lt_irrefl _)
  |cons r _=>exact r
 have hd2:h₂.DictOf knd s.heap.objs.size []:=by
  obtain ⟨o,es,ep,ho,r⟩:=hd1;exact ⟨o,es,ep,hk₂ _ o hnz hnTO hni1 hni2 ho,r⟩
 show wpAny _ _ (holding [xs[0],ys[0]] (dictSet s.heap.objs.size xs[0] ys[0])) _ _ _;refine wpAny_holding (wpAny_dictSet_pairs (s:={ s with heap:=h₂,toks:=tk₁ }) hkey hd2 (fun h₃ hd₃ hs₃=>?_) (Nat.zero_le _));refine wpAny_pure ⟨plainId_quiet bA _,?_⟩;have T1:∀c o,h₁.get? c=some o->h₁.objs.size≠c:=fun c o e=>Nat.ne_of_gt (Heap.lt_size e);have hdl:s.heap.objs.size<h₁.objs.size:=by obtain ⟨o,es,ep,ho,r⟩:=hd1;exact Heap.lt_size ho
 have kk:∀c o,c≠z->c≠TO->c≠i1->c≠i2->c≠s.heap.objs.size->s.heap.get? c=some o->h₃.get? c=some o:=fun c o c1 c2 c3 c4 c5 e=>hs₃.extBut c o c5 (hk₂ c o c1 c2 c3 c4 (up1 c o e));have hst:(stored ([]:List (K×Value)) ks[0] ys[0]).length<=1:=by simp [stored]
 refine t9 (A:=A.in1) (T:=h₁.objs.size) (l1:=l1) (l2:=l2) (xs:=xs) (ys:=ys) (ks:=ks) hh D ⟨O1.1,O1.2.2.1,O1.2.2.2,nl hl1⟩ ⟨O2.1,O2.2.2.1,O2.2.2.2,nl hl2⟩ ⟨hnz,hni1,hni2,hnTI,Nat.ne_of_lt hdl⟩
  ⟨T1 _ _ (up1 _ _ hz),(by obtain ⟨o,e,_⟩:=h1.lt;exact T1 _ _ (up1 _ _ e)),(by obtain ⟨o,e,_⟩:=h2.lt;exact T1 _ _ (up1 _ _ e))⟩ hk hl hzz (xs.length-1) 1 { s with heap:=h₃,toks:=tk₁+1 } false (stored [] ks[0] ys[0]) rfl hz0 hst
  (hs₃.extBut _ _ hnz.symm a1) ⟨_,hs₃.extBut _ _ (Nat.ne_of_gt hdl) a5⟩ (kk TI _ D.TIz D.TITO D.TIi1 D.TIi2 hnTI.symm hTI) (a3.keep fun o e=>hs₃.extBut _ o hni1.symm e) (a4.keep fun o e=>hs₃.extBut _ o hni2.symm e)
  (hl1.keep fun o e=>kk l1 o O1.1 O1.2.1 O1.2.2.1 O1.2.2.2 (nl hl1) e) (hl2.keep fun o e=>kk l2 o O2.1 O2.2.1 O2.2.2.1 O2.2.2.2 (nl hl2) e) hd₃ ?_ 1
 intro s' q1 q2 q3 q4 q5;refine ⟨rfl,h s' q1 q2 q3 ?_ fun c o c1 c2 c3 c4 e=>q5 c o c1 c3 c4 (hdz c o e) (kk c o c1 c2 c3 c4 (hdz c o e) e)⟩;have ez:ks.zip ys=(ks[0],ys[0])::(ks.zip ys).drop 1:=by
  have:=List.drop_eq_getElem_cons (l:=ks.zip ys) (i:=0) (by rw [List.length_zip];lia)
  simpa using this
 rw [ez,List.foldl_cons];exact q4
end
end L2
namespace L2
open PySem PySem.Spec PyProof.Rows
theorem gZ:fillsNumberSlot (.type "tuple") "mul"=pure false:=
 PySem.fillsNumberSlot_seq (id:="tuple.__mul__") (r:=some (.builtin "tuple.__rmul__")) PySem.F.slot_tuple_mul.lookup (by decide +kernel) PySem.F.slot_tuple_rmul.lookup (by decide +kernel)
theorem lM:seqRepeat? (.type "tuple")=pure (some (.builtin "tuple.__mul__")):=by
 unfold seqRepeat?;rw [PySem.seqSlot_of (T:="tuple") (name:="__mul__") (id:="tuple.__mul__") PySem.F.slot_tuple_mul.lookup (by decide +kernel),PySem.seqSlot_of (T:="tuple") (name:="__rmul__") (id:="tuple.__rmul__") PySem.F.slot_tuple_rmul.lookup (by decide +kernel)]
 rfl
theorem jp(a:Int)(t:Tok)(l:Addr)(items:Array Value)(n:Nat)(dd:Option Addr)(sl:Array (Option Value)):
  Meets (Builtin.«int.__rmul__» ⟨[.int a t,.ref l],[]⟩) (fun _ R s=>s.heap.get? l=some { cls:=.type "tuple",dict:=dd,data:=.seq items n,slots:=sl }/\R (.ok (.ret Value.notImplemented)) s):=
 .of_wp fun prog w A R s h=>by obtain ⟨hp,g,d,tk,os⟩:=s;obtain ⟨hl,h⟩:=h;wp_walk;exact ⟨_,rfl,h⟩
theorem jC(l:Addr)(items:Array Value)(n:Nat)(dd:Option Addr)(sl:Array (Option Value))(x:Int)(u:Tok)(hx:1<x)(hx2:x<=1000)(hi:items.size<=1000)(h0:items.isEmpty=false):
  Meets (Builtin.«tuple.__mul__» ⟨[.ref l,.int x u],[]⟩) (fun _ R s=>s.heap.get? l=some { cls:=.type "tuple",dict:=dd,data:=.seq items n,slots:=sl }/\
   R (.ok (.ret (.ref s.heap.objs.size))) { s with heap:=s.heap.push { cls:=.type "tuple",data:=.seq ((List.replicate x.toNat items).foldl (·++·) #[]) } }):=
 .of_wp fun prog w A R s h=>by
  obtain ⟨hp,g,d,tk,os⟩:=s;obtain ⟨hl,h⟩:=h;have f1:=AutoSeq1.idx_int;have f2:=AutoSeq1.sub_tuple_tuple;have g1:(decide (x < -(2 ^ 63))||decide (x>=2 ^ 63))=false:=by simp;lia
  have g2:(items.isEmpty||x==1)=false:=by rw [h0];simp;lia
  have g3:(decide (x<=0)||items.isEmpty)=false:=by rw [h0];simp;lia
  have hm:(items.size:Int)*x<=1000000:=by
   have a1:(items.size:Int)*x<=1000*x:=Int.mul_le_mul_of_nonneg_right (by lia) (by lia)
   lia
  have hm2:¬((items.size:Int)*x>(2 ^ 63-1) / 8):=by lia
  have hm3:Builtin.Tuple.tupleTooMany ((items.size:Int)*x)=false:=by
   unfold Builtin.Tuple.tupleTooMany;have:(1000000:Int)<=(sizeLine:Int):=by decide
   exact decide_eq_false (by lia)
  wp_walk using wpAny_loadPart' hl
  try simp only [g1,Bool.false_eq_true,if_false]
  wp_walk using wpAny_loadPart' hl
  try simp only [g2,Bool.false_eq_true,if_false]
  wp_walk using wpAny_loadPart' hl
  try simp only [g3,Bool.false_eq_true,if_false]
  wp_walk using wpAny_loadPart' hl
  rw [if_neg hm2];simp only [hm3,Bool.false_eq_true,if_false];unfold Builtin.Tuple.tupleExact;have hlen:((List.replicate x.toNat items).foldl (·++·) #[]).toList.length<=sizeLine:=by
   have e:∀(k:Nat) (acc:Array Value),((List.replicate k items).foldl (·++·) acc).size=acc.size+k*items.size:=by
    intro k
    induction k with
    |zero=>intro acc;simp
    |succ k ih=>intro acc;rw [List.replicate_succ,List.foldl_cons,ih,Array.size_append,Nat.succ_mul];lia
   rw [Array.length_toList,e];have:x.toNat*items.size<=1000*1000:=Nat.mul_le_mul (by lia) hi
   have h2:(1000*1000:Nat)<=sizeLine:=by decide
   simp only [List.size_toArray,List.length_nil] at *;lia
  refine wpAny_bind (wpAny_newTuple (wpAny_pure ⟨_,rfl,?_⟩) hlen);simpa using h
theorem km(l:Addr)(items:Array Value)(n:Nat)(dd:Option Addr)(sl:Array (Option Value))(u:Tok):
  Meets (Builtin.«tuple.__mul__» ⟨[.ref l,.int 1 u],[]⟩) (fun _ R s=>s.heap.get? l=some { cls:=.type "tuple",dict:=dd,data:=.seq items n,slots:=sl }/\R (.ok (.ret (.ref l))) s):=
 .of_wp fun prog w A R s h=>by
  obtain ⟨hp,g,d,tk,os⟩:=s;obtain ⟨hl,h⟩:=h;have f1:=AutoSeq1.idx_int;have f2:=AutoSeq1.sub_tuple_tuple;have g1:(decide ((1:Int) < -(2 ^ 63))||decide ((1:Int)>=2 ^ 63))=false:=by decide
  have g2:(items.isEmpty||(1:Int)==1)=true:=by simp
  wp_walk using wpAny_loadPart' hl
  try simp only [g1,Bool.false_eq_true,if_false]
  wp_walk using wpAny_loadPart' hl
  try simp only [g2,if_true]
  wp_walk using wpAny_loadPart' hl
  all_goals first|exact ⟨_,rfl,h⟩|skip
theorem k9(l:Addr)(items:Array Value)(n:Nat)(dd:Option Addr)(sl:Array (Option Value))(x:Int)(u:Tok)(hx:x<=0)(hx2:-1000<=x)(h0:items.isEmpty=false):
  Meets (Builtin.«tuple.__mul__» ⟨[.ref l,.int x u],[]⟩) (fun _ R s=>s.heap.get? l=some { cls:=.type "tuple",dict:=dd,data:=.seq items n,slots:=sl }/\
   R (.ok (.ret (.ref s.heap.objs.size))) { s with heap:=s.heap.push { cls:=.type "tuple",data:=.seq #[] } }):=
 .of_wp fun prog w A R s h=>by
  obtain ⟨hp,g,d,tk,os⟩:=s;obtain ⟨hl,h⟩:=h;have f1:=AutoSeq1.idx_int;have f2:=AutoSeq1.sub_tuple_tuple;have g1:(decide (x < -(2 ^ 63))||decide (x>=2 ^ 63))=false:=by simp;lia
  have g2:(items.isEmpty||x==1)=false:=by rw [h0];simp;lia
  have g3:(decide (x<=0)||items.isEmpty)=true:=by simp [hx]
  wp_walk using wpAny_loadPart' hl
  try simp only [g1,Bool.false_eq_true,if_false]
  wp_walk using wpAny_loadPart' hl
  try simp only [g2,Bool.false_eq_true,if_false]
  wp_walk using wpAny_loadPart' hl
  try simp only [g3,if_true]
  all_goals exact ⟨_,rfl,h⟩
section
variable {prog:Program}{w:World}{A:Around}{E:Value->Shared->Prop}{s:Shared}
theorem sh{l:Addr}{its:List Value}{k:Int}{u:Tok}{Q:Value->Shared->Prop}(ht:s.heap.IsTuple l its.toArray)(h0:its≠[])(hk0:0<=k)(hk:k<=1000)(hi:its.length<=1000)
  (h1:k=1->Q (.ref l) s) (h2:k≠1->Q (.ref s.heap.objs.size) { s with heap:=s.heap.push { cls:=.type "tuple",data:=.seq (List.replicate k.toNat its).flatten.toArray } }):
  wpAny (model prog w) A (binaryOp .Mult (.ref l) (.int k u)) Q E s:=by
 obtain ⟨⟨cls,dd,data,sl⟩,e,hc,n,hd⟩:=ht;simp only at hc hd;subst hc hd;have he:its.toArray.isEmpty=false:=by cases its with|nil=>exact absurd rfl h0|cons a r=>rfl
 refine wpAny_binaryOp_repeat_ref (T:="tuple") (U:="int") (by decide) ⟨_,e,rfl⟩ (fun s'=>typeIs_int s' k u) gZ PySem.F.fills_int_mul PySem.F.slot_int_rmul lM PySem.F.slot_int_index.lookup
  (call_meets PySem.F.slot_int_rmul (typeIs_int s k u) PySem.F.entry_int_rmul (PySem.F.args_int_rmul_2 _ _) (jp k u l its.toArray n dd sl) ⟨e,rfl,⟨_,e,rfl⟩,?_⟩)
 by_cases hk1:k=1
 ·subst hk1
  exact call_meets PySem.F.slot_tuple_mul ⟨_,e,rfl⟩ PySem.F.entry_tuple_mul (PySem.F.args_tuple_mul_2 _ _) (km l its.toArray n dd sl u) ⟨e,h1 rfl⟩
 ·have h2':=h2 hk1
  by_cases hk2:k<=0
  ·refine call_meets PySem.F.slot_tuple_mul ⟨_,e,rfl⟩ PySem.F.entry_tuple_mul (PySem.F.args_tuple_mul_2 _ _) (k9 l its.toArray n dd sl k u hk2 (by lia) he) ⟨e,?_⟩
   have ek:k.toNat=0:=by lia
   rw [ek] at h2';exact h2'
  ·refine call_meets PySem.F.slot_tuple_mul ⟨_,e,rfl⟩ PySem.F.entry_tuple_mul (PySem.F.args_tuple_mul_2 _ _) (jC l its.toArray n dd sl k u (by lia) hk (by rw [List.size_toArray];exact hi) he) ⟨e,?_⟩
   have ef:∀(m:Nat) (acc:List Value),List.foldl (fun x1 x2=>x1++x2) acc.toArray (List.replicate m its.toArray)=(acc++(List.replicate m its).flatten).toArray:=by
    intro m
    induction m with
    |zero=>intro acc;simp
    |succ m ih=>
     intro acc;have e1:acc.toArray++its.toArray=(acc++its).toArray:=by simp
     rw [List.replicate_succ,List.foldl_cons,e1,ih,List.replicate_succ,List.flatten_cons,List.append_assoc]
   have e0:=ef k.toNat [];rw [List.nil_append] at e0;rw [e0];exact h2'
end
end L2
namespace L2
open PySem PySem.Spec PyProof.Rows
section
variable {X:Cx}
theorem vw:cB X (binaryOp .Add) (fun x y H Q=>∃a b ys,x=.ref a/\y=.ref b/\gG X.K H a []/\gG X.K H b ys/\Q (.ref b) H):=by
 intro pins s σ H x y v u Q I rx ry h;obtain ⟨a,b,ys,rfl,rfl,ha,hb,q⟩:=h;cases rx;cases ry;obtain ⟨its,r1,p1,_⟩:=I.tuple ha;obtain ⟨its2,r2,p2,_⟩:=I.tuple hb;obtain rfl:its=[]:=r1.zero;obtain ⟨⟨cls,dd,data,sl⟩,ho,hc,n,hd⟩:=id p1;obtain ⟨⟨cls2,dd2,data2,sl2⟩,ho2,hc2,n2,hd2⟩:=id p2;simp only at hc hd hc2 hd2;subst hc hd hc2 hd2
 exact concat_meets ⟨_,ho,rfl⟩ ⟨_,ho2,rfl⟩ noFill_tuple_add seq_tuple_add PySem.F.slot_tuple_add PySem.F.entry_tuple_add (PySem.F.args_tuple_add_2 _ _)
  (tuple_addW0 a b #[] its2.toArray n n2 dd dd2 sl sl2 rfl) ⟨ho,ho2,⟨.ref b,H,I,rfl,q⟩⟩
theorem wP{n:Nat}(hn:n.log2<2000)(hn0:0<n):cB X (binaryOp .FloorDiv) (rI (fun _ j=>j=(n:Int)) fun i j=>.int (i / j)):=opI fun i j _ _ _ _ _ hc q=>by
 subst hc;refine floordiv_int (by lia) ?_ (.inl (PyProof.noPylong_of_log2 (by simpa using Nat.lt_trans hn (by decide))))
 rw [Int.fdiv_eq_ediv_of_nonneg _ (by lia)]
 exact q
def uu(K:W.Frag)(b1 b2:Bool)(t:TA):TE:=fun σ H Q=>t σ H fun vs H1=>∃(l1 l2:Addr) (ks:List bR) (ys:List V),vs=[.ref l1,.ref l2]/\kZ K b1 H1 l1 (ks.map kV)/\kZ K b2 H1 l2 ys/\ks.length=ys.length/\0<ks.length/\ks.length<=1000/\
 ∀d,H1 d=none->Q (.ref d) (upd H1 d (.dK ((ks.zip ys).foldl (fun a p=>cZ a p.1 p.2) [])))
theorem k_{P:Program}{w:World}:∀{ks:List bR} {us:List Value},Vals (ks.map kV) us->Paired (fun k v=>(bJ P w).is k v=true) ks us
 |[],_,.nil=>.nil
 |_::_,_,.cons r t=>.cons (nO r) (k_ t)
theorem rQ:∀{ks:List bR} {ys:List V} {us:List Value} {kvs:List (bR×V)} {vs:List (bR×Value)},Vals ys us->KV kvs vs->
  KV ((ks.zip ys).foldl (fun a p=>cZ a p.1 p.2) kvs) ((ks.zip us).foldl (fun a p=>stored a p.1 p.2) vs)
 |[],_,_,_,_,_,r=>r
 |_::_,_,_,_,_,.nil,r=>r
 |k::ks,_,_,_,_,.cons ru t,r=>rQ (ks:=ks) t (KV.put r k ru)
theorem nJ:∀(ps:List (bR×V)) (kvs:List (bR×V)),(ps.foldl (fun a p=>cZ a p.1 p.2) kvs).length<=kvs.length+ps.length
 |[],kvs=>Nat.le_refl _
 |p::ps,kvs=>by
  have h1:=nJ ps (cZ kvs p.1 p.2);have h2:=eQ kvs p.1 p.2;rw [List.foldl_cons,List.length_cons];lia
theorem pV{a b:Expr}{ta:TA}{p p2 pos pos2:Pos}(b1 b2:Bool)(hc:X.calm=true)(hg:Gl X "zip")(hm:X.mg "zip"=none)(hg2:Gl X "dict")(hm2:X.mg "dict"=none)(ha:PA X [a,b] ta)
  (hs:starEach [a,b] X.env=[(false,eval a X.env),(false,eval b X.env)]:=by rfl) (hs2:starEach [b] X.env=[(false,eval b X.env)]:=by rfl)
  (hs3:starEach [Expr.Call (.Name "zip" p2) [a,b] [] pos2] X.env=[(false,eval (.Call (.Name "zip" p2) [a,b] [] pos2) X.env)]:=by rfl):
  PE X (.Call (.Name "dict" p) [.Call (.Name "zip" p2) [a,b] [] pos2] [] pos) (uu X.K b1 b2 ta):=by
 intro pins s σ H Q I h;refine Call_ (ld_blt I hg2 hm2 (by decide +kernel:bootBuiltins "dict"=some (.type "dict")) (PyProof.Rows.callWith_type1 ?_ hs3 rfl))
 rw [hs3];show wpAny _ _ (spliced ((false,_)::backTo pos [])) _ _ s;refine Calls.spliced_cons ?_;refine Call_ (ld_blt I hg hm (by decide +kernel:bootBuiltins "zip"=some (.type "zip")) (PyProof.Rows.callWith_type1 (thn (ha pos2 pins s σ H _ I h) fun us s1 ⟨vs,H1,I1,r1,q1⟩=>?_) (by rw [hs,hs2]) (by rw [hs2];rfl)))
 obtain ⟨l1,l2,ks,ys,e,q1,q2,hl,h0,hz,q⟩:=q1;subst e;obtain ⟨u1,u2,rfl,ru1,ru2⟩:=r1.two;cases ru1;cases ru2;obtain ⟨its1,rv1,sq1,z1⟩:=I1.src q1;obtain ⟨its2,rv2,sq2,z2⟩:=I1.src q2;refine oG sq1 sq2 fun h' hz' hTI hTO h1 h2 hsz hk=>?_;refine Calls.spliced_nil ?_;have e1:=rv1.length;have e2:=rv2.length;rw [List.length_map] at e1;have D:ZApart (s1.heap.objs.size+4) (s1.heap.objs.size+2) (s1.heap.objs.size+3) s1.heap.objs.size (s1.heap.objs.size+1):=by constructor<;>exact (show (_:Nat)≠(_:Nat) by lia)
 have lt:∀{c:Bool} {l:Addr} {us:Array Value},SrcSq c s1.heap l us->l<s1.heap.objs.size:=fun {c l us} z=>by
  cases c with
  |true=>obtain ⟨o,e,_⟩:=(show s1.heap.IsList l us from z);exact Heap.lt_size e
  |false=>obtain ⟨o,e,_⟩:=(show s1.heap.IsTuple l us from z);exact Heap.lt_size e
 have O:∀{l:Addr},l<s1.heap.objs.size->oW (s1.heap.objs.size+4) (s1.heap.objs.size+3) s1.heap.objs.size (s1.heap.objs.size+1) l:=fun {l} z=>⟨Nat.ne_of_lt (Nat.lt_of_lt_of_le z (Nat.le_add_right _ _)),Nat.ne_of_lt (Nat.lt_of_lt_of_le z (Nat.le_add_right _ _)),Nat.ne_of_lt z,Nat.ne_of_lt (Nat.lt_of_lt_of_le z (Nat.le_add_right _ _))⟩;refine kn (s:={ s1 with heap:=h' }) (knd:=bJ X.prog X.w) (ks:=ks) (xs:=its1) (ys:=its2) (I1.ok.hd hc) D (O (lt sq1)) (O (lt sq2)) hz' hTI ⟨_,_,hTO⟩ h1 h2 (sq1.keep fun o e=>hk _ o e) (sq2.keep fun o e=>hk _ o e) (k_ rv1) (by lia) (by lia) (by lia) ?_
 intro s' o1 o2 o3 hd hkeep;have hd':s'.heap.DictOf (bJ X.prog X.w) h'.objs.size ((ks.zip its2).foldl (fun a p=>stored a p.1 p.2) []):=hd;have hbig:=I1.big;have hnew:∀c o,s1.heap.get? c=some o->s'.heap.get? c=some o:=fun c o e=>by
  have z:=Heap.lt_size e;exact hkeep c o (Nat.ne_of_lt (Nat.lt_of_lt_of_le z (Nat.le_add_right _ _))) (Nat.ne_of_lt (Nat.lt_of_lt_of_le z (Nat.le_add_right _ _))) (Nat.ne_of_lt z) (Nat.ne_of_lt (Nat.lt_of_lt_of_le z (Nat.le_add_right _ _))) (hk c o e)
 have hn:H1 h'.objs.size=none:=I1.hok.fresh (by lia)
 obtain ⟨hh',g',d',t',os'⟩:=s';obtain rfl:os'=s1.os:=o1;obtain rfl:g'=s1.gens:=o2;obtain rfl:d'=s1.drawn:=o3;refine ⟨.ref h'.objs.size,_,I1.laid (a:=h'.objs.size) (o:=.dK ((ks.zip ys).foldl (fun a p=>cZ a p.1 p.2) [])) (t':=t') hnew (by lia) ?_,rfl,q _ hn⟩
 refine vH ?_ ?_ (rQ rv2 .nil) hd'
 ·have:=nJ (ks.zip ys) []
  rw [List.length_zip] at this;have h3:(1000:Nat)<=sizeLine:=by decide
  simp only [List.length_nil] at this;lia
 ·exact beq_eq_false_iff_ne.mpr (Nat.ne_of_gt (Nat.lt_of_lt_of_le hbig (by rw [hsz];exact Nat.le_add_right _ _)))
end
end L2
namespace Tw
open PySem L2
end Tw
namespace L2
open PySem PySem.Spec PyProof.Rows
section
variable {X:Cx}
theorem jM{M:Model}{A:Around}{E:Value->Shared->Prop}{s:Shared}{β:Type}{n:Nat}(f:Nat->β->Sem (ForInStep β))(I:Nat->β->Shared->Prop)(Q:β->Shared->Prop)
  (turn:∀i b s,i<n->I i b s->wpAny M A (f i b) (fun r s'=>match r with|.yield b'=>I (i+1) b' s'|.done b'=>Q b' s') E s)
  (fin:∀b s,I n b s->Q b s) (b:β) (h:I 0 b s):wpAny M A (forIn [0:n] b f) Q E s:=by
 rw [Std.Legacy.Range.forIn_eq_forIn_range'];have hsz:([0:n]:Std.Legacy.Range).size=n:=by simp [Std.Legacy.Range.size]
 show wpAny M A (forIn (List.range' 0 ([0:n]:Std.Legacy.Range).size 1) b f) Q E s;rw [hsz];refine wpAny_forIn_list f (fun l c s=>∃i,i<=n/\l=List.range' i (n-i) 1/\I i c s) Q ?_ ?_ _ b ⟨0,Nat.zero_le _,rfl,h⟩
 ·rintro x rest c s ⟨i,hi,hl,hI⟩
  have hlt:i<n:=by
   rcases Nat.lt_or_ge i n with h'|h'
   ·exact h'
   ·rw [show n-i=0 by lia] at hl;simp at hl
  obtain ⟨k,hk⟩:∃k,n-i=k+1:=⟨n-i-1,by lia⟩
  rw [hk,List.range'_succ] at hl;obtain ⟨rfl,rfl⟩:=List.cons.inj hl;refine wpAny_mono (turn x c s hlt hI) (fun r s' h'=>?_) fun _ _ e=>e;cases r with
  |done c'=>exact h'
  |yield c'=>exact ⟨x+1,by lia,by congr 1;lia,h'⟩
 ·rintro c s ⟨i,hi,hl,hI⟩
  have:i=n:=by
   rcases Nat.lt_or_ge i n with h'|h'
   ·obtain ⟨k,hk⟩:∃k,n-i=k+1:=⟨n-i-1,by lia⟩
    rw [hk,List.range'_succ] at hl;cases hl
   ·lia
  subst this;exact fin _ _ hI
theorem mj(l:Addr)(items:Array Value)(n:Nat)(dd:Option Addr)(sl:Array (Option Value))(x:Value)(e:Value->Bool)(he:∀y,y∈items->MeetsSeq.EqGives y x (e y))(j:Nat)(hj:j<items.size)(hit:e items[j]=true)
  (hno:∀m (hm:m<items.size),m<j->e items[m]=false):
  Meets (Builtin.«tuple.index» ⟨[.ref l,x],[]⟩) (fun _ R s=>s.heap.get? l=some { cls:=.type "tuple",dict:=dd,data:=.seq items n,slots:=sl }/\R (.ok (.ret (.int j s.toks))) { s with toks:=s.toks+1 }):=
 .of_wp fun prog w A R s h=>by
  obtain ⟨hp,g,d,tk,os⟩:=s;obtain ⟨hl,h⟩:=h
  wp_walk using AutoSeq1.wpAny_loadPart' hl
  refine jM (n:=min items.size items.size) _ (fun i (b:Option _×_) s'=>b.1=none/\i<=j/\s'=⟨hp,g,d,tk,os⟩) _ ?turn ?fin _ ?strt
  case turn=>
   rintro i b s' hi ⟨hb,hij,rfl⟩
   have hlt:i<items.size:=by lia
   have hi':items[i]?=some items[i]:=by simp [hlt]
   simp only [hi'];refine wpAny_bind (he _ (Array.getElem_mem hlt) prog w _ _ _ _ ?_)
   by_cases hx:i=j
   ·subst hx
    rw [hit]
    wp_walk
    exact ⟨_,rfl,h⟩
   ·rw [hno i hlt (by lia)]
    wp_walk
    exact ⟨rfl,by lia,rfl⟩
  case fin=>
   rintro ⟨b1,b2⟩ s' ⟨hb,hij,rfl⟩
   lia
  case strt=>
   exact ⟨rfl,Nat.zero_le _,rfl⟩
theorem Inv.tupD{pins:List (Addr×Obj)}{σ:St}{H:Hp}{s:Shared}{a:Addr}{xs:List V}(I:Inv X pins σ H s)(h:H a=some (.tup xs)):
  ∃(its:List Value) (n:Nat) (sl:Array (Option Value)),Vals xs its/\s.heap.get? a=some { cls:=.type "tuple",dict:=none,data:=.seq its.toArray n,slots:=sl }:=by
 obtain ⟨z,its,r,⟨cls,dd,data,slots⟩,e,⟨c,n,d⟩,dn⟩:=I.hok a _ h;simp only at c d dn;subst c d dn;exact ⟨its,n,slots,r,e⟩
theorem fu:∀{names:List Str} {us:List Value},Vals (names.map V.str) us->∀(j:Nat) (h:j<us.length),∃(y:Str) (t:Tok),names[j]?=some y/\us[j]=.str y t
 |[],us,r,j,h=>by cases r;exact absurd h (Nat.not_lt_zero _)
 |x::names,us,r,j,h=>by
  rw [List.map_cons] at r;cases r with
  |cons r1 r2=>
   cases j with
   |zero=>obtain ⟨t,rfl⟩:=r1;exact ⟨x,t,rfl,rfl⟩
   |succ j=>obtain ⟨y,t,h1,h2⟩:=fu r2 j (by simpa using h);exact ⟨y,t,by simpa using h1,by simpa using h2⟩
def EY:V->List V->Hp->VK->Prop:=fun x vs H Q=>∃(a:Addr) (names:List Str) (z:Str) (j:Nat),x=.ref a/\vs=[.str z]/\H a=some (.tup (names.map V.str))/\names.length<=1000/\names[j]?=some z/\(∀m,m<j->names[m]?≠some z)/\Q (.int (j:Int)) H
theorem rR:vV X "tuple.index" EY:=by
 intro pins s σ H x vs v us Q I rx rv h;obtain ⟨a,names,z,j,rfl,rfl,ha,hz,hj,hno,q⟩:=h;cases rx;obtain ⟨u,rfl,ru⟩:=rv.one;obtain ⟨t,rfl⟩:=ru;obtain ⟨its,n,sl,r,e⟩:=I.tupD ha;have hl:=r.length;rw [List.length_map] at hl;have hjl:j<names.length:=by
  rcases Nat.lt_or_ge j names.length with z'|z'
  ·exact z'
  ·rw [List.getElem?_eq_none z'] at hj;cases hj
 have hjs:j<its.toArray.size:=by rw [List.size_toArray];lia
 refine call_meets PySem.F.slot_tuple_index ⟨_,e,rfl⟩ PySem.F.entry_tuple_index (PySem.F.args_tuple_index_2 _ _)
  (mj a its.toArray n none sl (.str z t) (fun v=>match v with|.str y _=>y==z|_=>false) (fun y hy=>?_) j hjs ?_ fun m hm hmj=>?_) ⟨e,?_⟩
 ·obtain ⟨m,hm,rfl⟩:=List.getElem_of_mem (by simpa using hy:y∈its)
  obtain ⟨y',t',h1,h2⟩:=fu r m hm;rw [h2];exact eqGives_str y' z t' t
 ·obtain ⟨y',t',h1,h2⟩:=fu r j (by lia)
  rw [hj] at h1;cases h1;simp [h2]
 ·obtain ⟨y',t',h1,h2⟩:=fu r m (by rw [List.size_toArray] at hm;exact hm)
  have h3:=hno m hmj;rw [h1] at h3;have ne:¬y'=z:=fun e=>h3 (by rw [e])
  simp [h2,ne]
 ·exact ⟨.int (j:Int),H,I.tok _,⟨_,rfl⟩,q⟩
def tTM(r:V->List V->Hp->VK->Prop)(to:TE)(t:TA):TE:=fun σ H Q=>to σ H fun x H1=>(∃a xs,x=.ref a/\H1 a=some (.tup xs))/\t σ H1 fun xs H2=>r x xs H2 Q
theorem F2{o e:Expr}{es:List Expr}{to:TE}{t:TA}{name:Str}{apos cpos:Pos}{id:String}{r:V->List V->Hp->VK->Prop}(slot:Slot "tuple" name id)(hty:typeOf (.builtin id)=pure (.type "method_descriptor"))(hm:vV X id r)(ho:PE X o to)(ha:PA X (e::es) t)
  (hbase:attributeBase o name X.env (eval o X.env)=eval o X.env:=by rfl)
  (hfew:((backTo cpos (starEach (e::es) X.env)).all (fun x=>!x.1)&&(backToKw cpos (keywordEach [] X.env)).all (fun x=>x.1.isSome)
   && decide ((e::es).length+([]:List Keyword).length+(if ([]:List Keyword).isEmpty then 0 else 1)<30))=true:=by rfl)
  (hline:(apos.endLine==cpos.line)=true:=by rfl) (hs:starEach (e::es) X.env=(false,eval e X.env)::starEach es X.env:=by rfl) (hplain:(backTo cpos (starEach es X.env)).any (·.1)=false:=by rfl):
  PE X (.Call (.Attribute o name apos) (e::es) [] cpos) (tTM r to t):=by
 intro pins s σ H Q I h;refine wpAny_Call_method_late hbase hfew hline rfl (thn (ho pins s σ H _ I h) fun v s1 ⟨x,H1,I1,r1,⟨a,xs,ex,ea⟩,q1⟩=>?_);subst ex;cases r1;obtain ⟨its,n,sl,rv,eo⟩:=I1.tupD ea;refine ⟨"tuple",id,PySem.F.plainAttrs_tuple,slot,hty,⟨_,eo,rfl⟩,fun b eb=>by cases eb;exact ⟨_,eo,rfl⟩,?_⟩
 have hA:=ha cpos pins s1 σ H1 _ I1 q1;rw [hs] at hA ⊢;refine Calls.callWith_builtin (by show (false||(backTo cpos (starEach es X.env)).any (·.1))=false;rw [hplain]<;>rfl) (Calls.evalArgs_plain ?_)
 exact thn hA fun us s2 ⟨vs,H2,I2,r2,q2⟩=>hm pins s2 σ H2 (.ref a) vs _ us Q I2 rfl r2 q2
end
end L2
namespace L2
open PySem PySem.Spec PyProof.Rows
theorem fb{h base:Heap}{S:List Addr}:∀{l:List Env},h.FunFrames base l->(∀b∈fA l,b∈S)->h.FunFrames (W.hideAll h S) l
 |[],_,_=>trivial
 |env::r,hl,hs=>by
  obtain ⟨hk,⟨L,o,hf,hn,ho,hd⟩,hr⟩:=hl;have hL:L∈S:=hs L (by unfold fA;rw [List.filterMap_cons,hf];exact List.mem_cons_self)
  exact ⟨hk,⟨L,o,hf,W.hideAll_none S hL,ho,hd⟩,fb hr fun b hb=>hs b (by unfold fA;rw [List.filterMap_cons,hf];exact List.mem_cons_of_mem _ hb)⟩
def oS(P:Program)(w:World)(C:Addr):mK:=fun outer H s E e s'=>∃(ea:Addr) (H':Hp) (B:Heap) (a0:Value),e=.ref ea/\s'.os=s.os/\AllBare s'.gens/\Un (fA outer) [] H H' s.heap s'.heap/\HOk P w H' s'.heap/\
 Heap.FlyingW B outer ea (.ref C) a0 s'.heap/\(∀b u,H' b=some u->∃o,B.get? b=some o)/\(∀b o,s.heap.get? b=some o->b∉fA outer->∃o',B.get? b=some o')/\E (.ref C) none H'
theorem lD{P:Program}{w:World}{H:Hp}{h h' B:Heap}(hok:HOk P w H h)(k:B.StaysIn h)(k':B.StaysIn h')(sT:∀b u,H b=some u->∃o,B.get? b=some o):HOk P w H h':=fun a o e=>
 (hok a o e).stay (fun b u hb q=>by
  obtain ⟨v,hv⟩:∃v,B.get? b=some v:=by
   rcases hb with rfl|z
   ·exact sT _ _ e
   ·exact sT _ _ z
  have:=k b v hv;rw [q] at this;cases this;exact k' b _ hv) (fun _ q=>q) fun _ _ q=>q
theorem pA{fs:List Addr}{H H':Hp}{h h1 h2 B:Heap}(un:Un fs [] H H' h h1)(k1:B.StaysIn h1)(k2:B.StaysIn h2)(up:h1.UpToSlots h2)(sA:∀b o,h.get? b=some o->b∉fs->∃o',B.get? b=some o')
  (nf:∀b∈fs,∀o,h.get? b=some o->∀vs,o.data≠.fields vs) (fr:∀b∈fs,H b=none):Un fs [] H H' h h2 where
 keep:=fun b o q n hb hx=>by
  have q1:=un.keep b o q n hb hx;obtain ⟨o',ho'⟩:=sA b o q hb;have:=k1 b o' ho';rw [q1] at this;cases this;exact k2 b _ ho'
 slot:=fun b o q n hb hx=>by
  obtain ⟨sl,q1⟩:=un.slot b o q n hb hx;obtain ⟨sl2,q2⟩:=up b _ q1 (nf b hb o q);exact ⟨sl2,q2⟩
 free:=un.free
 there:=fun b o q hx=>by
  by_cases hb:b∈fs
  ·obtain ⟨sl,q1⟩:=un.slot b o q (fr b hb) hb hx
   obtain ⟨sl2,q2⟩:=up b _ q1 (nf b hb o q);exact ⟨_,q2⟩
  ·obtain ⟨o',ho'⟩:=sA b o q hb
   exact ⟨o',k2 b o' ho'⟩
 tups:=un.tups
 frzs:=un.frzs
 tbls:=un.tbls
section
variable {P:Program}{w:World}{K:W.Frag}{mg:Str->Option Value}{base:Heap}{N:List Str}{qual:Str}{scope:Scope}{f C:Addr}{cd:Value}{A:Around}{outer:List Env}{s0:Shared}{H0:Hp}{E:XK}
theorem nQ{env:Env}{L:Addr}{l:List Env}(h:env.frame=some L):fA (env::l)=L::fA l:=by unfold fA;rw [List.filterMap_cons,h]
theorem Fw:da (oS P w C) (dA (oS P w C) P w K mg base N qual scope f cd A outer s0 H0 E) E:=by
 intro pins σ H s e s' I hx;obtain ⟨ea,H',B,a0,rfl,hos,hb,un,hok,hfl,sT,sA,hE⟩:=hx;have hsk:(dA (oS P w C) P w K mg base N qual scope f cd A outer s0 H0 E).stack=envOfC qual scope s0.heap.objs.size f cd::outer:=rfl;have hfr:(envOfC qual scope s0.heap.objs.size f cd).frame=some s0.heap.objs.size:=rfl;have hfs:fA (envOfC qual scope s0.heap.objs.size f cd::outer)=s0.heap.objs.size::fA outer:=nQ hfr;rw [hsk] at un hfl sA;show wpAny (model P w) (A.deeper (envOfC qual scope s0.heap.objs.size f cd)) (leaving (envOfC qual scope s0.heap.objs.size f cd) (.ref ea)) (fun _ s''=>oS P w C outer H0 s0 E (.ref ea) s'') (fun e' s''=>oS P w C outer H0 s0 E e' s'') s';refine wpAny_leaves_onW I.ok.frames hfr hfl fun h' hfl' hup=>?_;have u1:Un (fA outer) [] H0 H s0.heap s.heap:=I.base;have nofr:∀{b:Addr} {o:Obj},s0.heap.get? b=some o->b∉fA outer->b∉fA (envOfC qual scope s0.heap.objs.size f cd::outer):=fun {b o} q hb z=>by
  rw [hfs] at z;rcases List.mem_cons.mp z with e|z
  ·exact Nat.lt_irrefl _ (e▸Heap.lt_size q)
  ·exact hb z
 have un2:Un (fA (envOfC qual scope s0.heap.objs.size f cd::outer)) [] H H' s.heap h':=by
  refine pA un hfl.1 hfl'.1 hup sA (fun b hb o q vs=>?_) fun b hb=>?_
  ·obtain ⟨_,o',ho',hd⟩:=I.stack.mem (show b∈_ from hb)
   rw [q] at ho';cases ho';exact hd vs
  ·exact I.stkFree b hb
 refine ⟨ea,H',B,a0,rfl,hos.trans I.os,hb,?_,lD hok hfl.1 hfl'.1 sT,hfl',sT,fun b o q hb=>?_,hE⟩
 ·refine ⟨fun b o q n hb hx=>?_,fun b o q n hb hx=>?_,fun b o q n hx=>?_,fun b o q hx=>?_,fun b xs q=>un2.tups b xs (u1.tups b xs q),fun b o u q=>un2.frzs b o u (u1.frzs b o u q),fun b ps q=>?_⟩
  ·exact un2.keep b o (u1.keep b o q n hb hx) (u1.free b o q n hx) (nofr q hb) hx
  ·obtain ⟨sl,q1⟩:=u1.slot b o q n hb hx
   obtain ⟨sl2,q2⟩:=un2.slot b _ q1 (u1.free b o q n hx) (by rw [hfs];exact List.mem_cons_of_mem _ hb) hx
   exact ⟨sl2,q2⟩
  ·obtain ⟨o1,q1⟩:=u1.there b o q hx
   exact un2.free b o1 q1 (u1.free b o q n hx) hx
  ·obtain ⟨o1,q1⟩:=u1.there b o q hx
   exact un2.there b o1 q1 hx
  ·obtain ⟨m1,e1⟩:=u1.tbls b ps q
   obtain ⟨m2,e2⟩:=un2.tbls b _ e1;exact ⟨m1++m2,by rw [e2,Array.append_assoc]⟩
 ·obtain ⟨o1,q1⟩:=u1.there b o q (by simp)
  exact sA b o1 q1 (nofr q hb)
structure ExcAt(K:W.Frag)(C:Addr):Prop where
 at_:∃(nm q:Str) (Nn:Addr) (bs bm bmB:List Value) (hdct:Bool) (sn:List Str) (sub:List Value) (ab:Bool) (col:Option Bool) (dd:Option Addr) (k0 k1 k2 k3 k5:Option Value) (newId initId Bs:String) (mN:Str->Option Value),
  (∀h:Heap,K.In h->h.get? C=some (excClassObj nm q C Nn bs bm hdct sn sub ab col dd k0 k1 k2 k3 k5 newId)/\h.Ns Nn mN/\OwnTail h bmB bm)/\mN "__init__"=none/\ExcBaseFacts Bs newId initId bmB/\bmB.contains (.type Bs)=true/\bm.contains (.type "BaseException")=true
theorem ObjOk.obj{P:Program}{w:World}{H:Hp}{h:Heap}{a:Addr}{o:HO}(x:ObjOk P w H h a o):∃v,h.get? a=some v:=by
 cases o with
 |lst xs=>obtain ⟨_,_,_,_,e⟩:=x;exact ⟨_,e⟩
 |tup xs=>obtain ⟨_,_,_,_,e,_⟩:=x;exact ⟨_,e⟩
 |dK kvs=>obtain ⟨_,_,_,_,o,_,_,e,_⟩:=x;exact ⟨_,e⟩
 |dT kvs=>obtain ⟨_,_,_,_,o,_,_,e,_⟩:=x;exact ⟨_,e⟩
 |set S n=>obtain ⟨o,_,_,_,e,_⟩:=x;exact ⟨_,e⟩
 |ins C dx fs=>obtain ⟨_,_,_,e,_⟩:=x;exact ⟨_,e⟩
 |own y=>obtain ⟨_,e⟩:=x;exact ⟨_,e⟩
 |xd fs=>obtain ⟨_,⟨_,_,_,e,_⟩,_⟩:=x;exact ⟨_,e⟩
 |rng lo hi=>obtain ⟨_,_,_,e⟩:=x;exact ⟨_,e⟩
 |frz ob u=>obtain ⟨e,_⟩:=x;exact ⟨_,e⟩
 |tbl ps=>exact ⟨_,(show h.get? a=some _ from x)⟩
 |met f y=>exact ⟨_,(show h.get? a=some _ from x)⟩
 |ext φ=>obtain ⟨_,⟨_,e⟩,_⟩:=x;exact ⟨_,e⟩
theorem xo{fs:List Addr}{L:Addr}{H0 H H':Hp}{h0 h h':Heap}(u1:Un fs [] H0 H h0 h)(un2:Un (L::fs) [] H H' h h')(hL:h0.objs.size<=L):Un fs [] H0 H' h0 h':=by
 have nofr:∀{b:Addr} {o:Obj},h0.get? b=some o->b∉fs->b∉L::fs:=fun {b o} q hb z=>by
  rcases List.mem_cons.mp z with e|z
  ·exact Nat.lt_irrefl _ (Nat.lt_of_lt_of_le (e▸Heap.lt_size q) hL)
  ·exact hb z
 refine ⟨fun b o q n hb hx=>un2.keep b o (u1.keep b o q n hb hx) (u1.free b o q n hx) (nofr q hb) hx,fun b o q n hb hx=>?_,fun b o q n hx=>?_,fun b o q hx=>?_,fun b xs q=>un2.tups b xs (u1.tups b xs q),fun b o u q=>un2.frzs b o u (u1.frzs b o u q),fun b ps q=>?_⟩
 ·obtain ⟨sl,q1⟩:=u1.slot b o q n hb hx
  obtain ⟨sl2,q2⟩:=un2.slot b _ q1 (u1.free b o q n hx) (List.mem_cons_of_mem _ hb) hx;exact ⟨sl2,q2⟩
 ·obtain ⟨o1,q1⟩:=u1.there b o q hx
  exact un2.free b o1 q1 (u1.free b o q n hx) hx
 ·obtain ⟨o1,q1⟩:=u1.there b o q hx
  exact un2.there b o1 q1 hx
 ·obtain ⟨m1,e1⟩:=u1.tbls b ps q
  obtain ⟨m2,e2⟩:=un2.tbls b _ e1;exact ⟨m1++m2,by rw [e2,Array.append_assoc]⟩
def qj(E:XK)(C:Addr):TS:=fun _ _ H=>E (.ref C) none H
theorem u4{x msg:Str}{np cpos pos apos:Pos}{jj}(X:ExcAt K C)(hm:mg x=some (.ref C))(hg:Gl (dA (oS P w C) P w K mg base N qual scope f cd A outer s0 H0 E) x)
  (hd:(x==("__debug__":Str))=false:=by decide)
  (hs:starEach [.Constant (.str msg) jj apos] (dA (oS P w C) P w K mg base N qual scope f cd A outer s0 H0 E).env=[(false,eval (.Constant (.str msg) jj apos) (dA (oS P w C) P w K mg base N qual scope f cd A outer s0 H0 E).env)]:=by rfl):
  PS (dA (oS P w C) P w K mg base N qual scope f cd A outer s0 H0 E) (.Raise (some (.Call (.Name x np) [.Constant (.str msg) jj apos] [] cpos)) none pos) (qj E C):=by
 intro pins s σ H D I h;obtain ⟨nm,q,Nn,bs,bm,bmB,hdct,sn,sub,ab,col,dd,k0,k1,k2,k3,k5,newId,initId,Bs,mN,hX,hni,FB,hBs,hbase⟩:=X.at_
 refine wpAny_Raise_call_subU (C:=C) (nm:=nm) (q:=q) (N:=Nn) (bs:=bs) (bm:=bm) (hdct:=hdct) (sn:=sn) (sub:=sub) (ab:=ab) (col:=col) (dd:=dd) (k0:=k0) (k1:=k1) (k2:=k2) (k3:=k3) (k5:=k5) FB hBs FB (mN:=mN) hbase (I.ok.hd rfl) (by rw [hs];rfl) hni
  (ld_glob I hg hm ⟨rfl,?_⟩ hd)
 have hA:=(qx tX vz hs) cpos pins s σ H (fun xs H1=>xs.length=1/\E (.ref C) none H1) I ⟨rfl,h⟩;rw [hs] at hA ⊢;refine Calls.evalArgs_plain (wpAny_mono hA (fun vs s₂ h₂=>?_) fun _ _ y=>y);obtain ⟨vv,H1,I1,r,hlen,hE⟩:=h₂;obtain ⟨hC,hN,T⟩:=hX s₂.heap I1.kIn;refine ⟨rfl,?_,hC,hN,T,fun h' e hx=>?_⟩
 ·show vs.length<=sizeLine
  rw [<- r.length,hlen]
  decide
 have hfr:(envOfC qual scope s0.heap.objs.size f cd).frame=some s0.heap.objs.size:=rfl;have hfs:fA (envOfC qual scope s0.heap.objs.size f cd::outer)=s0.heap.objs.size::fA outer:=nQ hfr;have kB:(W.hideAll s₂.heap (fA (envOfC qual scope s0.heap.objs.size f cd::outer))).StaysIn s₂.heap:=fun b o e=>W.of_hideAll _ e;show wpAny (model P w) (A.deeper (envOfC qual scope s0.heap.objs.size f cd)) (leaving (envOfC qual scope s0.heap.objs.size f cd) (.ref e)) (fun _ s''=>oS P w C outer H0 s0 E (.ref e) s'') (fun e' s''=>oS P w C outer H0 s0 E e' s'') _;refine wpAny_leaves_madeW I1.ok.frames hfr kB (fb I1.stack fun b hb=>hb) hx fun h'' t hfl _ _ hup=>?_;have up2:s₂.heap.UpToSlots h'':=(Heap.UpToSlots.of_keeps hx.keeps).trans hup;have inB:∀{b:Addr} {o:Obj},s₂.heap.get? b=some o->b∉fA (envOfC qual scope s0.heap.objs.size f cd::outer)->(W.hideAll s₂.heap (fA (envOfC qual scope s0.heap.objs.size f cd::outer))).get? b=some o:=fun e n=>W.hideAll_get _ e n;have sT:∀b u,H1 b=some u->∃o,(W.hideAll s₂.heap (fA (envOfC qual scope s0.heap.objs.size f cd::outer))).get? b=some o:=fun b u e=>by
  obtain ⟨v,hv⟩:=ObjOk.obj (I1.hok b u e);exact ⟨v,inB hv fun z=>by rw [I1.stkFree b z] at e;cases e⟩
 have un2:Un (fA (envOfC qual scope s0.heap.objs.size f cd::outer)) [] H1 H1 s₂.heap h'':=by
  refine pA Un.refl kB hfl.1 up2 (fun b o q hb=>⟨o,inB q hb⟩) (fun b hb o q vs=>?_) fun b hb=>I1.stkFree b hb;obtain ⟨_,o',ho',hd'⟩:=I1.stack.mem (show b∈_ from hb);rw [q] at ho';cases ho';exact hd' vs
 rw [hfs] at un2;refine ⟨e,H1,_,.ref t,rfl,I1.os,I1.bare,xo I1.base un2 (Nat.le_refl _),lD I1.hok kB hfl.1 sT,hfl,sT,fun b o q hb=>?_,hE⟩;obtain ⟨o1,q1⟩:=I1.base.there b o q (fun z=>absurd (show b∈([]:List Addr) from z) (by simp))
 refine ⟨o1,inB q1 fun z=>?_⟩;rw [hfs] at z;rcases List.mem_cons.mp z with e'|z
 ·exact Nat.lt_irrefl _ (e'▸Heap.lt_size q)
 ·exact hb z
end
abbrev Cx.marked(X:Cx)(e:Value):Cx:={ X with A:=X.A.mark (some e),calm:=false,xe:=fun _ _=>False }
section
variable {X:Cx}{pins:List (Addr×Obj)}{σ:St}{H:Hp}{s:Shared}{e:Value}
theorem Cx.Ok.mark(ok:X.Ok)(e:Value):(X.marked e).Ok:=
 ⟨ok.mod,ok.kind,ok.glob,ok.blt,ok.above,ok.inj,ok.has,ok.cab,fun z=>(Bool.noConfusion z),ok.frames,ok.stk,ok.exf,ok.bs,ok.bsz,ok.noex,ok.exfs,ok.funs,ok.frf⟩
theorem Inv.mark(I:Inv X pins σ H s)(e:Value):Inv (X.marked e) pins σ H s:=⟨I.ok.mark e,I.os,I.bare,I.base,I.loc,I.cell,I.free,I.freeC,I.pin,I.hok,I.len⟩
theorem Inv.unmark(ok:X.Ok)(I:Inv (X.marked e) pins σ H s):Inv X pins σ H s:=⟨ok,I.os,I.bare,I.base,I.loc,I.cell,I.free,I.freeC,I.pin,I.hok,I.len⟩
theorem SP.unmark{D:Ends}{f:Flow}{s':Shared}(ok:X.Ok)(h:SP (X.marked e) pins D f s'):SP X pins D f s':=by
 cases f with
 |next=>obtain ⟨σ',H',I,q⟩:=h;exact ⟨σ',H',I.unmark ok,q⟩
 |brk=>obtain ⟨σ',H',I,q⟩:=h;exact ⟨σ',H',I.unmark ok,q⟩
 |cont=>obtain ⟨σ',H',I,q⟩:=h;exact ⟨σ',H',I.unmark ok,q⟩
 |ret u=>obtain ⟨v,σ',H',I,r,q⟩:=h;exact ⟨v,σ',H',I.unmark ok,r,q⟩
def uI(C:Addr)(sp:Sp)(dvs:List V)(ta:TA)(ts:TS):TS:=fun D σ H=>ta σ H fun vs H1=>sp (vs++dvs) H1 (fun _ H2=>D.nx σ H2) (fun _ _ H2=>ts D σ H2)
theorem pN{C f:Addr}{k:Nat}{fd:FuncData}{ps:List Str}{sp:Sp}{dvs:List V}{ds:List Value}{x cx:Str}{p cp ep np hpos pos:Pos}{e:Expr}{es:List Expr}{ta:TA}{b₀:Stmt}{suite:List Stmt}{ts:TS}
  (hst:X.stack=X.env::X.outer) (hfL:X.env.frame=some X.env.locals) (F:FnOk X.prog X.w X.K X.mg X.base (oS X.prog X.w C) k f fd ps sp) (hr:Room k X.A) (hg:Gl X x) (hm:X.mg x=some (.ref f)) (hk:W.keepIn X.K (.ref f)=true) (hb:Binds X.K fd ps ds) (hd:Vals dvs ds)
  (ha:PA X.nox (e::es) ta) (EX:ExcAt X.K C) (hgC:Gl X cx) (hmC:X.mg cx=some (.ref C)) (hsu:∀ea:Addr,qW (X.marked (.ref ea)) (b₀::suite) ts)
  (hdb:(x==("__debug__":Str))=false:=by decide) (hdC:(cx==("__debug__":Str))=false:=by decide) (he:starEach (e::es) X.env=(false,eval e X.env)::starEach es X.env:=by rfl) (hpl:(backTo cp (starEach es X.env)).any (·.1)=false:=by rfl)
  (hsw:swapsWith (.Call (.Name x p) (e::es) [] cp) none ep.line X.env=pure false:=by rfl):
  PS X (.Try [.Expr (.Call (.Name x p) (e::es) [] cp) ep] [.ExceptHandler (some (.Name cx np)) none (b₀::suite) hpos] [] [] pos) (uI C sp dvs ta ts):=by
 intro pins s σ H D I h;refine wpAny_Try_except (wpAny_execs_cons (wpAny_Expr_any ?_ I.quiet hsw));refine wpAny_Call_Name_kw (ld_glob I hg hm ?_ hdb);refine W.callWith_K (h₀:=X.base) I.ok.mod.kin hk (wpAny_mono (ha cp pins s σ H _ (I.wish _) h) (fun us s1 ⟨vs,H1,I1',r,q⟩=>?_) fun _ _ z=>False.elim z) he hpl;have I1:Inv X pins σ H1 s1:=I1'.unwish;refine ⟨I1.kIn,?_⟩;have r2:Vals (vs++dvs) (us++ds):=r.append hd;have hl:(us++ds).length=ps.length:=by rw [<- r2.length];exact F.len _ _ _ _ q
 refine wpAny_call (codeAny_mono (F.run X.A X.stack s1 H1 ⟨us,[]⟩ (us++ds) (vs++dvs) _ _ hr I1.env0 (hb s1 us I1.kIn hl) r2 q) fun rr s' hq=>?_);cases rr with
 |ok fl=>
  cases fl with
  |ret u=>
   obtain ⟨x',H2,I2,_,q2⟩:=I1.after hq;exact wpAny_execs_nil (wpAny_execs_nil ⟨σ,H2,I2,q2⟩)
  |next=>exact False.elim hq
  |brk=>exact False.elim hq
  |cont=>exact False.elim hq
 |error er=>
  obtain ⟨ea,H',B,a0,rfl,hos,hbare,un,hok,hfl,sT,sA,hE⟩:=hq;obtain ⟨nm,qn,Nn,bs,bm,bmB,hdct,sn,sub,ab,col,dd,k0,k1,k2,k3,k5,newId,initId,Bs,mN,hX,hni,FB,hBs,hbase⟩:=EX.at_;have nf:∀b∈fA X.stack,∀o,s1.heap.get? b=some o->∀vs,o.data≠.fields vs:=fun b hb' o q' vs=>by
   obtain ⟨_,o',ho',hd'⟩:=I1.stack.mem (show b∈_ from hb');rw [q'] at ho';cases ho';exact hd' vs
  have shift:∀h':Heap,B.StaysIn h'->s'.heap.UpToSlots h'->Inv X pins σ H' { s' with heap:=h' }:=fun h' k up=>
   I1.call' (s':={ s' with heap:=h' }) hos (pA un hfl.1 k up sA nf fun b hb'=>I1.stkFree b hb') (lD hok hfl.1 k sT) hbare fun b z=>absurd (show b∈([]:List Addr) from z) (by simp)
  rw [hst] at hfl;have hfr:X.A.frames=some (X.env::X.outer):=by rw [<- hst];exact I1.ok.frames
  refine wpAny_looks_onW hfr hfL hfl fun h4 held4 up4=>?_;refine wpAny_landsW held4 fun h5 hfl5 up5=>?_;have I5:=(shift h5 hfl5.1 (up4.trans up5)).mark (.ref ea);obtain ⟨hC,_,_⟩:=hX h5 I5.kIn;obtain ⟨ob,hob,hobc⟩:=hfl5.there;refine wpAny_handleBy_cons (codeAny_handlers_test (ld_glob I5 hgC hmC ?_ hdC)) (by intro q';cases q')
  refine wpAny_excMatches_sub_self hC hob hobc hbase (codeAny_handlers_suite ?_);refine lands_againW hfl5 fun h6 hfl6 up6=>?_;have I6:=(shift h6 hfl6.1 ((up4.trans up5).trans up6)).mark (.ref ea);exact wpAny_mono (hsu ea pins _ σ H' D I6 hE) (fun fl s7 q7=>q7.unmark I.ok) fun _ _ z=>False.elim z
end
end L2
namespace L3
open PySem L2
inductive D where
 |non|bl (b:Bool)|int (i:Int)|str (x:Str)|ty (n:String)|ref (a:Addr)|tup (xs:List D)|lst (xs:List D)|mt (xs:List D)|ml (xs:List D)
def TpD(_:W.Frag)(H:Hp)(p:Addr)(vs:List V):Prop:=H p=some (.tup vs)
def TpM(K:W.Frag)(p:Addr)(vs:List V):Prop:=∃(o:Obj) (its:Array Value) (n:Nat),K.lookup p=some o/\o.cls=.type "tuple"/\o.data=.seq its n/\its.size<=sizeLine/\Vals vs its.toList
def FzD(K:W.Frag)(H:Hp)(p:Addr)(vs:List V):Prop:=
 ∃o,H p=some (.frz o (.lst vs))
def FzK(K:W.Frag)(H:Hp)(p:Addr)(vs:List V):Prop:=(∃o,H p=some (.frz o (.lst vs)))\/∃(o:Obj) (its:Array Value) (n:Nat),K.lookup p=some o/\o.cls=.type "list"/\o.dict=none/\o.data=.seq its n/\its.size<=sizeLine/\Vals vs its.toList
theorem FzK.sq{K:W.Frag}{H:Hp}{p:Addr}{vs:List V}(h:FzK K H p vs):SqL K H p vs:=h.imp (fun ⟨o,e⟩=>.inr ⟨o,e⟩) fun x=>x
theorem TpD.sq{K:W.Frag}{H:Hp}{p:Addr}{vs:List V}(h:TpD K H p vs):gG K H p vs:=.inl (.inl h)
theorem TpM.sq{K:W.Frag}{H:Hp}{p:Addr}{vs:List V}(h:TpM K p vs):gG K H p vs:=.inr h
theorem FzD.sq{K:W.Frag}{H:Hp}{p:Addr}{vs:List V}(h:FzD K H p vs):SqL K H p vs:=by
 obtain ⟨o,h⟩:=h;exact .inl (.inr ⟨o,h⟩)
mutual
def Rp(K:W.Frag)(H:Hp):D->V->Prop
 |.non,v=>v=.non
 |.bl b,v=>v=.bl b
 |.int i,v=>v=.int i
 |.str x,v=>v=.str x
 |.ty n,v=>v=.ty n
 |.ref a,v=>v=.ref a
 |.tup xs,v=>∃p vs,v=.ref p/\TpD K H p vs/\Rps K H xs vs
 |.lst xs,v=>∃p vs,v=.ref p/\FzD K H p vs/\Rps K H xs vs
 |.mt xs,v=>∃p vs,v=.ref p/\TpM K p vs/\Rps K H xs vs
 |.ml xs,v=>∃p vs,v=.ref p/\FzK K H p vs/\Rps K H xs vs
def Rps(K:W.Frag)(H:Hp):List D->List V->Prop
 |[],vs=>vs=[]
 |x::xs,vs=>∃v r,vs=v::r/\Rp K H x v/\Rps K H xs r
end
structure Imm(H H':Hp):Prop where
 tup:∀p vs,H p=some (.tup vs)->H' p=some (.tup vs)
 frz:∀p o u,H p=some (.frz o u)->H' p=some (.frz o u)
theorem Imm.refl{H:Hp}:Imm H H:=⟨fun _ _ e=>e,fun _ _ _ e=>e⟩
theorem TpD.mono{K:W.Frag}{H H':Hp}{p:Addr}{vs:List V}(i:Imm H H')(h:TpD K H p vs):TpD K H' p vs:=i.tup _ _ h
theorem FzK.mono{K:W.Frag}{H H':Hp}{p:Addr}{vs:List V}(i:Imm H H')(h:FzK K H p vs):FzK K H' p vs:=h.imp (fun ⟨o,e⟩=>⟨o,i.frz _ _ _ e⟩) fun x=>x
theorem FzD.mono{K:W.Frag}{H H':Hp}{p:Addr}{vs:List V}(i:Imm H H')(h:FzD K H p vs):FzD K H' p vs:=let ⟨o,e⟩:=h;⟨o,i.frz _ _ _ e⟩
mutual
theorem Rp.mono{K:W.Frag}{H H':Hp}(i:Imm H H'):∀{d:D} {v:V},Rp K H d v->Rp K H' d v
 |.non,_,h=>h
 |.bl _,_,h=>h
 |.int _,_,h=>h
 |.str _,_,h=>h
 |.ty _,_,h=>h
 |.ref _,_,h=>h
 |.tup _,_,h=>by
  obtain ⟨p,vs,e,t,r⟩:=h;exact ⟨p,vs,e,t.mono i,Rps.mono i r⟩
 |.lst _,_,h=>by
  obtain ⟨p,vs,e,t,r⟩:=h;exact ⟨p,vs,e,t.mono i,Rps.mono i r⟩
 |.mt _,_,h=>by
  obtain ⟨p,vs,e,t,r⟩:=h;exact ⟨p,vs,e,t,Rps.mono i r⟩
 |.ml _,_,h=>by
  obtain ⟨p,vs,e,t,r⟩:=h;exact ⟨p,vs,e,t.mono i,Rps.mono i r⟩
theorem Rps.mono{K:W.Frag}{H H':Hp}(i:Imm H H'):∀{ds:List D} {vs:List V},Rps K H ds vs->Rps K H' ds vs
 |[],_,h=>h
 |_::_,_,h=>by
  obtain ⟨v,r,e,a,b⟩:=h;exact ⟨v,r,e,Rp.mono i a,Rps.mono i b⟩
end
section
variable {K:W.Frag}{H H':Hp}
theorem Rps.nil:Rps K H [] []:=rfl
theorem Rps.cons{d:D}{v:V}{ds:List D}{vs:List V}(a:Rp K H d v)(b:Rps K H ds vs):Rps K H (d::ds) (v::vs):=⟨v,vs,rfl,a,b⟩
theorem Rps.length:∀{ds:List D} {vs:List V},Rps K H ds vs->ds.length=vs.length
 |[],_,h=>by cases h;rfl
 |_::_,_,h=>by obtain ⟨v,r,rfl,_,b⟩:=h;simp [b.length]
theorem Rps.get:∀{ds:List D} {vs:List V},Rps K H ds vs->∀{i:Nat} {d:D},ds[i]?=some d->∃v,vs[i]?=some v/\Rp K H d v
 |[],_,_,i,d,e=>by simp at e
 |x::xs,_,h,i,d,e=>by
  obtain ⟨v,r,rfl,a,b⟩:=h;cases i with
  |zero=>simp at e;subst e;exact ⟨v,by simp,a⟩
  |succ i=>simpa using b.get (by simpa using e)
theorem Rps.append:∀{ds es:List D} {vs ws:List V},Rps K H ds vs->Rps K H es ws->Rps K H (ds++es) (vs++ws)
 |[],_,_,_,h,g=>by cases h;exact g
 |_::_,_,_,_,h,g=>by
  obtain ⟨v,r,rfl,a,b⟩:=h;exact ⟨v,_,rfl,a,b.append g⟩
theorem Rps.take:∀{ds:List D} {vs:List V} (n:Nat),Rps K H ds vs->Rps K H (ds.take n) (vs.take n)
 |[],_,n,h=>by cases h;simp [Rps]
 |_::_,_,0,h=>rfl
 |_::_,_,n+1,h=>by
  obtain ⟨v,r,rfl,a,b⟩:=h;exact ⟨v,_,rfl,a,b.take n⟩
theorem Rps.drop:∀{ds:List D} {vs:List V} (n:Nat),Rps K H ds vs->Rps K H (ds.drop n) (vs.drop n)
 |[],_,n,h=>by cases h;simp [Rps]
 |_::_,_,0,h=>h
 |_::_,_,n+1,h=>by
  obtain ⟨v,r,rfl,a,b⟩:=h;exact b.drop n
theorem Rps.set{d:D}{v:V}(a:Rp K H d v):∀{ds:List D} {vs:List V} (i:Nat),Rps K H ds vs->Rps K H (ds.set i d) (vs.set i v)
 |[],_,_,h=>by cases h;rfl
 |_::_,_,0,h=>by obtain ⟨w,r,rfl,_,b⟩:=h;exact ⟨v,r,rfl,a,b⟩
 |_::_,_,i+1,h=>by obtain ⟨w,r,rfl,c,b⟩:=h;exact ⟨w,_,rfl,c,b.set a i⟩
theorem Rps.dropLast{ds:List D}{vs:List V}(h:Rps K H ds vs):Rps K H ds.dropLast vs.dropLast:=by
 rw [List.dropLast_eq_take,List.dropLast_eq_take,h.length];exact h.take _
theorem Rps.eraseIdx:∀{ds:List D} {vs:List V} (i:Nat),Rps K H ds vs->Rps K H (ds.eraseIdx i) (vs.eraseIdx i)
 |[],_,_,h=>by cases h;rfl
 |_::_,_,0,h=>by obtain ⟨w,r,rfl,_,b⟩:=h;exact b
 |_::_,_,i+1,h=>by obtain ⟨w,r,rfl,c,b⟩:=h;exact ⟨w,_,rfl,c,b.eraseIdx i⟩
theorem oN:∀{is:List Int} {vs:List V},vs=is.map V.int->Rps K H (is.map D.int) vs
 |[],_,e=>e
 |i::is,_,e=>by subst e;exact ⟨_,_,rfl,rfl,oN rfl⟩
end
inductive MO where
 |lst (xs:List D)
 |dK (kvs:List (bR×D))
 |dT (kvs:List (List bR×D))
 |ins (C:Addr) (fs:List (Str×D))
abbrev Mem:=Addr->Option MO
def Mem.upd(M:Mem)(a:Addr)(o:MO):Mem:=fun b=>if b=a then some o else M b
def Mem.del(M:Mem)(a:Addr):Mem:=fun b=>if b=a then none else M b
def Rkv{κ:Type}(K:W.Frag)(H:Hp):List (κ×D)->List (κ×V)->Prop:=Paired fun p q=>p.1=q.1/\Rp K H p.2 q.2
def RepO(K:W.Frag)(H:Hp)(a:Addr):MO->Prop
 |.lst xs=>∃vs,H a=some (.lst vs)/\Rps K H xs vs
 |.dK kvs=>∃ws,H a=some (.dK ws)/\Rkv K H kvs ws
 |.dT kvs=>∃ws,H a=some (.dT ws)/\Rkv K H kvs ws
 |.ins C fs=>∃dx ws,H a=some (.ins C dx ws)/\Rkv K H fs ws
def RepH(K:W.Frag)(H:Hp)(M:Mem):Prop:=∀a o,M a=some o->RepO K H a o
section
variable {K:W.Frag}{H H':Hp}{M:Mem}{a b:Addr}{o:MO}{u:HO}
@[simp] theorem Mem.upd_same:(M.upd a o) a=some o:=by simp [Mem.upd]
theorem aj(h:b≠a):(M.upd a o) b=M b:=by simp [Mem.upd,h]
@[simp] theorem Mem.upd_upd {o':MO}:(M.upd a o).upd a o'=M.upd a o':=by funext c;simp [Mem.upd];split<;>rfl
@[simp] theorem Mem.upd_del:(M.upd a o).del a=M.del a:=by funext c;simp [Mem.upd,Mem.del];split<;>rfl
theorem ai(h:M a=none):M.del a=M:=by
 funext c;simp only [Mem.del];split
 ·rename_i e;rw [e,h]
 ·rfl
theorem c7{o':MO}(h:a≠b):(M.upd a o).upd b o'=(M.upd b o').upd a o:=by
 funext c;simp only [Mem.upd];split
 ·rename_i e;rw [e,if_neg (Ne.symm h)]
 ·rfl
theorem Mem.ne{o:MO}(h:M a=some o)(h':M b=none):a≠b:=by intro e;subst e;rw [h] at h';cases h'
theorem Rkv.mono{κ:Type}{kvs:List (κ×D)}{ws:List (κ×V)}(i:Imm H H')(h:Rkv K H kvs ws):Rkv K H' kvs ws:=du h fun _ _ z=>⟨z.1,z.2.mono i⟩
theorem RepO.obj(r:RepO K H a o):∃u,H a=some u:=by
 cases o with
 |lst xs=>obtain ⟨vs,e,_⟩:=r;exact ⟨_,e⟩
 |dK xs=>obtain ⟨vs,e,_⟩:=r;exact ⟨_,e⟩
 |dT xs=>obtain ⟨vs,e,_⟩:=r;exact ⟨_,e⟩
 |ins C fs=>obtain ⟨dx,vs,e,_⟩:=r;exact ⟨_,e⟩
theorem RepO.keep(r:RepO K H a o)(i:Imm H H')(e:H' a=H a):RepO K H' a o:=by
 cases o with
 |lst xs=>obtain ⟨vs,q,z⟩:=r;exact ⟨vs,e.trans q,z.mono i⟩
 |dK xs=>obtain ⟨vs,q,z⟩:=r;exact ⟨vs,e.trans q,z.mono i⟩
 |dT xs=>obtain ⟨vs,q,z⟩:=r;exact ⟨vs,e.trans q,z.mono i⟩
 |ins C fs=>obtain ⟨dx,vs,q,z⟩:=r;exact ⟨dx,vs,e.trans q,z.mono i⟩
theorem RepH.fresh(r:RepH K H M)(h:H a=none):M a=none:=by
 cases e:M a with
 |none=>rfl
 |some o=>obtain ⟨u,q⟩:=(r a o e).obj;rw [h] at q;cases q
def rN:Option HO->Prop
 |some (.tup _)=>False
 |some (.frz _ _)=>False
 |_=>True
theorem Imm.upd(h:rN (H a)):Imm H (upd H a u):=by
 refine ⟨fun p vs e=>?_,fun p o v e=>?_⟩
 ·rw [upd_ne];exact e
  rintro rfl;rw [e] at h;exact h
 ·rw [upd_ne];exact e
  rintro rfl;rw [e] at h;exact h
theorem Imm.new(h:H a=none):Imm H (L2.upd H a u):=Imm.upd (by rw [h];trivial)
theorem RepO.loose(r:RepO K H a o):rN (H a):=by
 cases o with
 |lst xs=>obtain ⟨vs,e,_⟩:=r;rw [e];trivial
 |dK xs=>obtain ⟨vs,e,_⟩:=r;rw [e];trivial
 |dT xs=>obtain ⟨vs,e,_⟩:=r;rw [e];trivial
 |ins C fs=>obtain ⟨dx,vs,e,_⟩:=r;rw [e];trivial
theorem RepH.new(r:RepH K H M)(h:H a=none):RepH K (L2.upd H a u) M:=fun b o e=>by
 obtain ⟨v,q⟩:=(r b o e).obj;exact (r b o e).keep (Imm.new h) (upd_ne (br q h))
theorem RepH.put(r:RepH K H M)(h:rN (H a))(n:RepO K (L2.upd H a u) a o):RepH K (L2.upd H a u) (M.upd a o):=fun b p e=>by
 by_cases hb:b=a
 ·subst hb;rw [Mem.upd_same] at e;cases e;exact n
 ·rw [aj hb] at e
  exact (r b p e).keep (Imm.upd h) (upd_ne hb)
theorem RepH.keep(r:RepH K H M)(i:Imm H H')(e:∀b o,M b=some o->H' b=H b):RepH K H' M:=fun b o q=>(r b o q).keep i (e b o q)
structure Frm(M:Mem)(H:Hp)(M':Mem)(H':Hp):Prop where
 keep:∀b u,H b=some u->M b=none->H' b=some u/\M' b=none
variable {M':Mem}
theorem Frm.refl:Frm M H M H:=⟨fun _ _ e n=>⟨e,n⟩⟩
theorem Frm.trans{M1 M2:Mem}{H1 H2:Hp}(x:Frm M H M1 H1)(y:Frm M1 H1 M2 H2):Frm M H M2 H2:=⟨fun b u e n=>let ⟨e1,n1⟩:=x.keep b u e n;y.keep b u e1 n1⟩
theorem Frm.imm(f:Frm M H M' H')(r:RepH K H M):Imm H H':=by
 have key:∀b u,H b=some u->¬rN (some u)->H' b=some u:=fun b u e n=>(f.keep b u e (by
  cases q:M b with
  |none=>rfl
  |some o=>exact absurd (by rw [<- e];exact (r b o q).loose) n)).1
 exact ⟨fun p vs e=>key p _ e (fun z=>z),fun p o u e=>key p _ e (fun z=>z)⟩
theorem Frm.new(h:H a=none):Frm M H M (L2.upd H a u):=⟨fun b v e n=>⟨by rw [upd_ne (br e h)];exact e,n⟩⟩
theorem Frm.put(h:H a=none\/∃o,M a=some o):Frm M H (M.upd a o) (L2.upd H a u):=⟨fun b v e n=>by
 have hb:b≠a:=by
  rintro rfl
  rcases h with h|⟨o,h⟩
  ·rw [h] at e;cases e
  ·rw [h] at n;cases n
 exact ⟨by rw [L2.upd_ne hb];exact e,by rw [aj hb];exact n⟩⟩
theorem Frm.del(h:∃o,M a=some o):Frm M H (M.del a) (L2.upd H a u):=⟨fun b v e n=>by
 have hb:b≠a:=by
  rintro rfl
  obtain ⟨o,h⟩:=h;rw [h] at n;cases n
 refine ⟨by rw [L2.upd_ne hb];exact e,?_⟩
 unfold Mem.del;rw [if_neg hb];exact n⟩
theorem Rp.mf{d:D}{v:V}(x:Rp K H d v)(r:RepH K H M)(f:Frm M H M' H'):Rp K H' d v:=x.mono (f.imm r)
theorem Rps.mf{d:List D}{v:List V}(x:Rps K H d v)(r:RepH K H M)(f:Frm M H M' H'):Rps K H' d v:=x.mono (f.imm r)
end
end L3
namespace L3
open PySem L2
abbrev Dl:=List (Option D)
abbrev DK:=D->Mem->Prop
abbrev bL:=Dl->Mem->DK->Prop
abbrev eD:=Dl->Mem->(Bool->Mem->Prop)->Prop
abbrev eE:=Dl->Mem->(List D->Mem->Prop)->Prop
structure RepS(K:W.Frag)(H:Hp)(δ:Dl)(σ:St):Prop where
 len:δ.length=σ.length
 get:∀(i:Nat) (d:D),δ[i]?=some (some d)->∃v,σ[i]?=some (some v)/\Rp K H d v
theorem RepS.mono{K:W.Frag}{H H':Hp}{δ:Dl}{σ:St}(r:RepS K H δ σ)(i:Imm H H'):RepS K H' δ σ:=
 ⟨r.len,fun j d e=>by obtain ⟨v,h1,h2⟩:=r.get j d e;exact ⟨v,h1,h2.mono i⟩⟩
theorem RepS.set{K:W.Frag}{H:Hp}{δ:Dl}{σ:St}{i:Nat}{d:D}{v:V}(r:RepS K H δ σ)(h:Rp K H d v):RepS K H (δ.set i (some d)) (σ.set i (some v)):=by
 refine ⟨by simp [r.len],fun j e q=>?_⟩
 rw [List.getElem?_set] at q ⊢
 by_cases hij:i=j
 ·rw [if_pos hij] at q ⊢
  by_cases hl:i<δ.length
  ·rw [if_pos (by rw [<- r.len];exact hij▸hl)]
   rw [if_pos (hij▸hl)] at q;cases q;exact ⟨v,rfl,h⟩
  ·rw [if_neg (hij▸hl)] at q;cases q
 ·rw [if_neg hij] at q ⊢
  exact r.get j e q
structure SR(X:Cx)(B:Mem)(δ:Dl)(M:Mem)(σ:St)(H:Hp):Prop where
 i0:Frm B X.H₀ M H
 rh:RepH X.K H M
 rs:RepS X.K H δ σ
theorem SR.go{X:Cx}{B:Mem}{δ:Dl}{M M':Mem}{σ:St}{H H':Hp}(s:SR X B δ M σ H)(rh:RepH X.K H' M')(i:Frm M H M' H'):SR X B δ M' σ H':=⟨s.i0.trans i,rh,s.rs.mono (i.imm s.rh)⟩
def Up(K:W.Frag)(M:Mem)(H:Hp)(QQ:DK)(Q:VK):Prop:=∀d M',QQ d M'->∀v H',RepH K H' M'->Frm M H M' H'->Rp K H' d v->Q v H'
def UpT(K:W.Frag)(M:Mem)(H:Hp)(QQ:Bool->Mem->Prop)(Q:Bool->Hp->Prop):Prop:=∀b M',QQ b M'->∀H',RepH K H' M'->Frm M H M' H'->Q b H'
def UpA(K:W.Frag)(M:Mem)(H:Hp)(QQ:List D->Mem->Prop)(Q:List V->Hp->Prop):Prop:=∀ds M',QQ ds M'->∀vs H',RepH K H' M'->Frm M H M' H'->Rps K H' ds vs->Q vs H'
theorem Up.go{K:W.Frag}{M M1:Mem}{H H1:Hp}{QQ:DK}{Q:VK}(u:Up K M H QQ Q)(i:Frm M H M1 H1):Up K M1 H1 QQ Q:=fun d M' q v H' a b c=>u d M' q v H' a (i.trans b) c
theorem UpT.go{K:W.Frag}{M M1:Mem}{H H1:Hp}{QQ:Bool->Mem->Prop}{Q:Bool->Hp->Prop}(u:UpT K M H QQ Q)(i:Frm M H M1 H1):UpT K M1 H1 QQ Q:=fun d M' q H' a b=>u d M' q H' a (i.trans b)
inductive liftE(X:Cx)(B:Mem)(T:bL)(σ:St)(H:Hp)(Q:VK):Prop
 |mk (δ:Dl) (M:Mem) (QQ:DK) (s:SR X B δ M σ H) (h:T δ M QQ) (u:Up X.K M H QQ Q):liftE X B T σ H Q
inductive liftT(X:Cx)(B:Mem)(T:eD)(σ:St)(H:Hp)(Q:Bool->Hp->Prop):Prop
 |mk (δ:Dl) (M:Mem) (QQ:Bool->Mem->Prop) (s:SR X B δ M σ H) (h:T δ M QQ) (u:UpT X.K M H QQ Q):liftT X B T σ H Q
inductive liftA(X:Cx)(B:Mem)(T:eE)(σ:St)(H:Hp)(Q:List V->Hp->Prop):Prop
 |mk (δ:Dl) (M:Mem) (QQ:List D->Mem->Prop) (s:SR X B δ M σ H) (h:T δ M QQ) (u:UpA X.K M H QQ Q):liftA X B T σ H Q
def DE(X:Cx)(B:Mem)(e:Expr)(T:bL):Prop:=PE X e (liftE X B T)
def DT(X:Cx)(B:Mem)(e:Expr)(T:eD):Prop:=PT X e (liftT X B T)
def DA(X:Cx)(B:Mem)(es:List Expr)(T:eE):Prop:=PA X es (liftA X B T)
theorem bc{X:Cx}{e:Expr}{t t':TE}(h:PE X e t)(w:∀σ H Q,t' σ H Q->t σ H Q):PE X e t':=fun pins s σ H Q I q=>h pins s σ H Q I (w σ H Q q)
theorem gF{X:Cx}{e:Expr}{t t':TT}(h:PT X e t)(w:∀σ H Q,t' σ H Q->t σ H Q):PT X e t':=fun pins s σ H Q I q=>h pins s σ H Q I (w σ H Q q)
theorem rF{X:Cx}{e:List Expr}{t t':TA}(h:PA X e t)(w:∀σ H Q,t' σ H Q->t σ H Q):PA X e t':=fun pos pins s σ H Q I q=>h pos pins s σ H Q I (w σ H Q q)
theorem cz{X:Cx}{e:Stmt}{t t':TS}(h:PS X e t)(w:∀D σ H,t' D σ H->t D σ H):PS X e t':=fun pins s σ H D I q=>h pins s σ H D I (w D σ H q)
theorem jY{X:Cx}{e:List Stmt}{t t':TS}(h:qW X e t)(w:∀D σ H,t' D σ H->t D σ H):qW X e t':=fun pins s σ H D I q=>h pins s σ H D I (w D σ H q)
def ae(i:Nat):bL:=fun δ M Q=>match δ[i]? with
 |some (some d)=>Q d M
 |_=>False
def dC(d:D):bL:=fun _ M Q=>Q d M
section
variable {X:Cx}{B:Mem}{a b c:Expr}{ta tb tc:bL}{pos:Pos}
theorem Cs{i:Nat}{x:Str}{pos:Pos}(hN:X.N[i]?=some x)(hv:Eh X.env.scope x)(hd:(x==("__debug__":Str))=false:=by decide)(hcd:(x==("__classdict__":Str))=false:=by decide):DE X B (.Name x pos) (ae i):=by
 refine bc (Eb hN hv hd hcd) ?_
 rintro σ H Q ⟨δ,M,QQ,s,h,u⟩
 unfold ae at h
 split at h
 ·rename_i d e
  obtain ⟨v,h1,h2⟩:=s.rs.get i d e;exact ⟨v,h1,u d M h v H s.rh Frm.refl h2⟩
 ·exact h.elim
theorem sX{e:Expr}{v:V}{d:D}(h:PE X e (tC v))(r:∀H,Rp X.K H d v):DE X B e (dC d):=by
 refine bc h ?_
 rintro σ H Q ⟨δ,M,QQ,s,h,u⟩
 exact u d M h v H s.rh Frm.refl (r H)
theorem ag{i j pos}:DE X B (.Constant (.int i) j pos) (dC (.int i)):=sX Bb fun _=>rfl
theorem ce{i j pos}:DE X B (.Constant (.bool i) j pos) (dC (.bl i)):=sX FE fun _=>rfl
theorem eJ{j pos}:DE X B (.Constant .none j pos) (dC .non):=sX CG fun _=>rfl
theorem aR{i j pos}:DE X B (.Constant (.str i) j pos) (dC (.str i)):=sX tX fun _=>rfl
theorem qU{x:Str}{v:V}{d:D}{u:Value}{pos:Pos}(hg:Gl X x)(hm:X.mg x=some u)(r:RelV v u)(q:∀H,Rp X.K H d v)(hd:(x==("__debug__":Str))=false:=by decide):DE X B (.Name x pos) (dC d):=sX (za hg hm r hd) q
abbrev dW:=D->D->Mem->DK->Prop
inductive liftR2(X:Cx)(r:dW)(x y:V)(H:Hp)(Q:VK):Prop
 |mk (d1 d2:D) (M:Mem) (QQ:DK) (rh:RepH X.K H M) (r1:Rp X.K H d1 x) (r2:Rp X.K H d2 y) (h:r d1 d2 M QQ) (u:Up X.K M H QQ Q):liftR2 X r x y H Q
def aB(r:dW)(ta tb:bL):bL:=fun δ M Q=>ta δ M fun x M1=>tb δ M1 fun y M2=>r x y M2 Q
theorem iS{r:dW}{σ:St}{H:Hp}{Q:VK}(h:liftE X B (aB r ta tb) σ H Q):F8 (liftR2 X r) (liftE X B ta) (liftE X B tb) σ H Q:=by
 obtain ⟨δ,M,QQ,s,h,u⟩:=h;refine ⟨δ,M,_,s,h,fun x M1 h1 v1 H1 rh1 i1 r1=>?_⟩;refine ⟨δ,M1,_,s.go rh1 i1,h1,fun y M2 h2 v2 H2 rh2 i2 r2=>?_⟩;exact ⟨x,y,M2,QQ,rh2,r1.mf rh1 i2,r2,h2,u.go (i1.trans i2)⟩
theorem aY{op:Operator}{r:dW}(ho:cB X (binaryOp op) (liftR2 X r))(ha:DE X B a ta)(hb:DE X B b tb):DE X B (.BinOp a op b pos) (aB r ta tb):=bc (EC ho ha hb) fun _ _ _ h=>iS h
theorem fR{op:CmpOp}{r:dW}(ho:cB X (compareOp op) (liftR2 X r))(ha:DE X B a ta)(hb:DE X B b tb)(hm:behindInMarks op b=false):DE X B (.Compare a [op] [b] pos) (aB r ta tb):=bc (yF ho ha hb hm) fun _ _ _ h=>iS h
theorem av{r:dW}(hr:IxR X (liftR2 X r))(ha:DE X B a ta)(hb:DE X B b tb)(hs:qX b):DE X B (.Subscript a b pos) (aB r ta tb):=bc (Ft hr ha hb hs) fun _ _ _ h=>iS h
def aI(t:bL):eD:=fun δ M Q=>t δ M fun d M'=>match d with
 |.bl k=>Q k M'
 |_=>False
theorem aK{op:CmpOp}{r:dW}(ho:cB X (compareOp op) (liftR2 X r))(ha:DE X B a ta)(hb:DE X B b tb)(hm:behindInMarks op b=false):DT X B (.Compare a [op] [b] pos) (aI (aB r ta tb)):=by
 refine gF (zC ho ha hb hm) ?_
 rintro σ H Q ⟨δ,M,QQ,s,h,u⟩
 have h':liftE X B (aB r ta tb) σ H (fun x H'=>∃k,x=.bl k/\Q k H'):=by
  refine ⟨δ,M,_,s,h,fun d M' q v H' rh i rp=>?_⟩;cases d with
  |bl k=>exact ⟨k,rp,u k M' q H' rh i⟩
  |_=>exact (show False from q).elim
 exact iS h'
def tru(M:Mem):D->Option Bool
 |.non=>some false
 |.bl b=>some b
 |.int i=>some (i != 0)
 |.str y=>if y.length<=sizeLine then some ((y.length:Int) != 0) else none
 |.tup xs=>some (!xs.isEmpty)
 |.lst xs=>some (!xs.isEmpty)
 |.ref a=>match M a with
  |some (.lst xs)=>some (!xs.isEmpty)
  |some (.dK xs)=>some (!xs.isEmpty)
  |_=>none
 |_=>none
def cY(t:bL):eD:=fun δ M Q=>t δ M fun d M'=>match tru M' d with
 |some k=>Q k M'
 |none=>False
theorem eN{K:W.Frag}{H:Hp}{ds:List D}{vs:List V}(r:Rps K H ds vs):vs.isEmpty=ds.isEmpty:=by
 have:=r.length;cases ds<;>cases vs<;>simp_all
theorem BZ{K:W.Frag}{H:Hp}{M:Mem}{d:D}{v:V}{k:Bool}(rh:RepH K H M)(r:Rp K H d v)(e:tru M d=some k):DJ K v H k:=by
 cases d with
 |non=>cases r;cases e;rfl
 |bl b=>cases r;cases e;rfl
 |int i=>cases r;cases e;rfl
 |str y=>
  cases r;simp only [tru] at e
  split at e
  ·cases e;exact ⟨by assumption,rfl⟩
  ·cases e
 |ty n=>cases e
 |tup xs=>
  obtain ⟨p,vs,rfl,t,r⟩:=r;cases e;exact .inr (.inl ⟨vs,t.sq,by rw [eN r]⟩)
 |mt xs=>cases e
 |ml xs=>cases e
 |lst xs=>
  obtain ⟨p,vs,rfl,t,r⟩:=r;cases e;exact .inl ⟨vs,t.sq,by rw [eN r]⟩
 |ref a=>
  cases r;simp only [tru] at e
  split at e
  ·rename_i xs q
   obtain ⟨vs,h1,h2⟩:=rh _ _ q;cases e;exact .inl ⟨vs,SqL.of h1,by rw [eN h2]⟩
  ·rename_i xs q
   obtain ⟨vs,h1,h2⟩:=rh _ _ q;cases e;refine .inr (.inr ⟨vs,h1,?_⟩);cases h2<;>rfl
  ·cases e
theorem bP{e:Expr}(h:DE X B e ta)(he:∀whole,isTrue e X.env whole=(do let v <- whole;standAt e.pos;holding [v] (truthy v)):=by intro _;rfl):DT X B e (cY ta):=by
 refine gF (vi h he) ?_
 rintro σ H Q ⟨δ,M,QQ,s,h,u⟩
 refine ⟨δ,M,_,s,h,fun d M' q v H' rh i rp=>?_⟩
 split at q
 ·rename_i k e
  exact ⟨k,BZ rh rp e,u k M' q H' rh i⟩
 ·exact q.elim
def fC(t:eD):eD:=fun δ M Q=>t δ M fun c M1=>Q (!c) M1
theorem cq{tA:eD}(ha:DT X B a tA):DT X B (.UnaryOp .Not a pos) (fC tA):=by
 refine gF (Ce ha) ?_
 rintro σ H Q ⟨δ,M,QQ,s,h,u⟩
 exact ⟨δ,M,_,s,h,fun c M' q H' rh i=>u _ M' q H' rh i⟩
end
end L3
namespace L3
open PySem L2
section
variable {X:Cx}{B:Mem}{a b c:Expr}{ta tb tc:bL}{tA tB':eD}{rest:List Expr}{pos:Pos}
def DW(X:Cx)(B:Mem)(e:Expr)(T:eD):Prop:=PW X e (liftT X B T)
theorem dH{e:Expr}{T:eD}(h:DW X B e T):DT X B e T:=G2 h
theorem qM{X:Cx}{e:Expr}{t t':TT}(h:PW X e t)(w:∀σ H Q,t' σ H Q->t σ H Q):PW X e t':=fun wh pins s σ H Q I q=>h wh pins s σ H Q I (w σ H Q q)
def kh(t u:eD):eD:=fun δ M Q=>t δ M fun c M1=>if c=true then u δ M1 Q else Q false M1
def xg(t u:eD):eD:=fun δ M Q=>t δ M fun c M1=>if c=true then Q true M1 else u δ M1 Q
theorem gk(ha:DT X B a tA):DW X B (.BoolOp .And [a] pos) tA:=yI ha
theorem eP(ha:DT X B a tA):DW X B (.BoolOp .Or [a] pos) tA:=B_ ha
theorem gQ(ha:DT X B a tA)(hb:DW X B (.BoolOp .And (b::rest) pos) tB'):DW X B (.BoolOp .And (a::b::rest) pos) (kh tA tB'):=by
 refine qM (Da ha hb) ?_
 rintro σ H Q ⟨δ,M,QQ,s,h,u⟩
 refine ⟨δ,M,_,s,h,fun c M' q H' rh i=>?_⟩;cases c with
 |true=>rw [if_pos rfl] at q ⊢;exact ⟨δ,M',QQ,s.go rh i,q,u.go i⟩
 |false=>rw [if_neg Bool.false_ne_true] at q ⊢;exact u _ M' q H' rh i
theorem fY(ha:DT X B a tA)(hb:DW X B (.BoolOp .Or (b::rest) pos) tB'):DW X B (.BoolOp .Or (a::b::rest) pos) (xg tA tB'):=by
 refine qM (ES ha hb) ?_
 rintro σ H Q ⟨δ,M,QQ,s,h,u⟩
 refine ⟨δ,M,_,s,h,fun c M' q H' rh i=>?_⟩;cases c with
 |false=>rw [if_neg Bool.false_ne_true] at q ⊢;exact ⟨δ,M',QQ,s.go rh i,q,u.go i⟩
 |true=>rw [if_pos rfl] at q ⊢;exact u _ M' q H' rh i
def f_(ta tb:bL):bL:=fun δ M Q=>ta δ M fun x M1=>match x with
 |.bl true=>tb δ M1 Q
 |.bl false=>Q (.bl false) M1
 |_=>False
def B4(ta:bL):bL:=fun δ M Q=>ta δ M fun x M1=>match x with
 |.bl c=>Q (.bl (!c)) M1
 |_=>False
theorem gM{op}{t:bL}(h:DE X B a t):DE X B (.BoolOp op [a] pos) t:=Cy h
theorem eU(ha:DE X B a ta)(hb:DE X B (.BoolOp .And (b::rest) pos) tb):DE X B (.BoolOp .And (a::b::rest) pos) (f_ ta tb):=by
 refine bc (BX ha hb) ?_
 rintro σ H Q ⟨δ,M,QQ,s,h,u⟩
 refine ⟨δ,M,_,s,h,fun d M' q v H' rh i r=>?_⟩;cases d with
 |bl c=>
  cases c with
  |true=>exact ⟨true,r,by rw [if_pos rfl];exact ⟨δ,M',QQ,s.go rh i,q,u.go i⟩⟩
  |false=>exact ⟨false,r,by rw [if_neg Bool.false_ne_true];exact u _ M' q _ H' rh i rfl⟩
 |_=>exact (show False from q).elim
theorem Dq(ha:DE X B a ta):DE X B (.UnaryOp .Not a pos) (B4 ta):=by
 refine bc (C7 ha) ?_
 rintro σ H Q ⟨δ,M,QQ,s,h,u⟩
 refine ⟨δ,M,_,s,h,fun d M' q v H' rh i r=>?_⟩;cases d with
 |bl c=>exact ⟨c,r,u _ M' q _ H' rh i rfl⟩
 |_=>exact (show False from q).elim
def vJ(t:eD)(ta tb:bL):bL:=fun δ M Q=>t δ M fun c M1=>if c=true then ta δ M1 Q else tb δ M1 Q
theorem dB{c:Expr}(hc:DT X B c tA)(ha:DE X B a ta)(hb:DE X B b tb):DE X B (.IfExp c a b pos) (vJ tA ta tb):=by
 refine bc (wD hc ha hb) ?_
 rintro σ H Q ⟨δ,M,QQ,s,h,u⟩
 refine ⟨δ,M,_,s,h,fun c M' q H' rh i=>?_⟩;cases c with
 |true=>rw [if_pos rfl] at q ⊢;exact ⟨δ,M',QQ,s.go rh i,q,u.go i⟩
 |false=>rw [if_neg Bool.false_ne_true] at q ⊢;exact ⟨δ,M',QQ,s.go rh i,q,u.go i⟩
def eV(r r':dW)(ta tb tc:bL):bL:=fun δ M Q=>ta δ M fun x M1=>tb δ M1 fun y M2=>r x y M2 fun z M3=>match z with
 |.bl true=>tc δ M3 fun w M4=>r' y w M4 Q
 |.bl false=>Q (.bl false) M3
 |_=>False
variable {e:Expr}{es:List Expr}{te:bL}{t:eE}
def ak:eE:=fun _ M Q=>Q [] M
def ac(ta:bL)(tr:eE):eE:=fun δ M Q=>ta δ M fun x M1=>tr δ M1 fun xs M2=>Q (x::xs) M2
theorem af:DA X B [] ak:=by
 refine rF vz ?_
 rintro σ H Q ⟨δ,M,QQ,s,h,u⟩
 exact u [] M h [] H s.rh Frm.refl .nil
theorem aa(ha:DE X B e te)(hr:DA X B es t)(hs:starEach (e::es) X.env=(false,eval e X.env)::starEach es X.env:=by rfl):DA X B (e::es) (ac te t):=by
 refine rF (qx ha hr hs) ?_
 rintro σ H Q ⟨δ,M,QQ,s,h,u⟩
 refine ⟨δ,M,_,s,h,fun x M1 h1 v1 H1 rh1 i1 r1=>?_⟩;refine ⟨δ,M1,_,s.go rh1 i1,h1,fun xs M2 h2 v2 H2 rh2 i2 r2=>?_⟩;exact u _ M2 h2 _ H2 rh2 (i1.trans i2) (.cons (r1.mf rh1 i2) r2)
def bX(t:eE):bL:=fun δ M Q=>t δ M fun xs M1=>xs.length<=sizeLine/\Q (.tup xs) M1
def cC(t:eE):bL:=fun δ M Q=>t δ M fun xs M1=>xs.length<=sizeLine/\∀p,M1 p=none->Q (.ref p) (M1.upd p (.lst xs))
theorem bq{x1}(h:DA X B es t):DE X B (.Tuple es x1 pos) (bX t):=by
 refine bc (DL h) ?_
 rintro σ H Q ⟨δ,M,QQ,s,h,u⟩
 refine ⟨δ,M,_,s,h,fun xs M1 h1 v1 H1 rh1 i1 r1=>⟨by rw [<- r1.length];exact h1.1,fun p hp=>?_⟩⟩
 exact u _ M1 h1.2 _ _ (rh1.new hp) (i1.trans (Frm.new hp)) ⟨p,v1,rfl,upd_same,r1.mono (Imm.new hp)⟩
theorem bB(h:DA X B es t):DE X B (.List es pos) (cC t):=by
 refine bc (Co h) ?_
 rintro σ H Q ⟨δ,M,QQ,s,h,u⟩
 refine ⟨δ,M,_,s,h,fun xs M1 h1 v1 H1 rh1 i1 r1=>⟨by rw [<- r1.length];exact h1.1,fun p hp=>?_⟩⟩
 exact u _ _ (h1.2 p (rh1.fresh hp)) _ _ (rh1.put (by rw [hp];trivial) ⟨v1,upd_same,r1.mono (Imm.new hp)⟩) (i1.trans (Frm.put (.inl hp))) rfl
theorem Inv.freeze{pins:List (Addr×Obj)}{σ:L2.St}{H:Hp}{s:Shared}{p:Addr}{vs:List V}(I:Inv X pins σ H s)(h:H p=some (.lst vs)):∃o,Inv X pins σ (upd H p (.frz o (.lst vs))) s:=by
 obtain ⟨its,n,r,e,z⟩:=I.lst h;have ne:∀{b:Addr} {u:Option HO},H b=u->u≠some (.lst vs)->b≠p:=fun {b u} q hu z=>by subst z;rw [h] at q;exact hu q.symm
 refine ⟨{ cls:=.type "list",data:=.seq its.toArray n },I.ok,I.os,I.bare,⟨I.base.keep,I.base.slot,fun b o q hn hx=>?_,I.base.there,fun b xs q=>?_,fun b o u q=>?_,fun b ps q=>?_⟩,I.loc,I.cell,?_,fun x c q=>?_,fun pp hp=>?_,fun b o q=>?_,I.len⟩
 ·have q':=I.base.free b o q hn hx
  rw [upd_ne (ne q' (by simp))];exact q'
 ·have q':=I.base.tups b xs q
  rw [upd_ne (ne q' (by simp))];exact q'
 ·have q':=I.base.frzs b o u q
  rw [upd_ne (ne q' (by simp))];exact q'
 ·obtain ⟨more,q'⟩:=I.base.tbls b ps q
  exact ⟨more,by rw [upd_ne (ne q' (by simp))];exact q'⟩
 ·rw [upd_ne (ne I.free (by simp))];exact I.free
 ·have q':=I.freeC x c q
  rw [upd_ne (ne q' (by simp))];exact q'
 ·obtain ⟨h1,h2,h3⟩:=I.pin pp hp
  exact ⟨h1,by rw [upd_ne (ne h2 (by simp))];exact h2,h3⟩
 ·by_cases hb:b=p
  ·subst hb
   rw [upd_same] at q;cases q;refine ⟨e,?_⟩;exact ⟨z,its,n,r,e⟩
  ·rw [upd_ne hb] at q
   refine (I.hok b o q).stay (fun _ _ _ y=>y) (fun c y=>?_) fun c xs y=>?_
   ·rw [upd_ne (ne y (by simp))];exact y
   ·rw [upd_ne (ne y (by simp))];exact y
def frz(d:D)(M:Mem)(Q:DK):Prop:=match d with
 |.ref a=>match M a with
  |some (.lst xs)=>Q (.lst xs) (M.del a)
  |_=>Q d M
 |_=>Q d M
def aF(t:bL):bL:=fun δ M Q=>t δ M fun d M'=>frz d M' Q
theorem RepH.freeze{K:W.Frag}{H:Hp}{M:Mem}{p:Addr}{vs:List V}{o:Obj}(r:RepH K H M)(h:H p=some (.lst vs)):RepH K (upd H p (.frz o (.lst vs))) (M.del p):=fun b u e=>by
 unfold Mem.del at e
 split at e
 ·cases e
 ·rename_i hb
  exact (r b u e).keep (Imm.upd (by rw [h];trivial)) (upd_ne hb)
theorem ar(h:DE X B e te):DE X B e (aF te):=by
 intro pins s σ H Q I hq;obtain ⟨δ,M,QQ,sr,hT,u⟩:=hq;refine thn (h pins s σ H (fun v H'=>∃d M',RepH X.K H' M'/\Frm M H M' H'/\Rp X.K H' d v/\frz d M' QQ) I ⟨δ,M,_,sr,hT,fun d M' q v H' rh i r=>⟨d,M',rh,i,r,q⟩⟩) ?_
 rintro w s' ⟨v,H',I',rv,d,M',rh,i,r,q⟩
 unfold frz at q
 split at q
 ·rename_i a
  split at q
  ·rename_i xs e
   obtain ⟨vs,h1,h2⟩:=rh _ _ e;obtain ⟨o,I2⟩:=Inv.freeze I' h1;refine ⟨v,_,I2,rv,u _ _ q v _ (rh.freeze h1) (i.trans (Frm.del ⟨_,e⟩)) ?_⟩;exact ⟨a,vs,r,⟨o,upd_same⟩,h2.mono (Imm.upd (by rw [h1];trivial))⟩
  ·exact ⟨v,H',I',rv,u _ _ q v H' rh i r⟩
 ·exact ⟨v,H',I',rv,u _ _ q v H' rh i r⟩
end
end L3
namespace L3
open PySem L2
def hV(M:Mem):D->Option (List D)
 |.lst xs=>some xs
 |.ref a=>match M a with
  |some (.lst xs)=>some xs
  |_=>none
 |_=>none
def gU(M:Mem):D->Option (List D)
 |.tup xs=>some xs
 |.lst xs=>some xs
 |.mt xs=>some xs
 |.ml xs=>some xs
 |.ref a=>match M a with
  |some (.lst xs)=>some xs
  |_=>none
 |_=>none
section
variable {X:Cx}{B:Mem}{K:W.Frag}{H:Hp}{M:Mem}{d:D}{v:V}{xs:List D}
theorem cK(rh:RepH K H M)(r:Rp K H d v)(e:hV M d=some xs):∃p vs,v=.ref p/\Rd H p (.lst vs)/\Rps K H xs vs:=by
 cases d with
 |lst ys=>
  cases e;obtain ⟨p,vs,rfl,⟨o,h⟩,r⟩:=r;exact ⟨p,vs,rfl,.inr ⟨o,h⟩,r⟩
 |ref a=>
  simp only [hV] at e
  split at e
  ·rename_i ys q
   cases e;obtain ⟨vs,h1,h2⟩:=rh _ _ q;exact ⟨a,vs,r,.inl h1,h2⟩
  ·cases e
 |_=>cases e
theorem iQ(rh:RepH K H M)(r:Rp K H d v)(e:gU M d=some xs):∃p vs,v=.ref p/\(SqL K H p vs\/gG K H p vs)/\Rps K H xs vs:=by
 cases d with
 |tup ys=>
  cases e;obtain ⟨p,vs,rfl,h,r⟩:=r;exact ⟨p,vs,rfl,.inr h.sq,r⟩
 |lst ys=>
  cases e;obtain ⟨p,vs,rfl,h,r⟩:=r;exact ⟨p,vs,rfl,.inl h.sq,r⟩
 |mt ys=>
  cases e;obtain ⟨p,vs,rfl,h,r⟩:=r;exact ⟨p,vs,rfl,.inr h.sq,r⟩
 |ml ys=>
  cases e;obtain ⟨p,vs,rfl,h,r⟩:=r;exact ⟨p,vs,rfl,.inl h.sq,r⟩
 |ref a=>
  simp only [gU] at e
  split at e
  ·rename_i ys q
   cases e;obtain ⟨vs,h1,h2⟩:=rh _ _ q;exact ⟨a,vs,r,.inl (SqL.of h1),h2⟩
  ·cases e
 |_=>cases e
theorem yr:cB X (binaryOp .Add) (fun x y H Q=>∃l b xs zs,x=.ref l/\y=.ref b/\Rd H l (.lst xs)/\Rd H b (.lst zs)/\xs.length+zs.length<=sizeLine/\∀p,H p=none->Q (.ref p) (upd H p (.lst (xs++zs)))):=by
 intro pins s σ H x y v u Q I rx ry h;obtain ⟨l,b,xs,zs,rfl,rfl,hH,hB,hz,q⟩:=h;cases rx;cases ry;obtain ⟨z,its,n,r,e⟩:=hH.ok I.hok;obtain ⟨z2,its2,n2,r2,e2⟩:=hB.ok I.hok;have hl:=r.length;have hl2:=r2.length;refine PySem.P.add_list e e2 ?_ (by rw [List.size_toArray,List.size_toArray];lia)
 have ea:its.toArray++its2.toArray=(its++its2).toArray:=by simp
 rw [ea];exact ⟨.ref _,_,I.lnew (t':=s.toks) (r.append r2) (by rw [List.length_append];lia),rfl,q _ I.fresh⟩
def cr:dW:=fun x y M Q=>match x,y with
 |.int i,.int j=>Q (.int (i+j)) M
 |.str a,.str b=>a.length+b.length<=sizeLine/\Q (.str (a++b)) M
 |.tup xs,.tup ys=>xs.length+ys.length<=sizeLine/\Q (.tup (xs++ys)) M
 |x,y=>match hV M x,hV M y with
  |some xs,some ys=>xs.length+ys.length<=sizeLine/\∀p,M p=none->Q (.ref p) (M.upd p (.lst (xs++ys)))
  |_,_=>False
theorem bp:cB X (binaryOp .Add) (liftR2 X cr):=by
 intro pins s σ H x y v u Q I rx ry h;obtain ⟨d1,d2,M,QQ,rh,r1,r2,h,up⟩:=h;unfold cr at h
 split at h
 ·cases r1;cases r2
  exact Ch pins s σ H _ _ v u Q I rx ry ⟨_,_,rfl,rfl,up _ M h _ H rh Frm.refl rfl⟩
 ·cases r1;cases r2
  exact pE pins s σ H _ _ v u Q I rx ry ⟨_,_,rfl,rfl,h.1,up _ M h.2 _ H rh Frm.refl rfl⟩
 ·obtain ⟨p,vs,rfl,t1,r1⟩:=r1
  obtain ⟨p',vs',rfl,t2,r2⟩:=r2;have l1:=r1.length;have l2:=r2.length;have r12:=r1.append r2
  by_cases hx:vs=[]
  ·subst hx
   have hu:=up _ M h.2 (.ref p') H rh Frm.refl ⟨p',vs',rfl,t2,r12⟩;exact vw pins s σ H _ _ v u Q I rx ry ⟨p,p',vs',rfl,rfl,t1.sq,t2.sq,hu⟩
  ·refine A8 pins s σ H _ _ v u Q I rx ry ⟨p,p',vs,vs',rfl,rfl,t1.sq,t2.sq,hx,by lia,fun e=>?_,fun _ q hq=>?_⟩
   ·subst e
    rw [List.append_nil] at r12;exact up _ M h.2 (.ref p) H rh Frm.refl ⟨p,vs,rfl,t1,r12⟩
   ·exact up _ M h.2 _ _ (rh.new hq) (Frm.new hq) ⟨q,_,rfl,upd_same,r12.mono (Imm.new hq)⟩
 ·split at h
  ·rename_i xs ys e1 e2
   obtain ⟨p,vs,rfl,t1,r1⟩:=cK rh r1 e1;obtain ⟨p',vs',rfl,t2,r2⟩:=cK rh r2 e2;have l1:=r1.length;have l2:=r2.length;refine yr pins s σ H _ _ v u Q I rx ry ⟨p,p',vs,vs',rfl,rfl,t1,t2,by lia,fun q hq=>?_⟩
   exact up _ _ (h.2 q (rh.fresh hq)) _ _ (rh.put (by rw [hq];trivial) ⟨_,upd_same,(r1.append r2).mono (Imm.new hq)⟩) (Frm.put (.inl hq)) rfl
  ·exact h.elim
def oI(C:Int->Int->Prop)(g:Int->Int->D):dW:=fun x y M Q=>match x,y with
 |.int i,.int j=>C i j/\Q (g i j) M
 |_,_=>False
theorem Dc{f:Value->Value->Sem Value}{C:Int->Int->Prop}{g:Int->Int->V}{g':Int->Int->D}(h:cB X f (rI C g))(e:∀i j K H,Rp K H (g' i j) (g i j)):cB X f (liftR2 X (oI C g')):=by
 intro pins s σ H x y v u Q I rx ry hq;obtain ⟨d1,d2,M,QQ,rh,r1,r2,hq,up⟩:=hq;unfold oI at hq
 split at hq
 ·cases r1;cases r2
  exact h pins s σ H _ _ v u Q I rx ry ⟨_,_,rfl,rfl,hq.1,up _ M hq.2 _ H rh Frm.refl (e _ _ _ _)⟩
 ·exact hq.elim
def uo(g:Int->Int->D):dW:=fun x y M Q=>match x,y with
 |.int i,.int j=>Q (g i j) M
 |_,_=>False
theorem kI{f:Value->Value->Sem Value}{g:Int->Int->V}{g':Int->Int->D}(h:cB X f (xf g))(e:∀i j K H,Rp K H (g' i j) (g i j)):cB X f (liftR2 X (uo g')):=by
 intro pins s σ H x y v u Q I rx ry hq;obtain ⟨d1,d2,M,QQ,rh,r1,r2,hq,up⟩:=hq;unfold uo at hq
 split at hq
 ·cases r1;cases r2
  exact h pins s σ H _ _ v u Q I rx ry ⟨_,_,rfl,rfl,up _ M hq _ H rh Frm.refl (e _ _ _ _)⟩
 ·exact hq.elim
abbrev oZ:dW:=uo fun i j=>.int (i-j)
theorem gm:cB X (binaryOp .Sub) (liftR2 X oZ):=kI CZ fun _ _ _ _=>rfl
abbrev g9:dW:=oI (fun _ j=>0<j) fun i j=>.int (i % j)
theorem cJ:cB X (binaryOp .Mod) (liftR2 X g9):=Dc Dg fun _ _ _ _=>rfl
def AW(_ j:Int):Prop:=0<j/\j<2 ^ 200
theorem v7:cB X (binaryOp .FloorDiv) (rI AW fun i j=>.int (i / j)):=by
 intro pins s σ H x y v u Q I rx ry h;obtain ⟨i,j,rfl,rfl,hc,q⟩:=h;obtain ⟨h0,h1⟩:=hc;have hj:((j.toNat:Nat):Int)=j:=by lia
 refine wP (n:=j.toNat) ?_ (by lia) pins s σ H _ _ v u Q I rx ry ⟨i,j,rfl,rfl,hj.symm,q⟩
 have hlt:j.toNat<2 ^ 200:=by
  have:((j.toNat:Nat):Int)<((2 ^ 200:Nat):Int):=by rw [hj,Int.natCast_pow];exact h1
  exact Int.ofNat_lt.mp this
 have:=(Nat.log2_lt (n:=j.toNat) (k:=200) (by lia)).mpr hlt
 lia
abbrev nF:dW:=oI AW fun i j=>.int (i / j)
theorem jz:cB X (binaryOp .FloorDiv) (liftR2 X nF):=Dc v7 fun _ _ _ _=>rfl
abbrev BF:dW:=oI FG fun i j=>.int (i ^ j.toNat)
theorem xS:cB X (binaryOp .Pow) (liftR2 X BF):=Dc BH fun _ _ _ _=>rfl
abbrev EB:dW:=uo fun i j=>.int (Builtin.bitXor i j)
theorem yg:cB X (binaryOp .BitXor) (liftR2 X EB):=kI CJ fun _ _ _ _=>rfl
abbrev Ci:dW:=uo fun i j=>.bl (decide (i<j))
theorem lK:cB X (compareOp .Lt) (liftR2 X Ci):=kI EJ fun _ _ _ _=>rfl
abbrev Ds:dW:=uo fun i j=>.bl (decide (i<=j))
theorem ie:cB X (compareOp .LtE) (liftR2 X Ds):=kI EV fun _ _ _ _=>rfl
abbrev AD:dW:=uo fun i j=>.bl (decide (j<i))
theorem m8:cB X (compareOp .Gt) (liftR2 X AD):=kI FI fun _ _ _ _=>rfl
abbrev oGe:dW:=uo fun i j=>.bl (decide (j<=i))
theorem Df:cB X (compareOp .GtE) (liftR2 X oGe):=kI ER fun _ _ _ _=>rfl
theorem uC{c:Nat}:∀(k:Nat) (acc:Array Nat),(List.replicate k #[c]).foldl (·++·) acc=acc++Array.replicate k c
 |0,acc=>by simp
 |k+1,acc=>by
  rw [List.replicate_succ,List.foldl_cons,uC k (acc++#[c])];apply Array.ext';simp [List.replicate_succ]
theorem wz:cB X (binaryOp .Mult) (fun x y H Q=>∃c k,x=.str ⟨#[c]⟩/\y=.int k/\1<=k/\k<=1000/\Q (.str ⟨Array.replicate k.toNat c⟩) H):=by
 intro pins s σ H x y v u Q I rx ry h;obtain ⟨c,k,rfl,rfl,h1,h2,q⟩:=h;obtain ⟨t,rfl⟩:=rx;obtain ⟨t',rfl⟩:=ry;have hlen:(⟨#[c]⟩:Str).length=1:=rfl;have hsl:sizeLine=16777216:=rfl;refine PySem.P.mul_str ?_ ?_ ?_ ?_
 ·rw [decide_eq_false (by lia),decide_eq_false (by lia)];rfl
 ·intro _ _ hc
  rw [hlen] at hc;have:(1:Int)<=(2 ^ 63-1) / k:=Int.le_ediv_of_mul_le (by lia) (by lia)
  lia
 ·intro _ _
  rw [hlen];unfold PySem.Builtin.Str.tooLong;exact decide_eq_false (by lia)
 ·rw [if_neg (by lia)]
  by_cases hk:k=1
  ·rw [if_pos (by rw [hk];rfl)]
   subst hk;exact ⟨.str ⟨#[c]⟩,H,I,⟨_,rfl⟩,q⟩
  ·rw [if_neg (by simp [hlen,hk])]
   have he:(List.replicate k.toNat #[c]).foldl (·++·) #[]=Array.replicate k.toNat c:=by rw [uC];simp
   refine ⟨?_,.str ⟨(List.replicate k.toNat #[c]).foldl (·++·) #[]⟩,H,I.tok _,⟨_,rfl⟩,by rw [he];exact q⟩
   show ((List.replicate k.toNat #[c]).foldl (·++·) #[]).size<=sizeLine;rw [he];simp;lia
def lR:dW:=fun x y M Q=>match x,y with
 |.int i,.int j=>CMul i j/\Q (.int (i*j)) M
 |.str z,.int k=>match z.cps.toList with
  |[c]=>1<=k/\k<=1000/\Q (.str ⟨Array.replicate k.toNat c⟩) M
  |_=>False
 |.tup xs,.int k=>xs≠[]/\0<=k/\k<=1000/\xs.length<=1000/\Q (.tup (List.replicate k.toNat xs).flatten) M
 |_,_=>False
theorem Rps.rep{ds:List D}{vs:List V}(h:Rps K H ds vs):∀k:Nat,Rps K H (List.replicate k ds).flatten (List.replicate k vs).flatten
 |0=>rfl
 |k+1=>by
  rw [List.replicate_succ,List.replicate_succ,List.flatten_cons,List.flatten_cons];exact h.append (Rps.rep h k)
theorem dY:cB X (binaryOp .Mult) (liftR2 X lR):=by
 intro pins s σ H x y v u Q I rx ry h;obtain ⟨d1,d2,M,QQ,rh,r1,r2,h,up⟩:=h;cases d1 with
 |int i=>
  cases d2 with
  |int j=>
   cases r1;cases r2;exact Bz pins s σ H _ _ v u Q I rx ry ⟨_,_,rfl,rfl,h.1,up _ M h.2 _ H rh Frm.refl rfl⟩
  |_=>exact (show False from h).elim
 |str z=>
  cases d2 with
  |int k=>
   cases r1;cases r2;simp only [lR] at h
   split at h
   ·rename_i c e
    have ez:z=⟨#[c]⟩:=by
     obtain ⟨⟨l⟩⟩:=z;have e':l=[c]:=e;rw [e']
    subst ez;exact wz pins s σ H _ _ v u Q I rx ry ⟨_,_,rfl,rfl,h.1,h.2.1,up _ M h.2.2 _ H rh Frm.refl rfl⟩
   ·exact h.elim
  |_=>exact (show False from h).elim
 |tup xs=>
  cases d2 with
  |int k=>
   obtain ⟨p,vs,rfl,t1,r1⟩:=r1;cases r2;obtain ⟨h1,h2,h3,h4,h5⟩:=h;have l1:=r1.length;obtain ⟨t,rfl⟩:=ry;cases rx;obtain ⟨its,r,pt,_⟩:=I.tuple t1.sq;have hl:=r.length;refine sh pt (fun z=>h1 ?_) h2 h3 (by lia) (fun e=>?_) fun e=>?_
   ·have hz:its.length=0:=congrArg List.length z
    exact List.eq_nil_of_length_eq_zero (by lia)
   ·subst e
    refine ⟨.ref p,H,I,rfl,up _ M h5 _ H rh Frm.refl ⟨p,vs,rfl,t1,?_⟩⟩;simpa using r1
   ·have hf:H s.heap.objs.size=none:=I.hok.fresh (Nat.le_refl _)
    have hz:(List.replicate k.toNat vs).flatten.length<=sizeLine:=by
     rw [Ac];have h1:k.toNat*vs.length<=1000*1000:=Nat.mul_le_mul (by lia) (by lia)
     exact Nat.le_trans h1 (by decide)
    have i2:Imm H (upd H s.heap.objs.size (.tup (List.replicate k.toNat vs).flatten)):=Imm.new hf;exact ⟨.ref s.heap.objs.size,_,I.laid (t':=s.toks) (o:=.tup (List.replicate k.toNat vs).flatten) (fun b ob z=>Heap.get?_push_of_some _ z) (Nat.le_refl _) ⟨hz,_,r.rep k.toNat,⟨_,Heap.get?_push_size _ rfl,⟨rfl,_,rfl⟩,rfl⟩⟩,rfl,
     up _ M h5 _ _ (rh.new hf) (Frm.new hf) ⟨_,_,rfl,upd_same,(r1.rep _).mono i2⟩⟩
  |_=>exact (show False from h).elim
 |_=>exact (show False from h).elim
def vp:D->Bool
 |.non=>true
 |_=>false
def wI:dW:=fun x y M Q=>match y with
 |.non=>Q (.bl (vp x)) M
 |_=>False
def kU:dW:=fun x y M Q=>match y with
 |.non=>Q (.bl (!vp x)) M
 |_=>False
theorem vj(r:Rp K H d v):decide (v=V.non)=vp d:=by
 cases d with
 |non=>cases r;rfl
 |tup xs=>obtain ⟨p,vs,rfl,_⟩:=r;rfl
 |lst xs=>obtain ⟨p,vs,rfl,_⟩:=r;rfl
 |mt xs=>obtain ⟨p,vs,rfl,_⟩:=r;rfl
 |ml xs=>obtain ⟨p,vs,rfl,_⟩:=r;rfl
 |_=>cases r;rfl
theorem lz:cB X (compareOp .Is) (liftR2 X wI):=by
 intro pins s σ H x y v u Q I rx ry h;obtain ⟨d1,d2,M,QQ,rh,r1,r2,h,up⟩:=h;unfold wI at h
 split at h
 ·cases r2
  exact Cg pins s σ H _ _ v u Q I rx ry ⟨rfl,by rw [vj r1];exact up _ M h _ H rh Frm.refl rfl⟩
 ·exact h.elim
theorem og:cB X (compareOp .IsNot) (liftR2 X kU):=by
 intro pins s σ H x y v u Q I rx ry h;obtain ⟨d1,d2,M,QQ,rh,r1,r2,h,up⟩:=h;unfold kU at h
 split at h
 ·cases r2
  refine yu pins s σ H _ _ v u Q I rx ry ⟨rfl,up _ M h _ H rh Frm.refl ?_⟩;show _=V.bl _;rw [vj r1]
 ·exact h.elim
end
end L3
namespace L3
open PySem L2
section
variable {κ:Type}[DecidableEq κ]
def iC(kvs:List (κ×D))(k:κ):Option D:=(kvs.find? fun kv=>decide (kv.1=k)).map (·.2)
def fU(kvs:List (κ×D))(k:κ)(v:D):List (κ×D):=
 if (kvs.any fun kv=>decide (kv.1=k))=true then kvs.map (fun kv=>if kv.1=k then (kv.1,v) else kv) else kvs++[(k,v)]
variable {K:W.Frag}{H:Hp}
theorem Rkv.val{kvs:List (κ×D)}{ws:List (κ×V)}(h:Rkv K H kvs ws)(k:κ):(iC kvs k=none/\fB ws k=none)\/∃d v,iC kvs k=some d/\fB ws k=some v/\Rp K H d v:=by
 induction h with
 |nil=>exact .inl ⟨rfl,rfl⟩
 |@cons p q ps qs r t ih=>
  obtain ⟨k1,d⟩:=p;obtain ⟨k2,v⟩:=q;obtain ⟨e,r⟩:=r;dsimp only at e r;subst e
  by_cases hk:k1=k
  ·exact .inr ⟨d,v,by simp [iC,hk],by simp [fB,hk],r⟩
  ·simpa [iC,fB,hk] using ih
theorem Rkv.any{kvs:List (κ×D)}{ws:List (κ×V)}(h:Rkv K H kvs ws)(k:κ):(kvs.any fun kv=>decide (kv.1=k))=(ws.any fun kv=>decide (kv.1=k)):=by
 induction h with
 |nil=>rfl
 |cons r t ih=>rw [List.any_cons,List.any_cons,ih,r.1]
theorem Rkv.put{kvs:List (κ×D)}{ws:List (κ×V)}(h:Rkv K H kvs ws)(k:κ){d:D}{v:V}(r:Rp K H d v):Rkv K H (fU kvs k d) (cZ ws k v):=by
 unfold fU cZ;rw [h.any k]
 split
 ·rename_i q;clear q
  induction h with
  |nil=>exact .nil
  |@cons p q ps qs rr t ih=>
   obtain ⟨k1,d'⟩:=p;obtain ⟨k2,v'⟩:=q;obtain ⟨e,r'⟩:=rr;dsimp only at e r';subst e;rw [List.map_cons,List.map_cons];refine .cons ?_ ih
   by_cases hk:k1=k
   ·rw [if_pos hk,if_pos hk];exact ⟨rfl,r⟩
   ·rw [if_neg hk,if_neg hk];exact ⟨rfl,r'⟩
 ·rename_i q;clear q
  induction h with
  |nil=>exact .cons ⟨rfl,r⟩ .nil
  |cons rr t ih=>exact .cons rr ih
theorem Rkv.length{kvs:List (κ×D)}{ws:List (κ×V)}(h:Rkv K H kvs ws):kvs.length=ws.length:=Paired.length h
end
def nh:D->Option bR
 |.int i=>some (.inl i)
 |.str x=>some (.inr x)
 |_=>none
def keysOf:List D->Option (List bR)
 |[]=>some []
 |d::ds=>match nh d,keysOf ds with
  |some k,some ks=>some (k::ks)
  |_,_=>none
def Dx:D->Option (List bR)
 |.tup xs=>keysOf xs
 |_=>none
section
variable {X:Cx}{K:W.Frag}{H:Hp}{M:Mem}
theorem lS{d:D}{v:V}{k:bR}(r:Rp K H d v)(e:nh d=some k):v=kV k:=by
 cases d with
 |int i=>cases e;exact r
 |str x=>cases e;exact r
 |_=>cases e
theorem ji:∀{ds:List D} {vs:List V} {ks:List bR},Rps K H ds vs->keysOf ds=some ks->vs=ks.map kV
 |[],vs,ks,r,e=>by cases e;exact r
 |d::ds,vs,ks,r,e=>by
  obtain ⟨v,r',rfl,a,b⟩:=r;simp only [keysOf] at e
  split at e
  ·rename_i k ks' e1 e2
   cases e;rw [lS a e1,ji b e2];rfl
  ·cases e
def zY(M:Mem)(a:Addr)(y:D):Option (Option D):=match M a with
 |some (.dK kvs)=>match nh y with
  |some k=>some (iC kvs k)
  |none=>none
 |some (.dT kvs)=>match Dx y with
  |some k=>some (iC kvs k)
  |none=>none
 |_=>none
theorem mV{d:D}{v:V}{ks:List bR}(r:Rp K H d v)(e:Dx d=some ks):∃b,v=.ref b/\H b=some (.tup (ks.map kV)):=by
 cases d with
 |tup xs=>
  obtain ⟨p,vs,rfl,t,r⟩:=r;exact ⟨p,rfl,by rw [<- ji r e];exact t⟩
 |_=>cases e
theorem rz{a:Addr}{y:D}{v:V}{o:Option D}(rh:RepH K H M)(r:Rp K H y v)(e:zY M a y=some o):
  (o=none/\DGet H a v none)\/∃d w,o=some d/\DGet H a v (some w)/\Rp K H d w:=by
 unfold zY at e
 split at e
 ·rename_i kvs hM
  obtain ⟨ws,h1,h2⟩:=rh _ _ hM
  split at e
  ·rename_i k ek
   cases e;have ev:=lS r ek;subst ev;rcases h2.val k with ⟨e1,e2⟩|⟨d,w,e1,e2,r'⟩
   ·exact .inl ⟨e1,by rw [<- e2];exact DGet.k h1⟩
   ·exact .inr ⟨d,w,e1,by rw [<- e2];exact DGet.k h1,r'⟩
  ·cases e
 ·rename_i kvs hM
  obtain ⟨ws,h1,h2⟩:=rh _ _ hM
  split at e
  ·rename_i k ek
   cases e;obtain ⟨b,rfl,hb⟩:=mV r ek;rcases h2.val k with ⟨e1,e2⟩|⟨d,w,e1,e2,r'⟩
   ·exact .inl ⟨e1,by rw [<- e2];exact DGet.t h1 hb⟩
   ·exact .inr ⟨d,w,e1,by rw [<- e2];exact DGet.t h1 hb,r'⟩
  ·cases e
 ·cases e
end
end L3
namespace HT
open PySem PyProof.Rows
section
variable {prog:Program}{w:World}{A:Around}{E:Value->Shared->Prop}{s:Shared}
theorem fz{t sl:Addr}{items:Array Value}{vl vu:Value}{lo hi:Option Int}{Q:Value->Shared->Prop}(ht:IsTup s.heap t items)(hs:s.heap.IsSliceOf sl vl vu .none)(pl:IsPart vl lo)(pu:IsPart vu hi)
  (hw:sIx items.size 0 lo=0/\sIx items.size items.size hi=items.size) (h:Q (.ref t) s):wpAny (model prog w) A (getItem (.ref t) (.ref sl)) Q E s:=by
 obtain ⟨os,hos,hcs,hds⟩:=id hs;have hTs:s.TypeIs (.ref sl) "slice":=⟨os,hos,hcs⟩;unfold getItem
 try with_reducible refine wpAny_holding ?_
 first|refine wpAny_bind (wpAny_pure ?_)|skip
 refine wpAny_bind (wpAny_sequenceKey ht.typeIs (by decide) ?_)
 refine wpAny_bind (wpAny_callSpecial?_slot (name:=Str.ofString "__getitem__") ht.typeIs PyProof.Rows.slot_tuple_getitem
  (wpAny_call_entry PyProof.Rows.slot_tuple_getitem ht.typeIs entry_tuple_getitem ?_ (args_tuple_getitem _ _)))
 show wpAny _ _ (Builtin.Tuple.tupleItemsOf (.ref t) >>= _) _ _ s;refine wpAny_bind (tupleItemsOf_ ht ?_);refine wpAny_bind (wpAny_typeOf hTs ?_);rw [if_pos (by decide)]
 refine wpAny_bind (dE hs pl pu ?_);have hyes:((((sIx items.size 0 lo:Nat):Int)==0&&(1:Int)==1&&(sIx items.size items.size hi-sIx items.size 0 lo)==items.size)=true):=by
  rw [hw.1,hw.2];simp
 show wpAny _ _ (if (((sIx items.size 0 lo:Nat):Int)==0&&(1:Int)==1&&(sIx items.size items.size hi-sIx items.size 0 lo)==items.size)=true then _ else _) _ _ s
 rw [if_pos hyes];refine wpAny_bind (m:=Builtin.Tuple.tupleIsExact _) (wpAny_bind (wpAny_typeOf ht.typeIs (wpAny_pure ?_)));rw [if_pos (by decide)]
 first
  |exact wpAny_bind (wpAny_rule (wpAny_bind (wpAny_pure (wpAny_pure ⟨_,rfl,wpAny_pure h⟩))))
  |exact wpAny_bind (wpAny_rule (wpAny_pure ⟨_,rfl,wpAny_pure h⟩))
  |exact wpAny_bind (wpAny_rule (wpAny_bind (wpAny_pure ⟨_,rfl,wpAny_pure h⟩)))
  |trace_state
end
end HT
namespace L3
open PySem L2
section
variable {X:Cx}{B:Mem}{K:W.Frag}{H:Hp}{M:Mem}{a b c:Expr}{ta tb tc:bL}{pos:Pos}
def bd:dW:=fun x y M Q=>match gU M x,y with
 |some xs,.int i=>match atI xs i with
  |some d=>Q d M
  |none=>False
 |some _,_=>False
 |none,y=>match x,y with
  |.str z,.int i=>z.length<=sizeLine/\match atI z.cps.toList i with
   |some c=>Q (.str ⟨#[c]⟩) M
   |none=>False
  |.ref a,y=>match zY M a y with
   |some (some d)=>Q d M
   |_=>False
  |_,_=>False
theorem Rps.atI{ds:List D}{vs:List V}{i:Int}{d:D}(r:Rps K H ds vs)(e:atI ds i=some d):∃v,L2.atI vs i=some v/\Rp K H d v:=by
 unfold L2.atI at e ⊢;rw [<- r.length];cases q:oR ds.length i with
 |none=>rw [q] at e;cases e
 |some j=>
  rw [q] at e;exact r.get (i:=j) e
theorem xJ(hu:X.A.units+1<cLine):IxR X (fun x y H Q=>∃a v,x=.ref a/\DGet H a y (some v)/\Q v H):=by
 intro value slice pins s σ H x y v u Q I rx ry h hs;obtain ⟨a,w,rfl,g,q⟩:=h;cases rx;exact PyProof.Rows.tail_any (oE I g) PySem.F.slot_dict_getitem.lookup (rX hu I g ry fun w' s3 I3 rw'=>⟨w,H,I3,rw',q⟩) hs
theorem ap(hu:X.A.units+1<cLine):IxR X (liftR2 X bd):=by
 intro value slice pins s σ H x y v u Q I rx ry h hs;obtain ⟨d1,d2,M,QQ,rh,r1,r2,h,up⟩:=h;unfold bd at h
 split at h
 ·rename_i xs i e
  split at h
  ·rename_i d ed
   cases r2;obtain ⟨p,vs,rfl,hq,r⟩:=iQ rh r1 e;obtain ⟨w,ew,rw'⟩:=r.atI ed;refine DN value slice pins s σ H _ _ v u Q I rx ry ?_ hs;have hu':=up _ M h _ H rh Frm.refl rw';rcases hq with hq|hq
   ·exact .inl ⟨p,vs,i,w,rfl,rfl,hq,ew,hu'⟩
   ·exact .inr (.inl ⟨p,vs,i,w,rfl,rfl,hq,ew,hu'⟩)
  ·exact h.elim
 ·exact h.elim
 ·split at h
  ·obtain ⟨hz,h⟩:=h
   split at h
   ·rename_i ch ec
    cases r1;cases r2;exact wg value slice pins s σ H _ _ v u Q I rx ry ⟨_,_,ch,rfl,rfl,hz,ec,up _ M h _ H rh Frm.refl rfl⟩ hs
   ·exact h.elim
  ·split at h
   ·rename_i d ed
    cases r1;rcases rz rh r2 ed with ⟨z,_⟩|⟨d',w,z,g,rw'⟩
    ·cases z
    ·cases z
     exact xJ hu value slice pins s σ H _ _ v u Q I rx ry ⟨_,w,rfl,g,up _ M h _ H rh Frm.refl rw'⟩ hs
   ·exact h.elim
  ·exact h.elim
abbrev Eg:=Dl->Mem->(Option Int->Mem->Prop)->Prop
inductive liftO(X:Cx)(B:Mem)(T:Eg)(σ:St)(H:Hp)(Q:Option Int->Hp->Prop):Prop
 |mk (δ:Dl) (M:Mem) (QQ:Option Int->Mem->Prop) (s:SR X B δ M σ H) (h:T δ M QQ) (u:∀o M',QQ o M'->∀H',RepH X.K H' M'->Frm M H M' H'->Q o H'):liftO X B T σ H Q
def DO(X:Cx)(B:Mem)(e:Option Expr)(T:Eg):Prop:=PO X e (liftO X B T)
theorem rE{X:Cx}{e:Option Expr}{t t':TO}(h:PO X e t)(w:∀σ H Q,t' σ H Q->t σ H Q):PO X e t':=fun pins s σ H Q I q=>h pins s σ H Q I (w σ H Q q)
def fc:Eg:=fun _ M Q=>Q none M
def kz(t:bL):Eg:=fun δ M Q=>t δ M fun x M1=>match x with
 |.int i=>Q (some i) M1
 |_=>False
theorem gn:DO X B none fc:=rE zt fun σ H Q ⟨δ,M,QQ,s,h,u⟩=>u none M h H s.rh Frm.refl
theorem gz{e:Expr}{te:bL}(h:DE X B e te):DO X B (some e) (kz te):=by
 refine rE (ye h) ?_
 rintro σ H Q ⟨δ,M,QQ,s,h,u⟩
 refine ⟨δ,M,_,s,h,fun d M' q v H' rh i r=>?_⟩;cases d with
 |int j=>exact ⟨j,r,u _ M' q H' rh i⟩
 |_=>exact (show False from q).elim
def g_(xs:List D)(lo hi:Option Int):List D:=(xs.drop (HT.sIx xs.length 0 lo)).take (HT.sIx xs.length xs.length hi-HT.sIx xs.length 0 lo)
theorem Rps.cut{ds:List D}{vs:List V}(r:Rps K H ds vs)(lo hi:Option Int):Rps K H (g_ ds lo hi) (iI vs lo hi):=by
 unfold g_ iI;rw [<- r.length];exact (r.drop _).take _
def oSl(x:D)(lo hi:Option Int)(M:Mem)(Q:DK):Prop:=match x with
 |.tup xs=>Q (.tup (g_ xs lo hi)) M
 |.ml xs=>∀p,M p=none->Q (.ref p) (M.upd p (.lst (g_ xs lo hi)))
 |x=>match hV M x with
  |some xs=>∀p,M p=none->Q (.ref p) (M.upd p (.lst (g_ xs lo hi)))
  |none=>False
inductive liftSl(X:Cx)(x:V)(lo hi:Option Int)(H:Hp)(Q:VK):Prop
 |mk (d:D) (M:Mem) (QQ:DK) (rh:RepH X.K H M) (r:Rp X.K H d x) (h:oSl d lo hi M QQ) (u:Up X.K M H QQ Q):liftSl X x lo hi H Q
theorem pG{vs:List V}{lo hi:Option Int}(h:HT.sIx vs.length 0 lo=0/\HT.sIx vs.length vs.length hi=vs.length):iI vs lo hi=vs:=by
 unfold iI;rw [h.1,h.2];simp
theorem yP:FK X (fun x lo hi H Q=>∃a xs,x=.ref a/\gG X.K H a xs/\(iI xs lo hi=xs->Q (.ref a) H)/\∀p,H p=none->Q (.ref p) (upd H p (.tup (iI xs lo hi)))):=by
 intro pins s σ H x v vl vu lo hi sl Q I rx hs pl pu h;obtain ⟨a,xs,rfl,hx,q0,q⟩:=h
 by_cases hw:HT.sIx xs.length 0 lo=0/\HT.sIx xs.length xs.length hi=xs.length
 ·cases rx
  obtain ⟨its,r,ht,hz⟩:=I.tuple hx;have hlen:its.toArray.size=xs.length:=by rw [List.size_toArray];exact r.length.symm
  refine ⟨"tuple",_,PyProof.Rows.slot_tuple_getitem.lookup,ht.typeIs,?_⟩;exact HT.fz ht hs pl pu (by rw [hlen];exact hw) ⟨.ref a,H,I,rfl,q0 (pG hw)⟩
 ·exact Cw pins s σ H _ v vl vu lo hi sl Q I rx hs pl pu ⟨a,xs,rfl,hx,hw,q⟩
end
end L3
namespace L3
open PySem L2
section
variable {X:Cx}{B:Mem}{K:W.Frag}{H:Hp}{M:Mem}{e:Expr}{es:List Expr}{te:bL}{lo hi:Option Expr}{tl th:Eg}{pos p2 p:Pos}{t:eE}
theorem DH:FK X (liftSl X):=by
 intro pins s σ H x v vl vu lo hi sl Q I rx hs pl pu h;obtain ⟨d,M,QQ,rh,r,h,up⟩:=h;unfold oSl at h
 split at h
 ·obtain ⟨a,vs,rfl,ht,r⟩:=r
  refine yP pins s σ H _ v vl vu lo hi sl Q I rx hs pl pu ⟨a,vs,rfl,ht.sq,fun e=>?_,fun p hp=>?_⟩
  ·exact up _ M h _ H rh Frm.refl ⟨a,vs,rfl,ht,by rw [<- e];exact r.cut lo hi⟩
  ·exact up _ M h _ _ (rh.new hp) (Frm.new hp) ⟨p,_,rfl,upd_same,(r.cut lo hi).mono (Imm.new hp)⟩
 ·obtain ⟨a,vs,rfl,hq,r⟩:=r
  refine rL pins s σ H _ v vl vu lo hi sl Q I rx hs pl pu ⟨a,vs,rfl,hq.sq,fun p hp=>?_⟩;exact up _ _ (h p (rh.fresh hp)) _ _ (rh.put (by rw [hp];trivial) ⟨_,upd_same,(r.cut lo hi).mono (Imm.new hp)⟩) (Frm.put (.inl hp)) rfl
 ·split at h
  ·rename_i xs e
   obtain ⟨a,vs,rfl,hq,r⟩:=cK rh r e;refine rL pins s σ H _ v vl vu lo hi sl Q I rx hs pl pu ⟨a,vs,rfl,.inl hq,fun p hp=>?_⟩;exact up _ _ (h p (rh.fresh hp)) _ _ (rh.put (by rw [hp];trivial) ⟨_,upd_same,(r.cut lo hi).mono (Imm.new hp)⟩) (Frm.put (.inl hp)) rfl
  ·exact h.elim
def Ei(te:bL)(tl th:Eg):bL:=fun δ M Q=>te δ M fun x M1=>tl δ M1 fun l M2=>th δ M2 fun u M3=>oSl x l u M3 Q
theorem eW(he:DE X B e te)(hl:DO X B lo tl)(hu:DO X B hi th):DE X B (.Subscript e (.Slice lo hi none p2) pos) (Ei te tl th):=by
 refine bc (vf DH he hl hu) ?_
 rintro σ H Q ⟨δ,M,QQ,s,h,u⟩
 refine ⟨δ,M,_,s,h,fun x M1 h1 v1 H1 rh1 i1 r1=>?_⟩;refine ⟨δ,M1,_,s.go rh1 i1,h1,fun l M2 h2 H2 rh2 i2=>?_⟩;refine ⟨δ,M2,_,s.go rh2 (i1.trans i2),h2,fun w M3 h3 H3 rh3 i3=>?_⟩;exact ⟨x,M3,QQ,rh3,r1.mf rh1 (i2.trans i3),h3,u.go ((i1.trans i2).trans i3)⟩
abbrev qH:=List D->Mem->DK->Prop
inductive liftC(X:Cx)(r:qH)(xs:List V)(H:Hp)(Q:VK):Prop
 |mk (ds:List D) (M:Mem) (QQ:DK) (rh:RepH X.K H M) (rp:Rps X.K H ds xs) (h:r ds M QQ) (u:Up X.K M H QQ Q):liftC X r xs H Q
def c9(r:qH)(t:eE):bL:=fun δ M Q=>t δ M fun vs M1=>r vs M1 Q
theorem qP{r:qH}{σ:L2.St}{H:Hp}{Q:VK}(h:liftE X B (c9 r t) σ H Q):tCB (liftC X r) (liftA X B t) σ H Q:=by
 obtain ⟨δ,M,QQ,s,h,u⟩:=h;refine ⟨δ,M,_,s,h,fun ds M1 h1 vs H1 rh1 i1 r1=>?_⟩;exact ⟨ds,M1,QQ,rh1,r1,h1,u.go i1⟩
theorem aA{x:Str}{id:String}{r:qH}(hc:cj X (.builtin id) (liftC X r))(hg:Gl X x)(hm:X.mg x=none)(hv:bootBuiltins x=some (.builtin id))(ha:DA X B (e::es) t)(hn:x≠"__name__":=by decide)(hdb:(x==("__debug__":Str))=false:=by decide)
  (he:starEach (e::es) X.env=(false,eval e X.env)::starEach es X.env:=by rfl) (hpl:(backTo pos (starEach es X.env)).any (·.1)=false:=by rfl):DE X B (.Call (.Name x p) (e::es) [] pos) (c9 r t):=
 bc (vm hc hg hm hv ha hn hdb he hpl) fun _ _ _ h=>qP h
theorem bF{x:Str}{T:String}{r:qH}(hc:cj X (.type T) (liftC X r))(hg:Gl X x)(hm:X.mg x=none)(hv:bootBuiltins x=some (.type T))(ha:DA X B (e::es) t)(hn:x≠"__name__":=by decide)(hdb:(x==("__debug__":Str))=false:=by decide)
  (he:starEach (e::es) X.env=(false,eval e X.env)::starEach es X.env:=by rfl) (hpl:(backTo pos (starEach es X.env)).any (·.1)=false:=by rfl):DE X B (.Call (.Name x p) (e::es) [] pos) (c9 r t):=
 bc (tG hc hg hm hv ha hn hdb he hpl) fun _ _ _ h=>qP h
theorem eI{ds:List D}{vs:List V}{d:D}(r:Rps K H [d] vs):∃v,vs=[v]/\Rp K H d v:=by
 obtain ⟨v,w,rfl,a,b⟩:=r;cases b;exact ⟨v,rfl,a⟩
theorem yS{vs:List V}{d e:D}(r:Rps K H [d,e] vs):∃v w,vs=[v,w]/\Rp K H d v/\Rp K H e w:=by
 obtain ⟨v,w,rfl,a,b⟩:=r;obtain ⟨v',w',rfl,a',b⟩:=b;cases b;exact ⟨v,v',rfl,a,a'⟩
def cV:qH:=fun ds M Q=>match ds with
 |[d]=>match gU M d with
  |some xs=>Q (.int xs.length) M
  |none=>match d with
   |.str z=>z.length<=sizeLine/\Q (.int z.length) M
   |.ref a=>match M a with
    |some (.dK kvs)=>Q (.int kvs.length) M
    |_=>False
   |_=>False
 |_=>False
theorem bb:cj X (.builtin "len") (liftC X cV):=by
 intro pins s σ H xs us Q I r h;obtain ⟨ds,M,QQ,rh,rp,h,up⟩:=h;unfold cV at h
 split at h
 ·obtain ⟨v,rfl,rv⟩:=eI (ds:=[]) rp
  split at h
  ·rename_i ys e
   obtain ⟨q,vs,rfl,hq,rr⟩:=iQ rh rv e;exact lX pins s σ H _ us Q I r ⟨q,vs,rfl,hq,by rw [<- rr.length];exact up _ M h _ H rh Frm.refl rfl⟩
  ·split at h
   ·cases rv
    exact la pins s σ H _ us Q I r ⟨_,rfl,h.1,up _ M h.2 _ H rh Frm.refl rfl⟩
   ·split at h
    ·rename_i kvs e
     cases rv;obtain ⟨ws,h1,h2⟩:=rh _ _ e;exact su pins s σ H _ us Q I r ⟨_,ws,rfl,h1,by rw [<- h2.length];exact up _ M h _ H rh Frm.refl rfl⟩
    ·exact h.elim
   ·exact h.elim
 ·exact h.elim
def wE:qH:=fun ds M Q=>match ds with
 |[d]=>match gU M d with
  |some xs=>∀p,M p=none->Q (.ref p) (M.upd p (.lst xs))
  |none=>False
 |_=>False
theorem pw:cj X (.type "list") (liftC X wE):=by
 intro pins s σ H xs us Q I r h;obtain ⟨ds,M,QQ,rh,rp,h,up⟩:=h;unfold wE at h
 split at h
 ·obtain ⟨v,rfl,rv⟩:=eI (ds:=[]) rp
  split at h
  ·rename_i ys e
   obtain ⟨q,vs,rfl,hq,rr⟩:=iQ rh rv e;refine lQ pins s σ H _ us Q I r ⟨q,vs,rfl,hq,fun p hp=>?_⟩;exact up _ _ (h p (rh.fresh hp)) _ _ (rh.put (by rw [hp];trivial) ⟨_,upd_same,rr.mono (Imm.new hp)⟩) (Frm.put (.inl hp)) rfl
  ·exact h.elim
 ·exact h.elim
def cG:qH:=fun ds M Q=>match ds with
 |[.tup xs]=>Q (.tup xs) M
 |[d]=>match hV M d with
  |some xs=>Q (.tup xs) M
  |none=>False
 |_=>False
theorem bw:cj X (.type "tuple") (liftC X cG):=by
 intro pins s σ H xs us Q I r h;obtain ⟨ds,M,QQ,rh,rp,h,up⟩:=h;unfold cG at h
 split at h
 ·obtain ⟨v,rfl,rv⟩:=eI (ds:=[]) rp
  obtain ⟨q,vs,rfl,ht,rr⟩:=rv;exact fE pins s σ H _ us Q I r ⟨q,vs,rfl,.inr ⟨ht.sq,up _ M h _ H rh Frm.refl ⟨q,vs,rfl,ht,rr⟩⟩⟩
 ·obtain ⟨v,rfl,rv⟩:=eI (ds:=[]) rp
  split at h
  ·rename_i ys e
   obtain ⟨q,vs,rfl,hq,rr⟩:=cK rh rv e;refine fE pins s σ H _ us Q I r ⟨q,vs,rfl,.inl ⟨.inl hq,fun p hp=>?_⟩⟩;exact up _ M h _ _ (rh.new hp) (Frm.new hp) ⟨p,_,rfl,upd_same,rr.mono (Imm.new hp)⟩
  ·exact h.elim
 ·exact h.elim
def gX(M:Mem):D->Option String
 |.non=>some "NoneType"
 |.bl _=>some "bool"
 |.int _=>some "int"
 |.str _=>some "str"
 |.tup _=>some "tuple"
 |.lst _=>some "list"
 |.ref a=>match M a with
  |some (.lst _)=>some "list"
  |some (.dK _)=>some "dict"
  |some (.dT _)=>some "dict"
  |_=>none
 |_=>none
def bQ(t T:String):Bool:=t==T||(t=="bool"&&T=="int")
def pQ(T:String):Bool:=T=="bool"||T=="int"||T=="str"||T=="tuple"||T=="list"||T=="dict"
theorem yv:(∀K:W.Frag,∀t∈["NoneType","bool","int","str","tuple","list","dict"],∀T∈["bool","int","str","tuple","list","dict"],W.kitOne K (.type t) (.type T)=some (bQ t T)):=by
 intro K t ht T hT;simp only [List.mem_cons,List.not_mem_nil,or_false] at ht hT;rcases ht with rfl|rfl|rfl|rfl|rfl|rfl|rfl<;>rcases hT with rfl|rfl|rfl|rfl|rfl|rfl<;>kernel_rfl
theorem zF{d:D}{v:V}{t:String}(rh:RepH K H M)(r:Rp K H d v)(e:gX M d=some t):TyOf K H v (.type t)/\t∈["NoneType","bool","int","str","tuple","list","dict"]:=by
 cases d with
 |non=>cases r;cases e;exact ⟨.non,by simp⟩
 |bl b=>cases r;cases e;exact ⟨.bl b,by simp⟩
 |int i=>cases r;cases e;exact ⟨.int i,by simp⟩
 |str x=>cases r;cases e;exact ⟨.str x,by simp⟩
 |ty n=>cases e
 |mt n=>cases e
 |ml n=>cases e
 |tup xs=>
  cases e;obtain ⟨q,vs,rfl,ht,rr⟩:=r;exact ⟨.tup ht,by simp⟩
 |lst xs=>
  cases e;obtain ⟨q,vs,rfl,⟨o,ht⟩,rr⟩:=r;exact ⟨.frz ht,by simp⟩
 |ref a=>
  cases r;simp only [gX] at e
  split at e
  ·rename_i q;cases e;obtain ⟨ws,h1,h2⟩:=rh _ _ q;exact ⟨.lst h1,by simp⟩
  ·rename_i q;cases e;obtain ⟨ws,h1,h2⟩:=rh _ _ q;exact ⟨.dK h1,by simp⟩
  ·rename_i q;cases e;obtain ⟨ws,h1,h2⟩:=rh _ _ q;exact ⟨.dT h1,by simp⟩
  ·cases e
def bY:qH:=fun ds M Q=>match ds with
 |[d,.ty T]=>pQ T=true/\match gX M d with
  |some t=>Q (.bl (bQ t T)) M
  |none=>False
 |_=>False
theorem aL:cj X (.builtin "isinstance") (liftC X bY):=by
 intro pins s σ H xs us Q I r h;obtain ⟨ds,M,QQ,rh,rp,h,up⟩:=h;unfold bY at h
 split at h
 ·rename_i d T
  obtain ⟨hT,h⟩:=h;obtain ⟨v,w,rfl,rv,rw'⟩:=yS rp;cases rw'
  split at h
  ·rename_i t e
   obtain ⟨ty,ht⟩:=zF rh rv e;refine nM pins s σ H _ us Q I r ⟨v,T,.type t,_,rfl,ty,yv X.K t ht T ?_,up _ M h _ H rh Frm.refl rfl⟩;simp only [pQ,Bool.or_eq_true,beq_iff_eq] at hT;simp only [List.mem_cons,List.not_mem_nil,or_false];rcases hT with ((((h|h)|h)|h)|h)|h<;>simp [h]
  ·exact h.elim
 ·exact h.elim
def gi:List D->Option (List Bool)
 |[]=>some []
 |.bl b::ds=>match gi ds with
  |some bs=>some (b::bs)
  |none=>none
 |_=>none
theorem h9:∀{ds:List D} {vs:List V} {bs:List Bool},Rps K H ds vs->gi ds=some bs->vs=bs.map V.bl
 |[],vs,bs,r,e=>by cases e;exact r
 |d::ds,vs,bs,r,e=>by
  obtain ⟨v,r',rfl,a,b⟩:=r;cases d with
  |bl c=>
   simp only [gi] at e
   split at e
   ·rename_i bs' e2
    cases e;cases a;rw [h9 b e2];rfl
   ·cases e
  |_=>cases e
def pS:qH:=fun ds M Q=>match ds with
 |[d]=>match hV M d with
  |some xs=>match gi xs with
   |some bs=>Q (.bl (bs.all id)) M
   |none=>False
  |none=>False
 |_=>False
theorem dF(hc:X.calm=true):cj X (.builtin "all") (liftC X pS):=by
 intro pins s σ H xs us Q I r h;obtain ⟨ds,M,QQ,rh,rp,h,up⟩:=h;unfold pS at h
 split at h
 ·obtain ⟨v,rfl,rv⟩:=eI (ds:=[]) rp
  split at h
  ·rename_i ys e
   split at h
   ·rename_i bs eb
    obtain ⟨q,vs,rfl,hq,rr⟩:=cK rh rv e;have ev:=h9 rr eb;subst ev;exact vq hc pins s σ H _ us Q I r ⟨q,bs,rfl,.inl hq,up _ M h _ H rh Frm.refl rfl⟩
   ·exact h.elim
  ·exact h.elim
 ·exact h.elim
def E8:qH:=fun ds M Q=>match ds with
 |[.int i,.int j]=>Q (.int (if j<i then j else i)) M
 |_=>False
theorem sB(hc:X.calm=true):cj X (.builtin "min") (liftC X E8):=by
 intro pins s σ H xs us Q I r h;obtain ⟨ds,M,QQ,rh,rp,h,up⟩:=h;unfold E8 at h
 split at h
 ·obtain ⟨v,w,rfl,rv,rw'⟩:=yS rp
  cases rv;cases rw';exact tq hc pins s σ H _ us Q I r ⟨_,_,rfl,up _ M h _ H rh Frm.refl rfl⟩
 ·exact h.elim
end
end L3
namespace L3
open PySem L2
mutual
def ba:D->D->Bool
 |.non,.non=>true
 |.bl a,.bl b=>a==b
 |.bl a,.int b=>(if a then 1 else 0)==b
 |.int a,.bl b=>a==(if b then 1 else 0)
 |.int a,.int b=>decide (a=b)
 |.str a,.str b=>decide (a=b)
 |.tup xs,.tup ys=>gD xs ys
 |.lst xs,.lst ys=>gD xs ys
 |_,_=>false
def gD:List D->List D->Bool
 |[],[]=>true
 |x::xs,y::ys=>ba x y&&gD xs ys
 |_,_=>false
end
mutual
def cP:Nat->D->Bool
 |_,.non=>true
 |_,.bl _=>true
 |_,.int _=>true
 |_,.str _=>true
 |n+1,.tup xs=>fits n xs
 |n+1,.lst xs=>fits n xs
 |_,_=>false
def fits:Nat->List D->Bool
 |_,[]=>true
 |n,x::xs=>cP n x&&fits n xs
end
mutual
def Hr(h:Heap):D->Value->Prop
 |.non,u=>u=.none
 |.bl b,u=>u=.bool b
 |.int i,u=>∃t,u=.int i t
 |.str x,u=>∃t,u=.str x t
 |.tup xs,u=>∃p its,u=.ref p/\h.IsTuple p (List.toArray its)/\Hrs h xs its
 |.lst xs,u=>∃p its,u=.ref p/\h.IsList p (List.toArray its)/\Hrs h xs its
 |_,_=>False
def Hrs(h:Heap):List D->List Value->Prop
 |[],us=>us=[]
 |x::xs,us=>∃u r,us=u::r/\Hr h x u/\Hrs h xs r
end
section
variable {h:Heap}
theorem Hrs.length:∀{ds:List D} {us:List Value},Hrs h ds us->ds.length=us.length
 |[],_,q=>by cases q;rfl
 |_::_,_,q=>by obtain ⟨v,r,rfl,_,b⟩:=q;simp [b.length]
theorem Hrs.get:∀{ds:List D} {us:List Value},Hrs h ds us->∀(i:Nat) (h1:i<ds.length) (h2:i<us.length),Hr h ds[i] us[i]
 |[],_,_,i,h1,_=>absurd h1 (Nat.not_lt_zero _)
 |x::xs,_,q,i,h1,h2=>by
  obtain ⟨v,r,rfl,a,b⟩:=q;cases i with
  |zero=>exact a
  |succ i=>exact b.get i (by simpa using h1) (by simpa using h2)
theorem qu{p:Addr}{a b:Array Value}(x:h.IsTuple p a)(y:h.IsTuple p b):a=b:=by
 obtain ⟨o,h1,_,n,h2⟩:=x;obtain ⟨o',h1',_,n',h2'⟩:=y;rw [h1] at h1';cases h1';rw [h2] at h2'
 injection h2' with e _
theorem qB{p:Addr}{a b:Array Value}(x:h.IsList p a)(y:h.IsList p b):a=b:=by
 obtain ⟨o,h1,_,n,h2⟩:=x;obtain ⟨o',h1',_,n',h2'⟩:=y;rw [h1] at h1';cases h1';rw [h2] at h2'
 injection h2' with e _
theorem FV{p:Addr}{a b:Array Value}(x:h.IsList p a)(y:h.IsTuple p b):False:=by
 obtain ⟨o,h1,c,_⟩:=x;obtain ⟨o',h1',c',_⟩:=y;rw [h1] at h1';cases h1';rw [c] at c'
 injection c' with e
 exact absurd e (by decide)
mutual
theorem vk:∀{d e:D} {u:Value},Hr h d u->Hr h e u->d=e
 |.non,e,u,a,b=>by
  cases a;cases e with
  |non=>rfl
  |bl _=>cases b
  |int _=>obtain ⟨t,q⟩:=b;cases q
  |str _=>obtain ⟨t,q⟩:=b;cases q
  |tup _=>obtain ⟨p,i,q,_⟩:=b;cases q
  |lst _=>obtain ⟨p,i,q,_⟩:=b;cases q
  |_=>exact (show False from b).elim
 |.bl c,e,u,a,b=>by
  cases a;cases e with
  |non=>cases b
  |bl _=>cases b;rfl
  |int _=>obtain ⟨t,q⟩:=b;cases q
  |str _=>obtain ⟨t,q⟩:=b;cases q
  |tup _=>obtain ⟨p,i,q,_⟩:=b;cases q
  |lst _=>obtain ⟨p,i,q,_⟩:=b;cases q
  |_=>exact (show False from b).elim
 |.int c,e,u,a,b=>by
  obtain ⟨t,rfl⟩:=a;cases e with
  |non=>cases b
  |bl _=>cases b
  |int _=>obtain ⟨t,q⟩:=b;cases q;rfl
  |str _=>obtain ⟨t,q⟩:=b;cases q
  |tup _=>obtain ⟨p,i,q,_⟩:=b;cases q
  |lst _=>obtain ⟨p,i,q,_⟩:=b;cases q
  |_=>exact (show False from b).elim
 |.str c,e,u,a,b=>by
  obtain ⟨t,rfl⟩:=a;cases e with
  |non=>cases b
  |bl _=>cases b
  |int _=>obtain ⟨t,q⟩:=b;cases q
  |str _=>obtain ⟨t,q⟩:=b;cases q;rfl
  |tup _=>obtain ⟨p,i,q,_⟩:=b;cases q
  |lst _=>obtain ⟨p,i,q,_⟩:=b;cases q
  |_=>exact (show False from b).elim
 |.tup xs,e,u,a,b=>by
  obtain ⟨p,its,rfl,t1,r1⟩:=a;cases e with
  |non=>cases b
  |bl _=>cases b
  |int _=>obtain ⟨t,q⟩:=b;cases q
  |str _=>obtain ⟨t,q⟩:=b;cases q
  |tup ys=>
   obtain ⟨p',its',q,t2,r2⟩:=b;cases q;have e:=qu t1 t2;have e':its=its':=by simpa using congrArg Array.toList e
   subst e';rw [gl r1 r2]
  |lst ys=>obtain ⟨p',its',q,t2,r2⟩:=b;cases q;exact (FV t2 t1).elim
  |_=>exact (show False from b).elim
 |.lst xs,e,u,a,b=>by
  obtain ⟨p,its,rfl,t1,r1⟩:=a;cases e with
  |non=>cases b
  |bl _=>cases b
  |int _=>obtain ⟨t,q⟩:=b;cases q
  |str _=>obtain ⟨t,q⟩:=b;cases q
  |lst ys=>
   obtain ⟨p',its',q,t2,r2⟩:=b;cases q;have e:=qB t1 t2;have e':its=its':=by simpa using congrArg Array.toList e
   subst e';rw [gl r1 r2]
  |tup ys=>obtain ⟨p',its',q,t2,r2⟩:=b;cases q;exact (FV t1 t2).elim
  |_=>exact (show False from b).elim
 |.ty _,_,_,a,_=>(show False from a).elim
 |.ref _,_,_,a,_=>(show False from a).elim
 |.mt _,_,_,a,_=>(show False from a).elim
 |.ml _,_,_,a,_=>(show False from a).elim
theorem gl:∀{ds es:List D} {us:List Value},Hrs h ds us->Hrs h es us->ds=es
 |[],es,us,a,b=>by
  cases a;cases es with
  |nil=>rfl
  |cons _ _=>obtain ⟨v,r,q,_⟩:=b;cases q
 |d::ds,es,us,a,b=>by
  obtain ⟨v,r,rfl,a1,a2⟩:=a;cases es with
  |nil=>cases b
  |cons e es=>
   obtain ⟨v',r',q,b1,b2⟩:=b;cases q;rw [vk a1 b1,gl a2 b2]
end
mutual
theorem uS:∀{n:Nat} {d:D},cP n d=true->ba d d=true
 |_,.non,_=>by simp [ba]
 |_,.bl _,_=>by simp [ba]
 |_,.int _,_=>by simp [ba]
 |_,.str _,_=>by simp [ba]
 |0,.tup _,f=>by simp [cP] at f
 |0,.lst _,f=>by simp [cP] at f
 |n+1,.tup xs,f=>by rw [ba];exact dD (n:=n) f
 |n+1,.lst xs,f=>by rw [ba];exact dD (n:=n) f
 |_,.ty _,f=>by simp [cP] at f
 |_,.ref _,f=>by simp [cP] at f
 |_,.mt _,f=>by simp [cP] at f
 |_,.ml _,f=>by simp [cP] at f
theorem dD:∀{n:Nat} {ds:List D},fits n ds=true->gD ds ds=true
 |_,[],_=>by simp [gD]
 |n,x::xs,f=>by
  rw [fits,Bool.and_eq_true] at f;rw [gD,uS f.1,dD f.2];rfl
end
theorem de:∀{xs ys:List D},xs.length≠ys.length->gD xs ys=false
 |[],[],h=>absurd rfl h
 |[],_::_,_=>by simp [gD]
 |_::_,[],_=>by simp [gD]
 |x::xs,y::ys,h=>by rw [gD,de (by simpa using h),Bool.and_false]
theorem ga:∀(xs ys:List D) (f:Nat->Bool),xs.length=ys.length->(∀j (h1:j<xs.length) (h2:j<ys.length),f j=ba xs[j] ys[j])->(List.range xs.length).all f=gD xs ys
 |[],[],f,_,_=>by simp [gD]
 |[],_::_,_,h,_=>by simp at h
 |_::_,[],_,h,_=>by simp at h
 |x::xs,y::ys,f,h,hf=>by
  have h0:=hf 0 (by simp) (by simp)
  have ht:=ga xs ys (fun j=>f (j+1)) (by simpa using h) (fun j h1 h2=>hf (j+1) (by simpa using h1) (by simpa using h2))
  rw [List.length_cons,List.range_succ_eq_map,List.all_cons,List.all_map,gD,<- ht];simp only [List.getElem_cons_zero] at h0;rw [h0];rfl
theorem c_:∀{n:Nat} {xs:List D},fits n xs=true->∀(j:Nat) (h1:j<xs.length),cP n xs[j]=true
 |_,[],_,j,h1=>absurd h1 (Nat.not_lt_zero _)
 |n,x::xs,f,j,h1=>by
  rw [fits,Bool.and_eq_true] at f;cases j with
  |zero=>exact f.1
  |succ j=>exact c_ f.2 j (by simpa using h1)
def j9:D->Option V
 |.non=>some .non
 |.bl b=>some (.bl b)
 |.int i=>some (.int i)
 |.str x=>some (.str x)
 |_=>none
theorem iK{d:D}{v:V}{u:Value}(e:j9 d=some v)(r:Hr h d u):RelV v u/\wL v=true:=by
 cases d with
 |non=>cases e;exact ⟨r,rfl⟩
 |bl b=>cases e;exact ⟨r,rfl⟩
 |int b=>cases e;exact ⟨r,rfl⟩
 |str b=>cases e;exact ⟨r,rfl⟩
 |_=>cases e
theorem nI{d e:D}{v w:V}(h1:j9 d=some v)(h2:j9 e=some w):me v w=ba d e:=by
 cases d with
 |non=>cases h1;cases e with|non=>cases h2;simp [me,ba]|bl b=>cases h2;simp [me,ba]|int b=>cases h2;simp [me,ba]|str b=>cases h2;simp [me,ba]|_=>cases h2
 |bl a=>cases h1;cases e with|non=>cases h2;simp [me,ba]|bl b=>cases h2;simp [me,ba]|int b=>cases h2;simp [me,ba]|str b=>cases h2;simp [me,ba]|_=>cases h2
 |int a=>cases h1;cases e with|non=>cases h2;simp [me,ba]|bl b=>cases h2;simp [me,ba]|int b=>cases h2;simp [me,ba];rfl|str b=>cases h2;simp [me,ba]|_=>cases h2
 |str a=>cases h1;cases e with|non=>cases h2;simp [me,ba]|bl b=>cases h2;simp [me,ba]|int b=>cases h2;simp [me,ba]|str b=>cases h2;simp [me,ba];rfl|_=>cases h2
 |_=>cases h1
end
theorem AH:∀(n:Nat) {A:Around} {s:Shared} {d e:D} {u w:Value},Hr s.heap d u->Hr s.heap e w->cP n d=true->cP n e=true->A.units+n<cLine->SeqAt.EqAt A s u w (ba d e):=by
 intro n
 induction n with
 |zero=>
  intro A s d e u w rd re fd fe hu;have f1:∃v,j9 d=some v:=by cases d<;>first|exact ⟨_,rfl⟩|(simp [cP] at fd)
  have f2:∃v,j9 e=some v:=by cases e<;>first|exact ⟨_,rfl⟩|(simp [cP] at fe)
  obtain ⟨v1,e1⟩:=f1;obtain ⟨v2,e2⟩:=f2;obtain ⟨a1,b1⟩:=iK e1 rd;obtain ⟨a2,b2⟩:=iK e2 re;rw [<- nI e1 e2];exact wY a1 a2 b1 b2
 |succ n ih=>
  intro A s d e u w rd re fd fe hu;have hu0:A.units<cLine:=by lia
  have hu1:A.in1.units+n<cLine:=by show A.units+1+n<cLine;lia
  by_cases f1:∃v,j9 d=some v
  ·obtain ⟨v1,e1⟩:=f1
   obtain ⟨a1,b1⟩:=iK e1 rd
   by_cases f2:∃v,j9 e=some v
   ·obtain ⟨v2,e2⟩:=f2
    obtain ⟨a2,b2⟩:=iK e2 re;rw [<- nI e1 e2];exact wY a1 a2 b1 b2
   ·cases e with
    |tup ys=>
     obtain ⟨p,its,rfl,t,_⟩:=re;cases d with
     |non=>cases rd;simp only [ba];exact .none_tuple t hu0
     |bl b=>cases rd;simp only [ba];exact .bool_tuple b t hu0
     |int b=>obtain ⟨tk,rfl⟩:=rd;simp only [ba];exact .int_tuple b tk t hu0
     |str b=>obtain ⟨tk,rfl⟩:=rd;simp only [ba];exact .str_tuple b tk t hu0
     |_=>cases e1
    |lst ys=>
     obtain ⟨p,its,rfl,t,_⟩:=re;cases d with
     |non=>cases rd;simp only [ba];exact .none_list t hu0
     |bl b=>cases rd;simp only [ba];exact .bool_list b t hu0
     |int b=>obtain ⟨tk,rfl⟩:=rd;simp only [ba];exact .int_list b tk t hu0
     |str b=>obtain ⟨tk,rfl⟩:=rd;simp only [ba];exact .str_list b tk t hu0
     |_=>cases e1
    |ty _=>exact (show False from re).elim
    |ref _=>exact (show False from re).elim
    |mt _=>exact (show False from re).elim
    |ml _=>exact (show False from re).elim
    |_=>exact absurd ⟨_,rfl⟩ f2
  ·cases d with
   |tup xs=>
    obtain ⟨p,its,rfl,t1,r1⟩:=rd;cases e with
    |non=>cases re;simp only [ba];exact .tuple_none t1 hu0
    |bl b=>cases re;simp only [ba];exact .tuple_bool b t1 hu0
    |int b=>obtain ⟨tk,rfl⟩:=re;simp only [ba];exact .tuple_int b tk t1 hu0
    |str b=>obtain ⟨tk,rfl⟩:=re;simp only [ba];exact .tuple_str b tk t1 hu0
    |tup ys=>
     obtain ⟨p',its',rfl,t2,r2⟩:=re;rw [ba]
     by_cases hp:p=p'
     ·subst hp
      have e':its=its':=by simpa using congrArg Array.toList (qu t1 t2)
      subst e';rw [gl r1 r2,dD (n:=n) fe];exact .same _
     ·refine .of_refs hp ?_
      have l1:=r1.length;have l2:=r2.length;have key:∀j (h1:j<its.toArray.size) (h2:j<its'.toArray.size),SeqAt.EqAt A.in1 s its.toArray[j] its'.toArray[j] (match xs[j]?,ys[j]? with|some x,some y=>ba x y|_,_=>false):=fun j h1 h2=>by
       have h1':j<xs.length:=by rw [l1];simpa using h1
       have h2':j<ys.length:=by rw [l2];simpa using h2
       rw [List.getElem?_eq_getElem h1',List.getElem?_eq_getElem h2'];exact ih (r1.get j h1' (by simpa using h1)) (r2.get j h2' (by simpa using h2)) (c_ fd j h1') (c_ fe j h2') hu1
      have:=SeqAt.RcAt.tuples (e:=fun j=>match xs[j]?,ys[j]? with|some x,some y=>ba x y|_,_=>false) t1 t2 hu0 key
      by_cases hl:xs.length=ys.length
      ·have hsz:its.toArray.size=its'.toArray.size:=by simp;lia
       rw [hsz] at this;simp only [Nat.min_self,beq_self_eq_true,Bool.and_true] at this;have hxs:its'.toArray.size=xs.length:=by simp;lia
       rw [hxs,ga xs ys _ hl (fun j h1 h2=>by rw [List.getElem?_eq_getElem h1,List.getElem?_eq_getElem h2])] at this
       exact this
      ·have hsz:(its.toArray.size==its'.toArray.size)=false:=by simp;lia
       rw [hsz,Bool.and_false] at this;rw [de hl];exact this
    |lst ys=>obtain ⟨p',its',rfl,t2,r2⟩:=re;simp only [ba];exact .tuple_list t1 t2 hu0
    |_=>exact (show False from re).elim
   |lst xs=>
    obtain ⟨p,its,rfl,t1,r1⟩:=rd;cases e with
    |non=>cases re;simp only [ba];exact .list_none t1 hu0
    |bl b=>cases re;simp only [ba];exact .list_bool b t1 hu0
    |int b=>obtain ⟨tk,rfl⟩:=re;simp only [ba];exact .list_int b tk t1 hu0
    |str b=>obtain ⟨tk,rfl⟩:=re;simp only [ba];exact .list_str b tk t1 hu0
    |lst ys=>
     obtain ⟨p',its',rfl,t2,r2⟩:=re;rw [ba]
     by_cases hp:p=p'
     ·subst hp
      have e':its=its':=by simpa using congrArg Array.toList (qB t1 t2)
      subst e';rw [gl r1 r2,dD (n:=n) fe];exact .same _
     ·refine .of_refs hp ?_
      have l1:=r1.length;have l2:=r2.length
      by_cases hl:xs.length=ys.length
      ·have key:∀j (h1:j<its.toArray.size) (h2:j<its'.toArray.size),SeqAt.EqAt A.in1 s its.toArray[j] its'.toArray[j] (match xs[j]?,ys[j]? with|some x,some y=>ba x y|_,_=>false):=fun j h1 h2=>by
        have h1':j<xs.length:=by rw [l1];simpa using h1
        have h2':j<ys.length:=by rw [l2];simpa using h2
        rw [List.getElem?_eq_getElem h1',List.getElem?_eq_getElem h2'];exact ih (r1.get j h1' (by simpa using h1)) (r2.get j h2' (by simpa using h2)) (c_ fd j h1') (c_ fe j h2') hu1
       have:=SeqAt.RcAt.lists (e:=fun j=>match xs[j]?,ys[j]? with|some x,some y=>ba x y|_,_=>false) t1 t2 (by simp;lia) hu0 key
       have hxs:its.toArray.size=xs.length:=by simp;lia
       rw [hxs,ga xs ys _ hl (fun j h1 h2=>by rw [List.getElem?_eq_getElem h1,List.getElem?_eq_getElem h2])] at this
       exact this
      ·rw [de hl]
       exact SeqAt.RcAt.lists_lengths t1 t2 (by simp;lia) hu0
    |tup ys=>obtain ⟨p',its',rfl,t2,r2⟩:=re;simp only [ba];exact .list_tuple t1 t2 hu0
    |_=>exact (show False from re).elim
   |ty _=>exact (show False from rd).elim
   |ref _=>exact (show False from rd).elim
   |mt _=>exact (show False from rd).elim
   |ml _=>exact (show False from rd).elim
   |_=>exact absurd ⟨_,rfl⟩ f1
end L3
namespace L3
open PySem L2
theorem iU{n:Nat}{A:Around}{s:Shared}{xs ys:List D}{its its':List Value}(r1:Hrs s.heap xs its)(r2:Hrs s.heap ys its')(fd:fits n xs=true)(fe:fits n ys=true)(hu:A.units+n<cLine):
  ∀j (h1:j<its.toArray.size) (h2:j<its'.toArray.size),SeqAt.EqAt A s its.toArray[j] its'.toArray[j] (match xs[j]?,ys[j]? with|some x,some y=>ba x y|_,_=>false):=fun j h1 h2=>by
 have h1':j<xs.length:=by rw [r1.length];simpa using h1
 have h2':j<ys.length:=by rw [r2.length];simpa using h2
 rw [List.getElem?_eq_getElem h1',List.getElem?_eq_getElem h2'];exact AH n (r1.get j h1' (by simpa using h1)) (r2.get j h2' (by simpa using h2)) (c_ fd j h1') (c_ fe j h2') hu
theorem iP{xs ys:List D}(hl:xs.length=ys.length):(List.range xs.length).all (fun j=>match xs[j]?,ys[j]? with|some x,some y=>ba x y|_,_=>false)=gD xs ys:=
 ga xs ys _ hl (fun j h1 h2=>by rw [List.getElem?_eq_getElem h1,List.getElem?_eq_getElem h2])
theorem CD{n:Nat}{A:Around}{s:Shared}{xs ys:List D}{p p':Addr}{its its':List Value}(t1:s.heap.IsTuple p its.toArray)(t2:s.heap.IsTuple p' its'.toArray)(r1:Hrs s.heap xs its)(r2:Hrs s.heap ys its')(fd:cP n (.tup xs)=true)(fe:cP n (.tup ys)=true)(hu:A.units+n<cLine):
  SeqAt.RcAt A s (.ref p) (.ref p') (ba (.tup xs) (.tup ys)):=by
 cases n with
 |zero=>simp [cP] at fd
 |succ n=>
  have l1:=r1.length;have l2:=r2.length;have:=SeqAt.RcAt.tuples (A:=A) t1 t2 (by lia) (iU (n:=n) r1 r2 fd fe (by show A.units+1+n<cLine;lia))
  rw [ba]
  by_cases hl:xs.length=ys.length
  ·have hsz:its.toArray.size=its'.toArray.size:=by simp;lia
   rw [hsz] at this;simp only [Nat.min_self,beq_self_eq_true,Bool.and_true] at this;have hxs:its'.toArray.size=xs.length:=by simp;lia
   rw [hxs,iP hl] at this;exact this
  ·have hsz:(its.toArray.size==its'.toArray.size)=false:=by simp;lia
   rw [hsz,Bool.and_false] at this;rw [de hl];exact this
theorem CI{n:Nat}{A:Around}{s:Shared}{xs ys:List D}{p p':Addr}{its its':List Value}(t1:s.heap.IsList p its.toArray)(t2:s.heap.IsList p' its'.toArray)(r1:Hrs s.heap xs its)(r2:Hrs s.heap ys its')(fd:cP n (.lst xs)=true)(fe:cP n (.lst ys)=true)(hu:A.units+n<cLine):
  SeqAt.RcAt A s (.ref p) (.ref p') (ba (.lst xs) (.lst ys)):=by
 cases n with
 |zero=>simp [cP] at fd
 |succ n=>
  have l1:=r1.length;have l2:=r2.length;rw [ba]
  by_cases hl:xs.length=ys.length
  ·have:=SeqAt.RcAt.lists (A:=A) t1 t2 (by simp;lia) (by lia) (iU (n:=n) r1 r2 fd fe (by show A.units+1+n<cLine;lia))
   have hxs:its.toArray.size=xs.length:=by simp;lia
   rw [hxs,iP hl] at this;exact this
  ·rw [de hl]
   exact SeqAt.RcAt.lists_lengths t1 t2 (by simp;lia) (by lia)
theorem vD{n:Nat}{A:Around}{s:Shared}{xs ys:List D}{p p':Addr}{its its':List Value}(t1:s.heap.IsTuple p its.toArray)(t2:s.heap.IsTuple p' its'.toArray)(r1:Hrs s.heap xs its)(r2:Hrs s.heap ys its')(fd:cP n (.tup xs)=true)(fe:cP n (.tup ys)=true)(hu:A.units+n<cLine):
  SeqAt.RcNeAt A s (.ref p) (.ref p') (!ba (.tup xs) (.tup ys)):=by
 cases n with
 |zero=>simp [cP] at fd
 |succ n=>
  have l1:=r1.length;have l2:=r2.length;have:=SeqAt.RcNeAt.tuples (A:=A) t1 t2 (by lia) (iU (n:=n) r1 r2 fd fe (by show A.units+1+n<cLine;lia))
  rw [ba]
  by_cases hl:xs.length=ys.length
  ·have hsz:its.toArray.size=its'.toArray.size:=by simp;lia
   rw [hsz] at this;simp only [Nat.min_self,beq_self_eq_true,Bool.and_true] at this;have hxs:its'.toArray.size=xs.length:=by simp;lia
   rw [hxs,iP hl] at this;exact this
  ·have hsz:(its.toArray.size==its'.toArray.size)=false:=by simp;lia
   rw [hsz,Bool.and_false] at this;rw [de hl];exact this
theorem uq{n:Nat}{A:Around}{s:Shared}{xs ys:List D}{p p':Addr}{its its':List Value}(t1:s.heap.IsList p its.toArray)(t2:s.heap.IsList p' its'.toArray)(r1:Hrs s.heap xs its)(r2:Hrs s.heap ys its')(fd:cP n (.lst xs)=true)(fe:cP n (.lst ys)=true)(hu:A.units+n<cLine):
  SeqAt.RcNeAt A s (.ref p) (.ref p') (!ba (.lst xs) (.lst ys)):=by
 cases n with
 |zero=>simp [cP] at fd
 |succ n=>
  have l1:=r1.length;have l2:=r2.length;rw [ba]
  by_cases hl:xs.length=ys.length
  ·have:=SeqAt.RcNeAt.lists (A:=A) t1 t2 (by simp;lia) (by lia) (iU (n:=n) r1 r2 fd fe (by show A.units+1+n<cLine;lia))
   have hxs:its.toArray.size=xs.length:=by simp;lia
   rw [hxs,iP hl] at this;exact this
  ·rw [de hl]
   exact SeqAt.RcNeAt.lists_lengths t1 t2 (by simp;lia) (by lia)
theorem El{n:Nat}{A:Around}{s:Shared}{d e:D}{u w:Value}(rd:Hr s.heap d u)(re:Hr s.heap e w)(fd:cP n d=true)(fe:cP n e=true)(hu:A.units+n<cLine):SeqAt.RcAt A s u w (ba d e):=by
 have hu0:A.units<cLine:=by lia
 cases d with
 |non=>
  cases rd;cases e with
  |non=>
   cases re;simpa [ba,Bool.beq_eq_decide_eq] using SeqAt.RcAt.none_none
  |bl y=>
   cases re;simpa [ba] using SeqAt.RcAt.none_bool y
  |int y=>
   obtain ⟨tky,rfl⟩:=re;simpa [ba] using SeqAt.RcAt.none_int y tky
  |str y=>
   obtain ⟨tky,rfl⟩:=re;simpa [ba] using SeqAt.RcAt.none_str y tky
  |tup y=>
   obtain ⟨py,itsy,rfl,ty,ry⟩:=re;simpa [ba] using SeqAt.RcAt.none_tuple ty hu0
  |lst y=>
   obtain ⟨py,itsy,rfl,ty,ry⟩:=re;simpa [ba] using SeqAt.RcAt.none_list ty hu0
  |_=>exact (show False from re).elim
 |bl x=>
  cases rd;cases e with
  |non=>
   cases re;simpa [ba] using SeqAt.RcAt.bool_none x
  |bl y=>
   cases re;simpa [ba,Bool.beq_eq_decide_eq] using SeqAt.RcAt.bool_bool x y
  |int y=>
   obtain ⟨tky,rfl⟩:=re;simpa [ba,Bool.beq_eq_decide_eq] using SeqAt.RcAt.bool_int x y tky
  |str y=>
   obtain ⟨tky,rfl⟩:=re;simpa [ba] using SeqAt.RcAt.bool_str x y tky
  |tup y=>
   obtain ⟨py,itsy,rfl,ty,ry⟩:=re;simpa [ba] using SeqAt.RcAt.bool_tuple x ty hu0
  |lst y=>
   obtain ⟨py,itsy,rfl,ty,ry⟩:=re;simpa [ba] using SeqAt.RcAt.bool_list x ty hu0
  |_=>exact (show False from re).elim
 |int x=>
  obtain ⟨tkx,rfl⟩:=rd;cases e with
  |non=>
   cases re;simpa [ba] using SeqAt.RcAt.int_none x tkx
  |bl y=>
   cases re;simpa [ba,Bool.beq_eq_decide_eq] using SeqAt.RcAt.int_bool x tkx y
  |int y=>
   obtain ⟨tky,rfl⟩:=re;simpa [ba,Bool.beq_eq_decide_eq] using SeqAt.RcAt.int_int x tkx y tky
  |str y=>
   obtain ⟨tky,rfl⟩:=re;simpa [ba] using SeqAt.RcAt.int_str x tkx y tky
  |tup y=>
   obtain ⟨py,itsy,rfl,ty,ry⟩:=re;simpa [ba] using SeqAt.RcAt.int_tuple x tkx ty hu0
  |lst y=>
   obtain ⟨py,itsy,rfl,ty,ry⟩:=re;simpa [ba] using SeqAt.RcAt.int_list x tkx ty hu0
  |_=>exact (show False from re).elim
 |str x=>
  obtain ⟨tkx,rfl⟩:=rd;cases e with
  |non=>
   cases re;simpa [ba] using SeqAt.RcAt.str_none x tkx
  |bl y=>
   cases re;simpa [ba] using SeqAt.RcAt.str_bool x tkx y
  |int y=>
   obtain ⟨tky,rfl⟩:=re;simpa [ba] using SeqAt.RcAt.str_int x tkx y tky
  |str y=>
   obtain ⟨tky,rfl⟩:=re;simpa [ba,Bool.beq_eq_decide_eq] using SeqAt.RcAt.str_str x tkx y tky
  |tup y=>
   obtain ⟨py,itsy,rfl,ty,ry⟩:=re;simpa [ba] using SeqAt.RcAt.str_tuple x tkx ty hu0
  |lst y=>
   obtain ⟨py,itsy,rfl,ty,ry⟩:=re;simpa [ba] using SeqAt.RcAt.str_list x tkx ty hu0
  |_=>exact (show False from re).elim
 |tup x=>
  obtain ⟨px,itsx,rfl,tx,rx⟩:=rd;cases e with
  |non=>
   cases re;simpa [ba] using SeqAt.RcAt.tuple_none tx hu0
  |bl y=>
   cases re;simpa [ba] using SeqAt.RcAt.tuple_bool y tx hu0
  |int y=>
   obtain ⟨tky,rfl⟩:=re;simpa [ba] using SeqAt.RcAt.tuple_int y tky tx hu0
  |str y=>
   obtain ⟨tky,rfl⟩:=re;simpa [ba] using SeqAt.RcAt.tuple_str y tky tx hu0
  |tup y=>
   obtain ⟨py,itsy,rfl,ty,ry⟩:=re;exact CD tx ty rx ry fd fe hu
  |lst y=>
   obtain ⟨py,itsy,rfl,ty,ry⟩:=re;simpa [ba] using SeqAt.RcAt.tuple_list tx ty hu0
  |_=>exact (show False from re).elim
 |lst x=>
  obtain ⟨px,itsx,rfl,tx,rx⟩:=rd;cases e with
  |non=>
   cases re;simpa [ba] using SeqAt.RcAt.list_none tx hu0
  |bl y=>
   cases re;simpa [ba] using SeqAt.RcAt.list_bool y tx hu0
  |int y=>
   obtain ⟨tky,rfl⟩:=re;simpa [ba] using SeqAt.RcAt.list_int y tky tx hu0
  |str y=>
   obtain ⟨tky,rfl⟩:=re;simpa [ba] using SeqAt.RcAt.list_str y tky tx hu0
  |tup y=>
   obtain ⟨py,itsy,rfl,ty,ry⟩:=re;simpa [ba] using SeqAt.RcAt.list_tuple tx ty hu0
  |lst y=>
   obtain ⟨py,itsy,rfl,ty,ry⟩:=re;exact CI tx ty rx ry fd fe hu
  |_=>exact (show False from re).elim
 |_=>exact (show False from rd).elim
theorem yR{n:Nat}{A:Around}{s:Shared}{d e:D}{u w:Value}(rd:Hr s.heap d u)(re:Hr s.heap e w)(fd:cP n d=true)(fe:cP n e=true)(hu:A.units+n<cLine):SeqAt.RcNeAt A s u w (!ba d e):=by
 have hu0:A.units<cLine:=by lia
 cases d with
 |non=>
  cases rd;cases e with
  |non=>
   cases re;simpa [ba,Bool.beq_eq_decide_eq] using SeqAt.RcNeAt.none_none
  |bl y=>
   cases re;simpa [ba] using SeqAt.RcNeAt.none_bool y
  |int y=>
   obtain ⟨tky,rfl⟩:=re;simpa [ba] using SeqAt.RcNeAt.none_int y tky
  |str y=>
   obtain ⟨tky,rfl⟩:=re;simpa [ba] using SeqAt.RcNeAt.none_str y tky
  |tup y=>
   obtain ⟨py,itsy,rfl,ty,ry⟩:=re;simpa [ba] using SeqAt.RcNeAt.none_tuple ty hu0
  |lst y=>
   obtain ⟨py,itsy,rfl,ty,ry⟩:=re;simpa [ba] using SeqAt.RcNeAt.none_list ty hu0
  |_=>exact (show False from re).elim
 |bl x=>
  cases rd;cases e with
  |non=>
   cases re;simpa [ba] using SeqAt.RcNeAt.bool_none x
  |bl y=>
   cases re;simpa [ba,Bool.beq_eq_decide_eq] using SeqAt.RcNeAt.bool_bool x y
  |int y=>
   obtain ⟨tky,rfl⟩:=re;simpa [ba,Bool.beq_eq_decide_eq] using SeqAt.RcNeAt.bool_int x y tky
  |str y=>
   obtain ⟨tky,rfl⟩:=re;simpa [ba] using SeqAt.RcNeAt.bool_str x y tky
  |tup y=>
   obtain ⟨py,itsy,rfl,ty,ry⟩:=re;simpa [ba] using SeqAt.RcNeAt.bool_tuple x ty hu0
  |lst y=>
   obtain ⟨py,itsy,rfl,ty,ry⟩:=re;simpa [ba] using SeqAt.RcNeAt.bool_list x ty hu0
  |_=>exact (show False from re).elim
 |int x=>
  obtain ⟨tkx,rfl⟩:=rd;cases e with
  |non=>
   cases re;simpa [ba] using SeqAt.RcNeAt.int_none x tkx
  |bl y=>
   cases re;simpa [ba,Bool.beq_eq_decide_eq] using SeqAt.RcNeAt.int_bool x tkx y
  |int y=>
   obtain ⟨tky,rfl⟩:=re;simpa [ba,Bool.beq_eq_decide_eq] using SeqAt.RcNeAt.int_int x tkx y tky
  |str y=>
   obtain ⟨tky,rfl⟩:=re;simpa [ba] using SeqAt.RcNeAt.int_str x tkx y tky
  |tup y=>
   obtain ⟨py,itsy,rfl,ty,ry⟩:=re;simpa [ba] using SeqAt.RcNeAt.int_tuple x tkx ty hu0
  |lst y=>
   obtain ⟨py,itsy,rfl,ty,ry⟩:=re;simpa [ba] using SeqAt.RcNeAt.int_list x tkx ty hu0
  |_=>exact (show False from re).elim
 |str x=>
  obtain ⟨tkx,rfl⟩:=rd;cases e with
  |non=>
   cases re;simpa [ba] using SeqAt.RcNeAt.str_none x tkx
  |bl y=>
   cases re;simpa [ba] using SeqAt.RcNeAt.str_bool x tkx y
  |int y=>
   obtain ⟨tky,rfl⟩:=re;simpa [ba] using SeqAt.RcNeAt.str_int x tkx y tky
  |str y=>
   obtain ⟨tky,rfl⟩:=re;simpa [ba,Bool.beq_eq_decide_eq] using SeqAt.RcNeAt.str_str x tkx y tky
  |tup y=>
   obtain ⟨py,itsy,rfl,ty,ry⟩:=re;simpa [ba] using SeqAt.RcNeAt.str_tuple x tkx ty hu0
  |lst y=>
   obtain ⟨py,itsy,rfl,ty,ry⟩:=re;simpa [ba] using SeqAt.RcNeAt.str_list x tkx ty hu0
  |_=>exact (show False from re).elim
 |tup x=>
  obtain ⟨px,itsx,rfl,tx,rx⟩:=rd;cases e with
  |non=>
   cases re;simpa [ba] using SeqAt.RcNeAt.tuple_none tx hu0
  |bl y=>
   cases re;simpa [ba] using SeqAt.RcNeAt.tuple_bool y tx hu0
  |int y=>
   obtain ⟨tky,rfl⟩:=re;simpa [ba] using SeqAt.RcNeAt.tuple_int y tky tx hu0
  |str y=>
   obtain ⟨tky,rfl⟩:=re;simpa [ba] using SeqAt.RcNeAt.tuple_str y tky tx hu0
  |tup y=>
   obtain ⟨py,itsy,rfl,ty,ry⟩:=re;exact vD tx ty rx ry fd fe hu
  |lst y=>
   obtain ⟨py,itsy,rfl,ty,ry⟩:=re;simpa [ba] using SeqAt.RcNeAt.tuple_list tx ty hu0
  |_=>exact (show False from re).elim
 |lst x=>
  obtain ⟨px,itsx,rfl,tx,rx⟩:=rd;cases e with
  |non=>
   cases re;simpa [ba] using SeqAt.RcNeAt.list_none tx hu0
  |bl y=>
   cases re;simpa [ba] using SeqAt.RcNeAt.list_bool y tx hu0
  |int y=>
   obtain ⟨tky,rfl⟩:=re;simpa [ba] using SeqAt.RcNeAt.list_int y tky tx hu0
  |str y=>
   obtain ⟨tky,rfl⟩:=re;simpa [ba] using SeqAt.RcNeAt.list_str y tky tx hu0
  |tup y=>
   obtain ⟨py,itsy,rfl,ty,ry⟩:=re;simpa [ba] using SeqAt.RcNeAt.list_tuple tx ty hu0
  |lst y=>
   obtain ⟨py,itsy,rfl,ty,ry⟩:=re;exact uq tx ty rx ry fd fe hu
  |_=>exact (show False from re).elim
 |_=>exact (show False from rd).elim
section
variable {X:Cx}{B:Mem}{pins:List (Addr×Obj)}{σ:L2.St}{H:Hp}{s:Shared}{M:Mem}
mutual
theorem AL(I:Inv X pins σ H s):∀{n:Nat} {d:D} {v:V} {u:Value},cP n d=true->Rp X.K H d v->RelV v u->Hr s.heap d u
 |_,.non,v,u,_,r,q=>by cases r;exact q
 |_,.bl _,v,u,_,r,q=>by cases r;exact q
 |_,.int _,v,u,_,r,q=>by cases r;exact q
 |_,.str _,v,u,_,r,q=>by cases r;exact q
 |n+1,.tup xs,v,u,f,r,q=>by
  obtain ⟨p,vs,rfl,t,r⟩:=r;cases q;obtain ⟨its,rv,ht,_⟩:=I.tuple t.sq;exact ⟨p,its,rfl,ht,h_ I (n:=n) f r rv⟩
 |n+1,.lst xs,v,u,f,r,q=>by
  obtain ⟨p,vs,rfl,t,r⟩:=r;cases q;obtain ⟨its,rv,ht,_⟩:=I.list t.sq;exact ⟨p,its,rfl,ht.isList,h_ I (n:=n) f r rv⟩
 |0,.tup _,_,_,f,_,_=>by simp [cP] at f
 |0,.lst _,_,_,f,_,_=>by simp [cP] at f
 |_,.ty _,_,_,f,_,_=>by simp [cP] at f
 |_,.ref _,_,_,f,_,_=>by simp [cP] at f
 |_,.mt _,_,_,f,_,_=>by simp [cP] at f
 |_,.ml _,_,_,f,_,_=>by simp [cP] at f
theorem h_(I:Inv X pins σ H s):∀{n:Nat} {ds:List D} {vs:List V} {us:List Value},fits n ds=true->Rps X.K H ds vs->Vals vs us->Hrs s.heap ds us
 |_,[],vs,us,_,r,q=>by cases r;cases q;rfl
 |n,d::ds,vs,us,f,r,q=>by
  obtain ⟨v,r',rfl,a,b⟩:=r;rw [fits,Bool.and_eq_true] at f;cases q with
  |cons q1 q2=>exact ⟨_,_,rfl,AL I f.1 a q1,h_ I f.2 b q2⟩
end
def dv(M:Mem):D->D
 |.ref a=>match M a with
  |some (.lst xs)=>.lst xs
  |_=>.ref a
 |d=>d
theorem ow(I:Inv X pins σ H s){n:Nat}{d:D}{v:V}{u:Value}(rh:RepH X.K H M)(f:cP n (dv M d)=true)(r:Rp X.K H d v)(q:RelV v u):Hr s.heap (dv M d) u:=by
 cases d with
 |ref a=>
  cases r;simp only [dv] at f ⊢
  split at f
  ·rename_i xs e
   obtain ⟨vs,h1,h2⟩:=rh _ _ e;obtain ⟨its,rv,ht,_⟩:=I.list (SqL.of h1);cases q;cases n with
   |zero=>simp [cP] at f
   |succ n=>exact ⟨a,its,rfl,ht.isList,h_ I (n:=n) f h2 rv⟩
  ·simp [cP] at f
 |_=>exact AL I f r q
def dh:dW:=fun x y M Q=>cP 60 (dv M x)=true/\cP 60 (dv M y)=true/\Q (.bl (ba (dv M x) (dv M y))) M
def tJ:dW:=fun x y M Q=>cP 60 (dv M x)=true/\cP 60 (dv M y)=true/\Q (.bl (!ba (dv M x) (dv M y))) M
theorem bf(hu:X.A.units+64<cLine):cB X (compareOp .Eq) (liftR2 X dh):=by
 intro pins s σ H x y v u Q I rx ry h;obtain ⟨d1,d2,M,QQ,rh,r1,r2,⟨f1,f2,h⟩,up⟩:=h;exact El (ow I rh f1 r1 rx) (ow I rh f2 r2 ry) f1 f2 (by lia) _ _ _ _ ⟨.bl _,H,I,rfl,up _ M h _ H rh Frm.refl rfl⟩
theorem dP(hu:X.A.units+64<cLine):cB X (compareOp .NotEq) (liftR2 X tJ):=by
 intro pins s σ H x y v u Q I rx ry h;obtain ⟨d1,d2,M,QQ,rh,r1,r2,⟨f1,f2,h⟩,up⟩:=h;exact yR (ow I rh f1 r1 rx) (ow I rh f2 r2 ry) f1 f2 (by lia) _ _ _ _ ⟨.bl _,H,I,rfl,up _ M h _ H rh Frm.refl rfl⟩
open Classical in
noncomputable def xc(h:Heap)(x:D)(u:Value):Bool:=if q:∃d,Hr h d u then ba q.choose x else false
theorem uO{h:Heap}{x d:D}{u:Value}(r:Hr h d u):xc h x u=ba d x:=by
 have q:∃d,Hr h d u:=⟨d,r⟩;unfold xc;rw [dif_pos q,vk q.choose_spec r]
theorem lF{h:Heap}{x:D}:∀{ds:List D} {us:List Value},Hrs h ds us->us.any (xc h x)=ds.any fun d=>ba d x
 |[],_,r=>by cases r;rfl
 |d::ds,_,r=>by
  obtain ⟨v,r',rfl,a,b⟩:=r;rw [List.any_cons,List.any_cons,uO a,lF b]
theorem lO{A:Around}{n:Nat}{x:D}{w:Value}(rx:Hr s.heap x w)(fx:cP n x=true)(hu:A.units+n<cLine):∀{ds:List D} {us:List Value},Hrs s.heap ds us->fits n ds=true->∀u∈us,SeqAt.EqAt A s u w (xc s.heap x u)
 |[],_,r,_,u,hu=>by cases r;cases hu
 |d::ds,_,r,f,u,h=>by
  obtain ⟨v,r',rfl,a,b⟩:=r;rw [fits,Bool.and_eq_true] at f;rcases List.mem_cons.mp h with rfl|h
  ·rw [uO a];exact AH n a rx f.1 fx hu
  ·exact lO rx fx hu b f.2 u h
def Eo(M:Mem)(x y:D):Option Bool:=match gU M y with
 |some xs=>if cP 60 (dv M x)=true/\fits 60 xs=true then some (xs.any fun d=>ba d (dv M x)) else none
 |none=>match y with
  |.ref a=>match zY M a x with
   |some o=>some o.isSome
   |none=>none
  |_=>none
def F5:dW:=fun x y M Q=>match Eo M x y with
 |some k=>Q (.bl k) M
 |none=>False
theorem pf(hu:X.A.units+64<cLine):cB X (compareOp .In) (liftR2 X F5):=by
 intro pins s σ H x y v u Q I rx ry h;obtain ⟨d1,d2,M,QQ,rh,r1,r2,h,up⟩:=h;unfold F5 at h
 split at h
 ·rename_i k e
  have fin:=up _ M h _ H rh Frm.refl rfl;unfold Eo at e
  split at e
  ·rename_i xs ex
   split at e
   ·rename_i f
    cases e;obtain ⟨p,vs,rfl,hq,r⟩:=iQ rh r2 ex;cases ry;have hx:=ow I rh f.1 r1 rx;rcases hq with hq|hq
    ·obtain ⟨its,rv,pl,_⟩:=I.list hq
     have hs:=h_ I f.2 r rv;refine SeqAt.in_listAt (xc s.heap (dv M d1)) pl.isList (fun w hw=>lO hx f.1 (by show X.A.units+1+60<cLine;lia) hs f.2 w (by simpa using hw)) ⟨.bl _,H,I,rfl,?_⟩
     rw [show its.toArray.any (xc s.heap (dv M d1))=its.any (xc s.heap (dv M d1)) by simp,lF hs]
     exact fin
    ·obtain ⟨its,rv,pl,_⟩:=I.tuple hq
     have hs:=h_ I f.2 r rv;refine SeqAt.in_tupleAt (xc s.heap (dv M d1)) pl (fun w hw=>lO hx f.1 (by show X.A.units+1+60<cLine;lia) hs f.2 w (by simpa using hw)) ⟨.bl _,H,I,rfl,?_⟩
     rw [show its.toArray.any (xc s.heap (dv M d1))=its.any (xc s.heap (dv M d1)) by simp,lF hs]
     exact fin
   ·cases e
  ·split at e
   ·split at e
    ·rename_i o eo
     cases e;cases r2;cases ry;rcases rz rh r1 eo with ⟨rfl,g⟩|⟨d,w,rfl,g,_⟩
     ·exact F_ (by lia) I g rx fun s' I'=>⟨.bl _,H,I',rfl,fin⟩
     ·exact F_ (by lia) I g rx fun s' I'=>⟨.bl _,H,I',rfl,fin⟩
    ·cases e
   ·cases e
 ·exact h.elim
end
end L3
namespace L3
open PySem L2
structure DEnds where
 nx:Dl->Mem->Prop
 rt:DK
 bk:Dl->Mem->Prop:=fun _ _=>False
 ct:Dl->Mem->Prop:=fun _ _=>False
abbrev aM:=DEnds->Dl->Mem->Prop
def UpN(X:Cx)(B M:Mem)(H:Hp)(QQ:Dl->Mem->Prop)(Q:L2.St->Hp->Prop):Prop:=∀δ M',QQ δ M'->∀σ H',Frm M H M' H'->SR X B δ M' σ H'->Q σ H'
theorem UpN.go{X:Cx}{B M M1:Mem}{H H1:Hp}{QQ:Dl->Mem->Prop}{Q:L2.St->Hp->Prop}(u:UpN X B M H QQ Q)(i:Frm M H M1 H1):UpN X B M1 H1 QQ Q:=fun δ M q σ H' a b=>u δ M q σ H' (i.trans a) b
structure UpD(X:Cx)(B M:Mem)(H:Hp)(DD:DEnds)(D:Ends):Prop where
 nx:UpN X B M H DD.nx D.nx
 rt:Up X.K M H DD.rt D.rt
 bk:UpN X B M H DD.bk D.bk
 ct:UpN X B M H DD.ct D.ct
theorem UpD.go{X:Cx}{B M M1:Mem}{H H1:Hp}{DD:DEnds}{D:Ends}(u:UpD X B M H DD D)(i:Frm M H M1 H1):UpD X B M1 H1 DD D:=⟨u.nx.go i,u.rt.go i,u.bk.go i,u.ct.go i⟩
inductive liftS(X:Cx)(B:Mem)(T:aM)(D:Ends)(σ:St)(H:Hp):Prop
 |mk (δ:Dl) (M:Mem) (DD:DEnds) (s:SR X B δ M σ H) (h:T DD δ M) (u:UpD X B M H DD D):liftS X B T D σ H
def DS(X:Cx)(B:Mem)(st:Stmt)(T:aM):Prop:=PS X st (liftS X B T)
def xi(X:Cx)(B:Mem)(st:List Stmt)(T:aM):Prop:=qW X st (liftS X B T)
section
variable {X:Cx}{B:Mem}{st:Stmt}{rest:List Stmt}{t u:aM}{e:Expr}{te:bL}{pos:Pos}
def aQ:aM:=fun D δ M=>D.nx δ M
def aE(t u:aM):aM:=fun D δ M=>t { D with nx:=u D } δ M
theorem aG:xi X B [] aQ:=jY yW fun D σ H ⟨δ,M,DD,s,h,up⟩=>up.nx δ M h σ H Frm.refl s
theorem ah(h1:DS X B st t)(h2:xi X B rest u):xi X B (st::rest) (aE t u):=by
 refine jY (vQ h1 h2) ?_
 rintro D σ H ⟨δ,M,DD,s,h,up⟩
 exact ⟨δ,M,{ DD with nx:=u DD },s,h,⟨fun δ' M' q σ' H' i s'=>⟨δ',M',DD,s',q,up.go i⟩,up.rt,up.bk,up.ct⟩⟩
theorem am(h1:DS X B st t):xi X B [st] t:=Ak h1
def cf(te:bL):aM:=fun D δ M=>te δ M fun _ M1=>D.nx δ M1
theorem bO(he:DE X B e te)(hs:swapsWith e none pos.line X.env=pure false:=by rfl):DS X B (.Expr e pos) (cf te):=by
 refine cz (AC he hs) ?_
 rintro D σ H ⟨δ,M,DD,s,h,up⟩
 exact ⟨δ,M,_,s,h,fun d M' q v H' rh i r=>up.nx δ M' q σ H' i (s.go rh i)⟩
def aT(te:bL):aM:=fun D δ M=>te δ M D.rt
theorem az(he:DE X B e te):DS X B (.Return (some e) pos) (aT te):=by
 refine cz (BN he) ?_
 rintro D σ H ⟨δ,M,DD,s,h,up⟩
 exact ⟨δ,M,_,s,h,up.rt⟩
def bi(c:eD)(t u:aM):aM:=fun D δ M=>c δ M fun b M1=>if b=true then t D δ M1 else u D δ M1
theorem aW{c:Expr}{a b:List Stmt}{tc:eD}(hc:DT X B c tc)(ha:xi X B a t)(hb:xi X B b u):DS X B (.If c a b pos) (bi tc t u):=by
 refine cz (Ew hc ha hb) ?_
 rintro D σ H ⟨δ,M,DD,s,h,up⟩
 refine ⟨δ,M,_,s,h,fun c M' q H' rh i=>?_⟩;cases c with
 |true=>rw [if_pos rfl] at q ⊢;exact ⟨δ,M',DD,s.go rh i,q,up.go i⟩
 |false=>rw [if_neg Bool.false_ne_true] at q ⊢;exact ⟨δ,M',DD,s.go rh i,q,up.go i⟩
abbrev jH:=D->Dl->Mem->(Dl->Mem->Prop)->Prop
abbrev mr:=List D->Dl->Mem->(Dl->Mem->Prop)->Prop
inductive liftG(X:Cx)(B:Mem)(g:jH)(v:V)(σ:St)(H:Hp)(Q:St->Hp->Prop):Prop
 |mk (d:L3.D) (δ:Dl) (M:Mem) (QQ:Dl->Mem->Prop) (s:SR X B δ M σ H) (r:Rp X.K H d v) (h:g d δ M QQ) (u:UpN X B M H QQ Q):liftG X B g v σ H Q
inductive liftGs(X:Cx)(B:Mem)(g:mr)(vs:List V)(σ:St)(H:Hp)(Q:St->Hp->Prop):Prop
 |mk (ds:List L3.D) (δ:Dl) (M:Mem) (QQ:Dl->Mem->Prop) (s:SR X B δ M σ H) (r:Rps X.K H ds vs) (h:g ds δ M QQ) (u:UpN X B M H QQ Q):liftGs X B g vs σ H Q
def DG(X:Cx)(B:Mem)(tg:Expr)(g:jH):Prop:=PG X tg (liftG X B g)
def DGs(X:Cx)(B:Mem)(tgs:List Expr)(g:mr):Prop:=B9 X tgs (liftGs X B g)
theorem iR{tg:Expr}{t t':TG}(h:PG X tg t)(w:∀v σ H Q,t' v σ H Q->t v σ H Q):PG X tg t':=fun pins s σ H v u Q I r q=>h pins s σ H v u Q I r (w v σ H Q q)
theorem ny{tg:List Expr}{t t':B0}(h:B9 X tg t)(w:∀v σ H Q,t' v σ H Q->t v σ H Q):B9 X tg t':=fun pins s σ H v u Q I r q=>h pins s σ H v u Q I r (w v σ H Q q)
theorem SR.set{δ:Dl}{M:Mem}{σ:L2.St}{H:Hp}{i:Nat}{d:D}{v:V}(s:SR X B δ M σ H)(r:Rp X.K H d v):SR X B (δ.set i (some d)) M (σ.set i (some v)) H:=⟨s.i0,s.rh,s.rs.set r⟩
def au(i:Nat):jH:=fun d δ M Q=>Q (δ.set i (some d)) M
theorem aO{i:Nat}{x:Str}(hN:X.N.Nodup)(hi:X.N[i]?=some x)(hx:AI X.env.scope x)(hf:X.fn x=true\/X.env.scope.names.lookup x=some .local:=by first|exact .inl rfl|exact .inr rfl|assumption):DG X B (.Name x pos) (au i):=by
 refine iR (An hN hi hx hf) ?_
 rintro v σ H Q ⟨d,δ,M,QQ,s,r,h,u⟩
 exact u _ M h _ H Frm.refl (s.set r)
def ki:mr:=fun ds δ M Q=>match ds with
 |[]=>Q δ M
 |_=>False
def c8(t:jH)(u:mr):mr:=fun ds δ M Q=>match ds with
 |d::r=>t d δ M fun δ' M'=>u r δ' M' Q
 |[]=>False
theorem fg:DGs X B [] ki:=by
 refine ny A6 ?_
 rintro v σ H Q ⟨ds,δ,M,QQ,s,r,h,u⟩
 cases ds with
 |nil=>exact ⟨r,u δ M h σ H Frm.refl s⟩
 |cons _ _=>exact (show False from h).elim
theorem bK{e:Expr}{es:List Expr}{t:jH}{u:mr}(h1:DG X B e t)(h2:DGs X B es u)
  (hs:(assignEach (e::es) X.env).map (·.2)=assign e X.env::(assignEach es X.env).map (·.2):=by rfl):DGs X B (e::es) (c8 t u):=by
 refine ny (uV h1 h2 hs) ?_
 rintro v σ H Q ⟨ds,δ,M,QQ,s,r,h,up⟩
 cases ds with
 |nil=>exact (show False from h).elim
 |cons d ds=>
  obtain ⟨v1,vr,rfl,r1,r2⟩:=r;refine ⟨v1,vr,rfl,d,δ,M,_,s,r1,h,fun δ' M' q σ' H' i s'=>?_⟩;exact ⟨ds,δ',M',QQ,s',r2.mf s.rh i,q,up.go i⟩
def kf(n:Nat)(t:mr):jH:=fun d δ M Q=>match d with
 |.tup xs=>xs.length=n/\t xs δ M Q
 |_=>False
theorem gI{es:List Expr}{k:Nat}{t:mr}{n:Nat}(hc:X.calm=true)(h:DGs X B es t)
  (hn:(assignEach es X.env).length=n:=by rfl) (hst:(assignEach es X.env).findIdx? (·.1)=none:=by rfl):DG X B (.Tuple es k pos) (kf n t):=by
 refine iR (Cu hc h hn hst) ?_
 rintro v σ H Q ⟨d,δ,M,QQ,s,r,h,up⟩
 cases d with
 |tup xs=>
  obtain ⟨p,vs,rfl,ht,r⟩:=r;exact ⟨p,vs,rfl,ht.sq,by rw [<- r.length];exact h.1,xs,δ,M,QQ,s,r,h.2,up⟩
 |_=>exact (show False from h).elim
def b0(te:bL)(g:jH):aM:=fun D δ M=>te δ M fun x M1=>g x δ M1 D.nx
theorem dU{tg e:Expr}{te:bL}{g:jH}(he:DE X B e te)(hg:DG X B tg g)(hs:swapsWithSole [tg] e pos.line X.env=pure false:=by rfl)(hw:swappedStores [tg] e X.env=pure none:=by rfl)
  (h1:(assignEach [tg] X.env).map (·.2)=[assign tg X.env]:=by rfl):DS X B (.Assign [tg] e pos) (b0 te g):=by
 refine cz (E4 he hg hs hw h1) ?_
 rintro D σ H ⟨δ,M,DD,s,h,up⟩
 refine ⟨δ,M,_,s,h,fun d M' q v H' rh i r=>?_⟩;exact ⟨d,δ,M',DD.nx,s.go rh i,r,q,up.nx.go i⟩
theorem aN{i:Nat}{x:Str}{e:Expr}{te:bL}{pos':Pos}(hN:X.N.Nodup)(hi:X.N[i]?=some x)(hx:AI X.env.scope x)(he:DE X B e te)(hs:swapsWith e (some (.Name x pos')) pos.line X.env=pure false:=by rfl)(hf:X.fn x=true\/X.env.scope.names.lookup x=some .local:=by first|exact .inl rfl|exact .inr rfl|assumption):
  DS X B (.Assign [.Name x pos'] e pos) (b0 te (au i)):=by
 refine cz (D6 hN hi hx he hs hf) ?_
 rintro D σ H ⟨δ,M,DD,s,h,up⟩
 refine ⟨δ,M,_,s,h,fun d M' q v H' rh i r=>?_⟩;exact up.nx _ M' q _ H' i ((s.go rh i).set r)
def u0(i:Nat)(te:bL)(r:dW):aM:=fun D δ M=>match δ[i]? with
 |some (some x)=>te δ M fun y M1=>r x y M1 fun z M2=>D.nx (δ.set i (some z)) M2
 |_=>False
theorem uG{i:Nat}{x:Str}{e:Expr}{te:bL}{op:Operator}{r:dW}{pos':Pos}(hN:X.N.Nodup)(hi:X.N[i]?=some x)(hx:AI X.env.scope x)(he:DE X B e te)(ho:Ed X op (liftR2 X r))(hf:X.fn x=true\/X.env.scope.names.lookup x=some .local:=by first|exact .inl rfl|exact .inr rfl|assumption):
  DS X B (.AugAssign (.Name x pos') op e pos) (u0 i te r):=by
 refine cz (BU hN hi hx he ho hf) ?_
 rintro D σ H ⟨δ,M,DD,s,h,up⟩
 unfold u0 at h
 split at h
 ·rename_i x' ex
  obtain ⟨v,hv,rv⟩:=s.rs.get i x' ex;refine ⟨v,hv,δ,M,_,s,h,fun y M1 h1 w H1 rh1 i1 r1=>?_⟩;refine ⟨x',y,M1,_,rh1,rv.mf s.rh i1,r1,h1,fun z M2 h2 w2 H2 rh2 i2 r2=>?_⟩;exact up.nx _ M2 h2 _ H2 (i1.trans i2) ((s.go rh2 (i1.trans i2)).set r2)
 ·exact h.elim
theorem EU{op:Operator}{g:Int->Int->Int}(h:Ed X op (ipI g)):Ed X op (liftR2 X (uo fun i j=>.int (g i j))):=by
 intro pins s σ H x y v u Q I rx ry hq;obtain ⟨d1,d2,M,QQ,rh,r1,r2,hq,up⟩:=hq;unfold uo at hq
 split at hq
 ·cases r1;cases r2
  exact h pins s σ H _ _ v u Q I rx ry ⟨_,_,rfl,rfl,up _ M hq _ H rh Frm.refl rfl⟩
 ·exact hq.elim
abbrev qS:dW:=uo fun i j=>.int (i+j)
theorem qT:Ed X .Add (liftR2 X qS):=EU BD
def Br(o i v:D)(M:Mem)(Q:Mem->Prop):Prop:=match o with
 |.ref a=>match M a,i with
  |some (.lst xs),.int k=>match oR xs.length k with
   |some j=>Q (M.upd a (.lst (xs.set j v)))
   |none=>False
  |some (.dK kvs),y=>match nh y with
   |some k=>kvs.length<sizeLine/\Q (M.upd a (.dK (fU kvs k v)))
   |none=>False
  |some (.dT kvs),y=>match Dx y with
   |some k=>kvs.length<sizeLine/\Q (M.upd a (.dT (fU kvs k v)))
   |none=>False
  |_,_=>False
 |_=>False
inductive liftSet(X:Cx)(o i v:V)(H:Hp)(Q:Hp->Prop):Prop
 |mk (d1 d2 d3:L3.D) (M:Mem) (QQ:Mem->Prop) (rh:RepH X.K H M) (r1:Rp X.K H d1 o) (r2:Rp X.K H d2 i) (r3:Rp X.K H d3 v) (h:Br d1 d2 d3 M QQ) (u:∀M',QQ M'->∀H',RepH X.K H' M'->Frm M H M' H'->Q H'):liftSet X o i v H Q
theorem xX(hu:X.A.units+1<cLine):Cz X (liftSet X):=by
 intro pins s σ H o i v ov iv u Q I ro ri rv h;obtain ⟨d1,d2,d3,M,QQ,rh,r1,r2,r3,h,up⟩:=h;unfold Br at h
 split at h
 ·rename_i a
  cases r1;cases ro
  split at h
  ·rename_i xs k hM
   cases r2;obtain ⟨vs,h1,h2⟩:=rh _ _ hM
   split at h
   ·rename_i j ej
    refine u7 pins s σ H (.ref a) _ v _ iv u Q I rfl ri rv ⟨a,vs,k,j,rfl,rfl,h1,by rw [<- h2.length];exact ej,?_⟩
    have i2:Imm H (upd H a (.lst (vs.set j v))):=Imm.upd (by rw [h1];trivial)
    exact up _ h _ (rh.put (by rw [h1];trivial) ⟨_,upd_same,(h2.set r3 j).mono i2⟩) (Frm.put (.inr ⟨_,hM⟩))
   ·exact h.elim
  ·rename_i kvs hM
   obtain ⟨ws,h1,h2⟩:=rh _ _ hM
   split at h
   ·rename_i k ek
    have ev:=lS r2 ek;subst ev;have i2:Imm H (upd H a (.dK (cZ ws k v))):=Imm.upd (by rw [h1];trivial)
    refine kL hu I (DPut.k h1 (by rw [<- h2.length];exact h.1)) ri rv fun s' I'=>⟨_,I',?_⟩
    exact up _ h.2 _ (rh.put (by rw [h1];trivial) ⟨_,upd_same,(h2.put k r3).mono i2⟩) (Frm.put (.inr ⟨_,hM⟩))
   ·exact h.elim
  ·rename_i kvs hM
   obtain ⟨ws,h1,h2⟩:=rh _ _ hM
   split at h
   ·rename_i k ek
    obtain ⟨b,rfl,hb⟩:=mV r2 ek;have i2:Imm H (upd H a (.dT (cZ ws k v))):=Imm.upd (by rw [h1];trivial)
    refine kL hu I (DPut.t h1 hb (by rw [<- h2.length];exact h.1)) ri rv fun s' I'=>⟨_,I',?_⟩
    exact up _ h.2 _ (rh.put (by rw [h1];trivial) ⟨_,upd_same,(h2.put k r3).mono i2⟩) (Frm.put (.inr ⟨_,hM⟩))
   ·exact h.elim
  ·exact h.elim
 ·exact h.elim
def iD(to ti:bL):jH:=fun v δ M Q=>to δ M fun o M1=>ti δ M1 fun i M2=>Br o i v M2 fun M3=>Q δ M3
theorem gS{o i:Expr}{to ti:bL}(hu:X.A.units+1<cLine)(ho:DE X B o to)(hi:DE X B i ti)
  (ha:∀v,assign (.Subscript o i pos) X.env v=(do
   let ov <- holding [v] (eval o X.env)
   let iv <- holding [v,ov] (eval i X.env)
   standAt pos
   holding [v,ov,iv] (setItem ov iv v)
   release [v,ov,iv] []):=by intro _;rfl):DG X B (.Subscript o i pos) (iD to ti):=by
 refine iR (Dz ho hi (xX hu) ha) ?_
 rintro v σ H Q ⟨d,δ,M,QQ,s,r,h,up⟩
 refine ⟨δ,M,_,s,h,fun x M1 h1 v1 H1 rh1 i1 r1=>?_⟩;refine ⟨δ,M1,_,s.go rh1 i1,h1,fun y M2 h2 v2 H2 rh2 i2 r2=>?_⟩;exact ⟨x,y,d,M2,_,rh2,r1.mf rh1 i2,r2,r.mf s.rh (i1.trans i2),h2,fun M3 h3 H3 rh3 i3=>up δ M3 h3 σ H3 ((i1.trans i2).trans i3) (s.go rh3 ((i1.trans i2).trans i3))⟩
end
end L3
namespace L3
open PySem L2
section
variable {X:Cx}{B:Mem}{o e value:Expr}{f:Str}{pos pos' tpos:Pos}{ta tv te:bL}{C:Addr}
def fI(f:Str)(v:D):List (Str×D)->List (Str×D)
 |[]=>[(f,v)]
 |(g,w)::r=>if g=f then (g,v)::r else (g,w)::fI f v r
theorem Rkv.lookup{K:W.Frag}{H:Hp}{fs:List (Str×D)}{ws:List (Str×V)}(h:Rkv K H fs ws)(f:Str):(fs.lookup f=none/\ws.lookup f=none)\/∃d v,fs.lookup f=some d/\ws.lookup f=some v/\Rp K H d v:=by
 induction h with
 |nil=>exact .inl ⟨rfl,rfl⟩
 |@cons p q ps qs r t ih=>
  obtain ⟨k1,d⟩:=p;obtain ⟨k2,v⟩:=q;obtain ⟨e,r⟩:=r;dsimp only at e r;subst e;rw [List.lookup_cons,List.lookup_cons];cases hk:f==k1 with
  |true=>exact .inr ⟨d,v,rfl,rfl,r⟩
  |false=>exact ih
theorem xO(f:Str)(v:V):∀ws:List (Str×V),dj f v ws=(match ws with|[]=>[(f,v)]|(g,w)::r=>if g=f then (g,v)::r else (g,w)::dj f v r)
 |[]=>rfl
 |(g,w)::r=>by rw [dj]
theorem oO{K:W.Frag}{H:Hp}{f:Str}{d:D}{v:V}(rd:Rp K H d v):∀{fs:List (Str×D)} {ws:List (Str×V)},Rkv K H fs ws->Rkv K H (fI f d fs) (L2.dj f v ws)
 |_,_,.nil=>.cons ⟨rfl,rd⟩ .nil
 |(k1,d1)::fs,(k2,v1)::ws,.cons r t=>by
  obtain ⟨e,r⟩:=r;dsimp only at e r;subst e;rw [xO];show Rkv K H (if k1=f then (k1,d)::fs else (k1,d1)::fI f d fs) (if k1=f then (k1,v)::ws else (k1,v1)::L2.dj f v ws)
  split
  ·exact .cons ⟨rfl,rd⟩ t
  ·exact .cons ⟨rfl,r⟩ (oO rd t)
def gH(C:Addr)(ta:bL)(f:Str):bL:=fun δ M Q=>ta δ M fun x M1=>match x with
 |.ref a=>match M1 a with
  |some (.ins C' fs)=>C'=C/\match fs.lookup f with
   |some d=>Q d M1
   |none=>False
  |_=>False
 |_=>False
theorem df(c:Cls X.K C)(n:NoAttr X.K C f)(he:DE X B e ta)(hb:attributeBase e f X.env (eval e X.env)=eval e X.env:=by rfl):DE X B (.Attribute e f pos) (gH C ta f):=by
 refine bc (BS he hb) ?_
 rintro σ H Q ⟨δ,M,QQ,s,h,u⟩
 refine ⟨δ,M,_,s,h,fun x M1 h1 v1 H1 rh1 i1 r1=>?_⟩
 split at h1
 ·rename_i a
  cases r1
  split at h1
  ·rename_i C' fs hM
   obtain ⟨rfl,h1⟩:=h1;obtain ⟨dx,ws,e1,e2⟩:=rh1 _ _ hM
   split at h1
   ·rename_i d ed
    rcases e2.lookup f with ⟨z,_⟩|⟨d',v,z1,z2,z3⟩
    ·rw [ed] at z;cases z
    ·rw [ed] at z1;cases z1
     exact ⟨a,_,dx,ws,v,rfl,e1,c,n,z2,u _ M1 h1 _ H1 rh1 i1 z3⟩
   ·exact h1.elim
  ·exact h1.elim
 ·exact h1.elim
def kA(C:Addr)(ta tv:bL)(f:Str):aM:=fun D δ M=>tv δ M fun y M1=>ta δ M1 fun x M2=>match x with
 |.ref a=>match M2 a with
  |some (.ins C' fs)=>C'=C/\fs.length<1000/\D.nx δ (M2.upd a (.ins C (fI f y fs)))
  |_=>False
 |_=>False
theorem je(c:Cls X.K C)(n:NoAttr X.K C f)(ha:DE X B o ta)(hv:DE X B value tv)(hs:swapsWith value (some (.Attribute o f pos')) pos.line X.env=pure false:=by rfl):DS X B (.Assign [.Attribute o f pos'] value pos) (kA C ta tv f):=by
 refine cz (Bh ha hv hs) ?_
 rintro D σ H ⟨δ,M,DD,s,h,up⟩
 refine ⟨δ,M,_,s,h,fun y M1 h1 v1 H1 rh1 i1 r1=>?_⟩;refine ⟨δ,M1,_,s.go rh1 i1,h1,fun x M2 h2 v2 H2 rh2 i2 r2=>?_⟩
 split at h2
 ·rename_i a
  cases r2
  split at h2
  ·rename_i C' fs hM
   obtain ⟨rfl,hl,h2⟩:=h2;obtain ⟨dx,ws,e1,e2⟩:=rh2 _ _ hM;have i3:Frm M2 H2 (M2.upd a (.ins C' (fI f y fs))) (upd H2 a (.ins C' dx (L2.dj f v1 ws))):=Frm.put (.inr ⟨_,hM⟩);refine ⟨a,C',dx,ws,rfl,e1,c,n,by rw [<- e2.length];exact hl,up.nx _ _ h2 σ _ ((i1.trans i2).trans i3) (s.go (rh2.put (by rw [e1];trivial) ⟨dx,_,upd_same,?_⟩) ((i1.trans i2).trans i3))⟩
   exact (oO (r1.mf rh1 i2) e2).mono (i3.imm rh2)
  ·exact h2.elim
 ·exact h2.elim
structure BxW(c:eD)(tb:aM)(D:DEnds):Type
structure BxF(g:jH)(tb:aM)(D:DEnds)(ok:Mem->Prop):Type
def whileD(c:eD)(tb:aM)(D:DEnds)(bx:BxW c tb D):Nat->Dl->Mem->Prop
 |0,_,_=>False
 |n+1,δ,M=>c δ M fun b M1=>if b=true then tb { D with nx:=whileD c tb D bx n,ct:=whileD c tb D bx n,bk:=D.nx } δ M1 else D.nx δ M1
def dWhile(c:eD)(tb:aM):aM:=fun D δ M=>∃n,whileD c tb D ⟨⟩ n δ M
theorem jw{c:Expr}{body:List Stmt}{tc:eD}{tb:aM}(hp:PassesOwn (model X.prog X.w) X.A X.env X.xe)(hc:DT X B c tc)(hb:xi X B body tb):DS X B (.While c body [] pos) (dWhile tc tb):=by
 refine cz (ue hp hc hb) ?_
 rintro D σ H ⟨δ,M,DD,s,⟨n,h⟩,up⟩
 refine ⟨fun m σ' H'=>∃δ' M',SR X B δ' M' σ' H'/\Frm M H M' H'/\whileD tc tb DD ⟨⟩ m δ' M',⟨n,δ,M,s,Frm.refl,h⟩,?_⟩
 rintro m σ1 H1 ⟨δ1,M1,s1,i1,h1⟩
 cases m with
 |zero=>exact (show False from h1).elim
 |succ m=>
  refine ⟨δ1,M1,_,s1,h1,fun b M2 q H2 rh2 i2=>?_⟩;cases b with
  |false=>rw [if_neg Bool.false_ne_true] at q ⊢;exact up.nx _ _ q σ1 H2 (i1.trans i2) (s1.go rh2 i2)
  |true=>
   rw [if_pos rfl] at q ⊢;refine ⟨fun σ' H'=>∃δ' M',SR X B δ' M' σ' H'/\Frm M H M' H'/\whileD tc tb DD ⟨⟩ m δ' M',fun σ' H' z=>⟨m,Nat.lt_succ_self _,z⟩,?_⟩;refine ⟨δ1,M2,_,s1.go rh2 i2,q,⟨?_,(up.go (i1.trans i2)).rt,(up.go (i1.trans i2)).nx,?_⟩⟩
   ·exact fun δ3 M3 q3 σ3 H3 i3 s3=>⟨δ3,M3,s3,(i1.trans i2).trans i3,q3⟩
   ·exact fun δ3 M3 q3 σ3 H3 i3 s3=>⟨δ3,M3,s3,(i1.trans i2).trans i3,q3⟩
structure DIt where
 items:List D
 src:List (Addr×List D)
def DIt.ok(I:DIt)(M:Mem):Prop:=∀p∈I.src,M p.1=some (.lst p.2)
abbrev wk:=Dl->Mem->(DIt->Mem->Prop)->Prop
def Bq(K:W.Frag)(H0:Hp)(it:DIt)(J:It):Prop:=∀(i:Nat) (H:Hp) (M:Mem),Imm H0 H->RepH K H M->it.ok M->
 (∀d,it.items[i]?=some d->J.go i H/\∀x H',J.yld i H x H'->Frm M H M H'/\RepH K H' M/\Rp K H' d x)/\(it.items.length<=i->J.stop i H)
inductive liftI(X:Cx)(B:Mem)(T:wk)(σ:St)(H:Hp)(R:It->Hp->Prop):Prop
 |mk (δ:Dl) (M:Mem) (RR:DIt->Mem->Prop) (s:SR X B δ M σ H) (h:T δ M RR) (u:∀it M',RR it M'->∀J H',RepH X.K H' M'->Frm M H M' H'->Bq X.K H' it J->R J H'):liftI X B T σ H R
def DI(X:Cx)(B:Mem)(tg iter:Expr)(T:wk):Prop:=PI X tg iter (liftI X B T)
theorem fX{tg iter:Expr}{t t':TI}(h:PI X tg iter t)(w:∀σ H Q,t' σ H Q->t σ H Q):PI X tg iter t':=fun pins s σ H Q I q=>h pins s σ H Q I (w σ H Q q)
def ql(g:jH)(tb:aM)(DD:DEnds)(ok:Mem->Prop)(b:BxF g tb DD ok):List D->Dl->Mem->Prop
 |[],δ,M=>ok M/\DD.nx δ M
 |x::xs,δ,M=>ok M/\g x δ M fun δ2 M2=>tb { DD with nx:=ql g tb DD ok b xs,ct:=ql g tb DD ok b xs,bk:=DD.nx } δ2 M2
def dFor(wi:wk)(g:jH)(tb:aM):aM:=fun D δ M=>wi δ M fun it M1=>ql g tb D it.ok ⟨⟩ it.items δ M1
theorem xL{g:jH}{tb:aM}{DD:DEnds}{ok:Mem->Prop}{b:BxF g tb DD ok}{xs:List D}{δ:Dl}{M:Mem}(h:ql g tb DD ok b xs δ M):ok M:=by
 cases xs with
 |nil=>exact h.1
 |cons _ _=>exact h.1
theorem eZ{tg iter:Expr}{body:List Stmt}{wi:wk}{g:jH}{tb:aM}(hp:PassesOwn (model X.prog X.w) X.A X.env X.xe)(hc:X.calm=true)(hi:DI X B tg iter wi)(hg:DG X B tg g)(hb:xi X B body tb)
  (hs:∀x,foldedSetIterable iter X.env x=pure x:=by intro _;rfl):DS X B (.For tg iter body [] pos) (dFor wi g tb):=by
 refine cz (Bw hp hc hi hg hb hs) ?_
 rintro D σ H ⟨δ,M,DD,s,h,up⟩
 refine ⟨δ,M,_,s,h,fun it M1 h1 J H1 rh1 i1 hJ=>?_⟩;refine ⟨fun i m σ' H'=>m=it.items.length-i/\i<=it.items.length/\∃δ' M',SR X B δ' M' σ' H'/\Frm M1 H1 M' H'/\ql g tb DD it.ok ⟨⟩ (it.items.drop i) δ' M',⟨_,rfl,Nat.zero_le _,δ,M1,s.go rh1 i1,Frm.refl,h1⟩,?_⟩
 rintro i m σ2 H2 ⟨rfl,hi',δ2,M2,s2,i2,h2⟩
 have hok:=xL h2;obtain ⟨hgo,hstop⟩:=hJ i H2 M2 (i2.imm rh1) s2.rh hok
 by_cases hlt:i<it.items.length
 ·rw [List.drop_eq_getElem_cons hlt] at h2
  obtain ⟨go,hy⟩:=hgo _ (List.getElem?_eq_getElem hlt);refine .inr ⟨go,fun σ' H'=>∃δ' M',SR X B δ' M' σ' H'/\Frm M1 H1 M' H'/\ql g tb DD it.ok ⟨⟩ (it.items.drop (i+1)) δ' M',fun σ' H' z=>⟨it.items.length-(i+1),by omega,rfl,hlt,z⟩,fun x H3 hx=>?_⟩
  obtain ⟨i3,rh3,rx⟩:=hy x H3 hx;refine ⟨_,δ2,M2,_,s2.go rh3 i3,rx,h2.2,fun δ4 M4 h4 σ4 H4 i4 s4=>?_⟩;have i14:=(i2.trans i3).trans i4;refine ⟨δ4,M4,_,s4,h4,⟨?_,(up.go (i1.trans i14)).rt,(up.go (i1.trans i14)).nx,?_⟩⟩
  ·exact fun δ5 M5 q5 σ5 H5 i5 s5=>⟨δ5,M5,s5,i14.trans i5,q5⟩
  ·exact fun δ5 M5 q5 σ5 H5 i5 s5=>⟨δ5,M5,s5,i14.trans i5,q5⟩
 ·rw [List.drop_eq_nil_of_le (by omega)] at h2
  exact .inl ⟨hstop (by omega),up.nx _ _ h2.2 σ2 H2 (i1.trans i2) s2⟩
end
end L3
namespace L2
open PySem PySem.Spec PyProof.Rows
section
variable {X:Cx}{B:Mem}{tg:Expr}
def E_(K:W.Frag)(tl:TE):TI:=fun σ H R=>tl σ H fun x H1=>∃a b xs,x=.ref a/\kZ K b H1 a xs/\R (if b=true then Itl K a else Itt K a) H1
theorem yU{l:Expr}{tl:TE}(hl:PE X l tl):PI X tg l (E_ X.K tl):=by
 intro pins s σ H R I h;refine thn (hl pins s σ H _ I h) fun v s1 ⟨x,H1,I1,r1,q1⟩=>?_;obtain ⟨a,b,xs,e,hq,q⟩:=q1;subst e;cases r1;cases b with
 |true=>
  obtain ⟨its,rv,p,hz⟩:=I1.list (show SqL X.K H1 a xs from hq);refine wpAny_pyIter_list p.isList ?_;refine ⟨s1.heap.objs.size,[s1.heap.objs.size],_,_,H1,rfl,I1.kept (t':=s1.toks) fun b o e=>Heap.get?_push_of_some _ e,sH a _,⟨_,Heap.get?_push_size _ rfl,rfl,rfl⟩,fun b hb=>?_,q⟩;have e:b=s1.heap.objs.size:=by simpa using hb
  subst e;exact I1.fpOk (Nat.le_refl _) (I1.hok.fresh (Nat.le_refl _))
 |false=>
  obtain ⟨its,rv,p,hz⟩:=I1.tuple (show gG X.K H1 a xs from hq);refine wpAny_pyIter_tuple (show s1.heap.IsTuple a its.toArray from p) ?_;refine ⟨s1.heap.objs.size,[s1.heap.objs.size],_,_,H1,rfl,I1.kept (t':=s1.toks) fun b o e=>Heap.get?_push_of_some _ e,pc a _,⟨_,Heap.get?_push_size _ rfl,rfl,rfl⟩,fun b hb=>?_,q⟩;have e:b=s1.heap.objs.size:=by simpa using hb
  subst e;exact I1.fpOk (Nat.le_refl _) (I1.hok.fresh (Nat.le_refl _))
def Fa(K:W.Frag)(t:TA):TI:=fun σ H R=>t σ H fun vs H1=>∃b1 b2 l1 l2 xs ys,vs=[.ref l1,.ref l2]/\kZ K b1 H1 l1 xs/\kZ K b2 H1 l2 ys/\R (Itz K b1 b2 l1 l2) H1
theorem AE{a b:Expr}{elts:List Expr}{x1:Nat}{tp:Pos}{ta:TA}{p pos:Pos}(hg:Gl X "zip")(hm:X.mg "zip"=none)(ha:PA X [a,b] ta)
  (hs:starEach [a,b] X.env=[(false,eval a X.env),(false,eval b X.env)]:=by rfl) (hs2:starEach [b] X.env=[(false,eval b X.env)]:=by rfl):
  PI X (.Tuple elts x1 tp) (.Call (.Name "zip" p) [a,b] [] pos) (Fa X.K ta):=by
 intro pins s σ H R I h;refine Call_ (ld_blt I hg hm (by decide +kernel:bootBuiltins "zip"=some (.type "zip")) (PyProof.Rows.callWith_type1 (thn (ha pos pins s σ H _ I h) fun us s1 ⟨vs,H1,I1,r1,q1⟩=>?_) (by rw [hs,hs2]) (by rw [hs2];rfl)))
 obtain ⟨b1,b2,l1,l2,xs,ys,e,q1,q2,q⟩:=q1;subst e;obtain ⟨u1,u2,rfl,ru1,ru2⟩:=r1.two;cases ru1;cases ru2;obtain ⟨its1,rv1,sq1,z1⟩:=I1.src q1;obtain ⟨its2,rv2,sq2,z2⟩:=I1.src q2;refine oG sq1 sq2 fun h' hz hTI hTO h1 h2 hsz hk=>?_;have I2:Inv X pins σ H1 { s1 with heap:=h' }:=I1.kept (t':=s1.toks) hk;refine wpAny_pyIter_zip (s:={ s1 with heap:=h' }) hz ?_;have D:ZApart (s1.heap.objs.size+4) (s1.heap.objs.size+2) (s1.heap.objs.size+3) s1.heap.objs.size (s1.heap.objs.size+1):=by constructor<;>exact (show (_:Nat)≠(_:Nat) by lia)
 refine ⟨s1.heap.objs.size+4,[s1.heap.objs.size+4,s1.heap.objs.size+2,s1.heap.objs.size+3,s1.heap.objs.size,s1.heap.objs.size+1],_,_,H1,rfl,I2,vd b1 b2 l1 l2 _ _ _ _ _ D,⟨hz,hTI,⟨_,_,hTO⟩,h1,h2⟩,fun b hb=>?_,q⟩;have hb':s1.heap.objs.size<=b:=by
  have hb2:b=s1.heap.objs.size+4\/b=s1.heap.objs.size+2\/b=s1.heap.objs.size+3\/b=s1.heap.objs.size\/b=s1.heap.objs.size+1:=by simpa using hb
  rcases hb2 with e|e|e|e|e<;>rw [e]<;>first|exact Nat.le_add_right _ _|exact Nat.le_refl _
 exact I1.fpOk (H':=H1) hb' (I1.hok.fresh hb')
def CV(K:W.Frag)(t:TA):TI:=fun σ H R=>t σ H fun vs H1=>∃b l xs,vs=[.ref l]/\kZ K b H1 l xs/\R (Ite K b l) H1
theorem v_{a:Expr}{elts:List Expr}{x1:Nat}{tp:Pos}{ta:TA}{p pos:Pos}(hg:Gl X "enumerate")(hm:X.mg "enumerate"=none)(ha:PA X [a] ta)(hs:starEach [a] X.env=[(false,eval a X.env)]:=by rfl):
  PI X (.Tuple elts x1 tp) (.Call (.Name "enumerate" p) [a] [] pos) (CV X.K ta):=by
 intro pins s σ H R I h;refine Call_ (ld_blt I hg hm (by decide +kernel:bootBuiltins "enumerate"=some (.type "enumerate")) (PyProof.Rows.callWith_type1 (thn (ha pos pins s σ H _ I h) fun us s1 ⟨vs,H1,I1,r1,q1⟩=>?_) hs rfl))
 obtain ⟨b,l,xs,e,q1,q⟩:=q1;subst e;obtain ⟨u1,rfl,ru1⟩:=r1.one;cases ru1;obtain ⟨its,rv,sq,z⟩:=I1.src q1;refine sM sq fun h' he h1 hsz hk=>?_;have I2:Inv X pins σ H1 { s1 with heap:=h' }:=I1.kept (t':=s1.toks) hk;refine wpAny_pyIter_enum (s:={ s1 with heap:=h' }) he ?_;refine ⟨s1.heap.objs.size+1,[s1.heap.objs.size+1,s1.heap.objs.size],_,_,H1,rfl,I2,sf b l _ _ (show (_:Nat)≠(_:Nat) by lia),⟨⟨_,he⟩,h1⟩,fun c hc=>?_,q⟩
 have hc':s1.heap.objs.size<=c:=by
  have hc2:c=s1.heap.objs.size+1\/c=s1.heap.objs.size:=by simpa using hc
  rcases hc2 with e|e<;>rw [e]<;>first|exact Nat.le_add_right _ _|exact Nat.le_refl _
 exact I1.fpOk (H':=H1) hc' (I1.hok.fresh hc')
end
end L2
namespace L3
open PySem L2
section
variable {X:Cx}{B:Mem}{tg:Expr}{K:W.Frag}{H:Hp}{M:Mem}
def srcOf(d:D)(xs:List D):List (Addr×List D):=match d with
 |.ref a=>[(a,xs)]
 |_=>[]
theorem lf{d:D}{v:V}{xs:List D}(rh:RepH K H M)(r:Rp K H d v)(e:gU M d=some xs):∃p b,v=.ref p/\∀H' M',Imm H H'->RepH K H' M'->(∀q∈srcOf d xs,M' q.1=some (.lst q.2))->∃vs,kZ K b H' p vs/\Rps K H' xs vs:=by
 cases d with
 |tup ys=>
  cases e;obtain ⟨p,vs,rfl,h,r⟩:=r;exact ⟨p,false,rfl,fun H' M' i _ _=>⟨vs,(h.mono i).sq,r.mono i⟩⟩
 |lst ys=>
  cases e;obtain ⟨p,vs,rfl,h,r⟩:=r;exact ⟨p,true,rfl,fun H' M' i _ _=>⟨vs,(h.mono i).sq,r.mono i⟩⟩
 |mt ys=>
  cases e;obtain ⟨p,vs,rfl,h,r⟩:=r;exact ⟨p,false,rfl,fun H' M' i _ _=>⟨vs,h.sq,r.mono i⟩⟩
 |ml ys=>
  cases e;obtain ⟨p,vs,rfl,h,r⟩:=r;exact ⟨p,true,rfl,fun H' M' i _ _=>⟨vs,(h.mono i).sq,r.mono i⟩⟩
 |ref a=>
  refine ⟨a,true,r,fun H' M' i rh' hs=>?_⟩;obtain ⟨vs,h1,h2⟩:=rh' _ _ (hs (a,xs) (by simp [srcOf]))
  exact ⟨vs,SqL.of h1,h2⟩
 |_=>cases e
theorem lu{d:D}{xs:List D}(e:gU M d=some xs):∀q∈srcOf d xs,M q.1=some (.lst q.2):=by
 cases d with
 |ref a=>
  intro q hq;have:q=(a,xs):=by simpa [srcOf] using hq
  subst this;simp only [gU] at e
  split at e
  ·rename_i ys h;cases e;exact h
  ·cases e
 |_=>intro q hq;simp [srcOf] at hq
def dw(te:bL):wk:=fun δ M R=>te δ M fun d M1=>match gU M1 d with
 |some xs=>R ⟨xs,srcOf d xs⟩ M1
 |none=>False
theorem bU{l:Expr}{tl:bL}(hl:DE X B l tl):DI X B tg l (dw tl):=by
 refine fX (yU hl) ?_
 rintro σ H R ⟨δ,M,RR,s,h,up⟩
 refine ⟨δ,M,_,s,h,fun d M1 h1 v H1 rh1 i1 r1=>?_⟩
 split at h1
 ·rename_i xs e
  obtain ⟨p,b,rfl,hsrc⟩:=lf rh1 r1 e;obtain ⟨vs,hq,_⟩:=hsrc H1 M1 Imm.refl rh1 (lu e);refine ⟨p,b,vs,rfl,hq,up _ M1 h1 _ H1 rh1 i1 fun i H2 M2 i2 rh2 ok2=>?_⟩;obtain ⟨vs2,hq2,r2⟩:=hsrc H2 M2 i2 rh2 ok2;have hl:=r2.length;cases b with
  |true=>
   refine ⟨fun d hd=>?_,fun hle=>⟨vs2,hq2,by rw [<- hl];exact hle⟩⟩
   obtain ⟨w,hw,rw'⟩:=r2.get hd;refine ⟨⟨vs2,w,hq2,hw⟩,?_⟩
   rintro x H3 ⟨rfl,hx⟩
   have:=hx vs2 hq2;rw [hw] at this;cases this;exact ⟨Frm.refl,rh2,rw'⟩
  |false=>
   refine ⟨fun d hd=>?_,fun hle=>⟨vs2,hq2,by rw [<- hl];exact hle⟩⟩
   obtain ⟨w,hw,rw'⟩:=r2.get hd;refine ⟨⟨vs2,w,hq2,hw⟩,?_⟩
   rintro x H3 ⟨rfl,hx⟩
   have:=hx vs2 hq2;rw [hw] at this;cases this;exact ⟨Frm.refl,rh2,rw'⟩
 ·exact h1.elim
def gj(lo:Int)(n:Nat):List D:=(List.range n).map fun (i:Nat)=>D.int (lo+i)
def rg(t:eE):wk:=fun δ M R=>t δ M fun ds M1=>match ds with
 |[.int j]=>-(2 ^ 62)<=j/\j<2 ^ 62/\R ⟨gj 0 j.toNat,[]⟩ M1
 |_=>False
theorem Bd{lo:Int}{n:Nat}:Bq K H ⟨gj lo n,[]⟩ (Itr lo n):=fun i H2 M2 i2 rh2 _=>by
 have hlen:(gj lo n).length=n:=by simp [gj]
 refine ⟨fun d hd=>?_,fun hle=>by rw [hlen] at hle;exact hle⟩
 have hi:i<n:=by
  rcases Nat.lt_or_ge i n with h|h
  ·exact h
  ·rw [List.getElem?_eq_none (by rw [hlen];exact h)] at hd;cases hd
 have ed:d=.int (lo+i):=by
  simp only [gj,List.getElem?_map,List.getElem?_range hi] at hd;exact (Option.some.inj hd).symm
 subst ed;refine ⟨hi,?_⟩
 rintro x H3 ⟨rfl,rfl⟩
 exact ⟨Frm.refl,rh2,rfl⟩
theorem gP{a:Expr}{ta:eE}{p pos:Pos}(hg:Gl X "range")(hm:X.mg "range"=none)(ha:DA X B [a] ta)(hs:starEach [a] X.env=[(false,eval a X.env)]:=by rfl):DI X B tg (.Call (.Name "range" p) [a] [] pos) (rg ta):=by
 refine fX (sK hg hm ha hs) ?_
 rintro σ H R ⟨δ,M,RR,s,h,up⟩
 refine ⟨δ,M,_,s,h,fun ds M1 h1 vs H1 rh1 i1 r1=>?_⟩
 split at h1
 ·obtain ⟨v,rfl,rv⟩:=eI (ds:=[]) r1
  cases rv;exact ⟨_,rfl,h1.1,h1.2.1,up _ M1 h1.2.2 _ H1 rh1 i1 Bd⟩
 ·exact h1.elim
def nD(xs:List D):List D:=(xs.zipIdx).map fun p=>D.tup [.int (p.2:Nat),p.1]
theorem tI{xs:List D}{i:Nat}:(nD xs)[i]?=(xs[i]?).map fun d=>D.tup [.int (i:Nat),d]:=by
 simp [nD,List.getElem?_map,List.getElem?_zipIdx];cases xs[i]?<;>simp
def B2(t:eE):wk:=fun δ M R=>t δ M fun ds M1=>match ds with
 |[d]=>match gU M1 d with
  |some xs=>R ⟨nD xs,srcOf d xs⟩ M1
  |none=>False
 |_=>False
theorem xU{a:Expr}{elts:List Expr}{x1:Nat}{tp:Pos}{ta:eE}{p pos:Pos}(hg:Gl X "enumerate")(hm:X.mg "enumerate"=none)(ha:DA X B [a] ta)(hs:starEach [a] X.env=[(false,eval a X.env)]:=by rfl):
  DI X B (.Tuple elts x1 tp) (.Call (.Name "enumerate" p) [a] [] pos) (B2 ta):=by
 refine fX (v_ hg hm ha hs) ?_
 rintro σ H R ⟨δ,M,RR,s,h,up⟩
 refine ⟨δ,M,_,s,h,fun ds M1 h1 vs H1 rh1 i1 r1=>?_⟩
 split at h1
 ·obtain ⟨v,rfl,rv⟩:=eI (ds:=[]) r1
  split at h1
  ·rename_i xs e
   obtain ⟨p,b,rfl,hsrc⟩:=lf rh1 rv e;obtain ⟨vs,hq,_⟩:=hsrc H1 M1 Imm.refl rh1 (lu e);refine ⟨b,p,vs,rfl,hq,up _ M1 h1 _ H1 rh1 i1 fun i H2 M2 i2 rh2 ok2=>?_⟩;obtain ⟨vs2,hq2,r2⟩:=hsrc H2 M2 i2 rh2 ok2;have hl:=r2.length;refine ⟨fun d hd=>?_,fun hle=>⟨vs2,hq2,by rw [<- hl];simpa [nD] using hle⟩⟩
   rw [tI] at hd;obtain ⟨d0,hd0,rfl⟩:=Option.map_eq_some_iff.mp hd;obtain ⟨w,hw,rw'⟩:=r2.get hd0;refine ⟨⟨vs2,w,hq2,hw⟩,?_⟩
   rintro x H3 ⟨T,x',hT,rfl,rfl,hx⟩
   have:=hx vs2 hq2;rw [hw] at this;cases this;have i3:Imm H2 (upd H2 T (.tup [.int i,w])):=Imm.new hT;exact ⟨Frm.new hT,rh2.new hT,T,_,rfl,upd_same,.cons rfl (.cons (rw'.mono i3) .nil)⟩
  ·exact h1.elim
 ·exact h1.elim
def lY(xs ys:List D):List D:=(xs.zip ys).map fun p=>D.tup [p.1,p.2]
theorem ud{xs ys:List D}{i:Nat}{d:D}(h:(lY xs ys)[i]?=some d):∃x y,xs[i]?=some x/\ys[i]?=some y/\d=.tup [x,y]:=by
 simp only [lY,List.getElem?_map,Option.map_eq_some_iff] at h;obtain ⟨⟨x,y⟩,h1,rfl⟩:=h;rw [List.getElem?_zip_eq_some] at h1;exact ⟨x,y,h1.1,h1.2,rfl⟩
def Cn(t:eE):wk:=fun δ M R=>t δ M fun ds M1=>match ds with
 |[d,e]=>match gU M1 d,gU M1 e with
  |some xs,some ys=>R ⟨lY xs ys,srcOf d xs++srcOf e ys⟩ M1
  |_,_=>False
 |_=>False
theorem vF{a b:Expr}{elts:List Expr}{x1:Nat}{tp:Pos}{ta:eE}{p pos:Pos}(hg:Gl X "zip")(hm:X.mg "zip"=none)(ha:DA X B [a,b] ta)
  (hs:starEach [a,b] X.env=[(false,eval a X.env),(false,eval b X.env)]:=by rfl) (hs2:starEach [b] X.env=[(false,eval b X.env)]:=by rfl):
  DI X B (.Tuple elts x1 tp) (.Call (.Name "zip" p) [a,b] [] pos) (Cn ta):=by
 refine fX (AE hg hm ha hs hs2) ?_
 rintro σ H R ⟨δ,M,RR,s,h,up⟩
 refine ⟨δ,M,_,s,h,fun ds M1 h1 vs H1 rh1 i1 r1=>?_⟩
 split at h1
 ·obtain ⟨v,w,rfl,rv,rw'⟩:=yS r1
  split at h1
  ·rename_i xs ys e1 e2
   obtain ⟨p,b,rfl,hsrc⟩:=lf rh1 rv e1;obtain ⟨p',b',rfl,hsrc'⟩:=lf rh1 rw' e2;obtain ⟨vs,hq,_⟩:=hsrc H1 M1 Imm.refl rh1 (lu e1);obtain ⟨vs',hq',_⟩:=hsrc' H1 M1 Imm.refl rh1 (lu e2);refine ⟨b,b',p,p',vs,vs',rfl,hq,hq',up _ M1 h1 _ H1 rh1 i1 fun i H2 M2 i2 rh2 ok2=>?_⟩;obtain ⟨vs2,hq2,r2⟩:=hsrc H2 M2 i2 rh2 fun q hq=>ok2 q (List.mem_append_left _ hq);obtain ⟨vs2',hq2',r2'⟩:=hsrc' H2 M2 i2 rh2 fun q hq=>ok2 q (List.mem_append_right _ hq);have hl:=r2.length;have hl':=r2'.length;refine ⟨fun d hd=>?_,fun hle=>⟨vs2,vs2',hq2,hq2',?_⟩⟩
   ·obtain ⟨x,y,hx,hy,rfl⟩:=ud hd
    obtain ⟨w1,hw1,rw1⟩:=r2.get hx;obtain ⟨w2,hw2,rw2⟩:=r2'.get hy;refine ⟨⟨vs2,vs2',w1,w2,hq2,hq2',hw1,hw2⟩,?_⟩
    rintro x H3 ⟨T,x',y',hT,rfl,rfl,hx1,hx2⟩
    have q1:=hx1 vs2 hq2;have q2:=hx2 vs2' hq2';rw [hw1] at q1;rw [hw2] at q2;cases q1;cases q2;have i3:Imm H2 (upd H2 T (.tup [w1,w2])):=Imm.new hT;exact ⟨Frm.new hT,rh2.new hT,T,_,rfl,upd_same,.cons (rw1.mono i3) (.cons (rw2.mono i3) .nil)⟩
   ·have:(lY xs ys).length=min xs.length ys.length:=by simp [lY]
    rw [this] at hle;lia
  ·exact h1.elim
 ·exact h1.elim
end
end L3
namespace L3
open PySem L2
def B1:Mem:=fun _=>some (.lst [])
theorem iZ{H H':Hp}{M:Mem}:Frm B1 H M H':=⟨fun _ _ _ n=>by cases n⟩
section
variable {X:Cx}{B:Mem}{K:W.Frag}{H H':Hp}{M M':Mem}
inductive liftE0(K:W.Frag)(T:bL)(σ:L2.St)(H:Hp)(Q:VK):Prop
 |mk (δ:Dl) (M:Mem) (QQ:DK) (rh:RepH K H M) (rs:RepS K H δ σ) (h:T δ M QQ) (u:Up K M H QQ Q):liftE0 K T σ H Q
inductive liftT0(K:W.Frag)(T:eD)(σ:L2.St)(H:Hp)(Q:Bool->Hp->Prop):Prop
 |mk (δ:Dl) (M:Mem) (QQ:Bool->Mem->Prop) (rh:RepH K H M) (rs:RepS K H δ σ) (h:T δ M QQ) (u:UpT K M H QQ Q):liftT0 K T σ H Q
inductive liftG0(K:W.Frag)(g:jH)(v:V)(σ:L2.St)(H:Hp)(Q:L2.St->Hp->Prop):Prop
 |mk (d:D) (δ:Dl) (M:Mem) (QQ:Dl->Mem->Prop) (rh:RepH K H M) (rs:RepS K H δ σ) (r:Rp K H d v) (h:g d δ M QQ) (u:∀δ' M',QQ δ' M'->∀σ' H',Frm M H M' H'->RepH K H' M'->RepS K H' δ' σ'->Q σ' H'):liftG0 K g v σ H Q
theorem E6{e:Expr}{T:bL}(h:DE X B1 e T):PE X e (liftE0 X.K T):=bc h fun σ H Q ⟨δ,M,QQ,rh,rs,h,u⟩=>⟨δ,M,QQ,⟨iZ,rh,rs⟩,h,u⟩
theorem pt_top{e:Expr}{T:eD}(h:DT X B1 e T):PT X e (liftT0 X.K T):=gF h fun σ H Q ⟨δ,M,QQ,rh,rs,h,u⟩=>⟨δ,M,QQ,⟨iZ,rh,rs⟩,h,u⟩
theorem BL{e:Expr}{g:jH}(h:DG X B1 e g):PG X e (liftG0 X.K g):=iR h fun v σ H Q ⟨d,δ,M,QQ,rh,rs,r,h,u⟩=>⟨d,δ,M,QQ,⟨iZ,rh,rs⟩,r,h,fun δ' M' q σ' H' f s=>u δ' M' q σ' H' f s.rh s.rs⟩
theorem RepH.add{a:Addr}{o:MO}(r:RepH K H M)(n:RepO K H a o):RepH K H (M.upd a o):=fun b p e=>by
 by_cases hb:b=a
 ·subst hb;rw [Mem.upd_same] at e;cases e;exact n
 ·rw [aj hb] at e;exact r b p e
def jA(ls:List Str)(js:List Nat)(δ:Dl):Dl:=ls.map (fun _=>none)++js.map fun j=>(δ[j]?).join
theorem RepS.start{δ:Dl}{σ:L2.St}(r:RepS K H δ σ)(ls:List Str)(js:List Nat):RepS K H (jA ls js δ) (cM ls js σ):=by
 refine ⟨by simp [jA,cM],fun i d e=>?_⟩
 unfold jA at e;unfold cM
 by_cases hi:i<ls.length
 ·rw [List.getElem?_append_left (by simpa using hi),List.getElem?_map,List.getElem?_eq_getElem hi] at e
  cases e
 ·rw [List.getElem?_append_right (by simpa using hi),List.length_map,List.getElem?_map] at e
  rw [List.getElem?_append_right (by simpa using hi),List.length_map,List.getElem?_map]
  cases hj:js[i-ls.length]? with
  |none=>rw [hj] at e;cases e
  |some j=>
   rw [hj] at e;have q:(δ[j]?).join=some d:=by simpa using e
   have q2:δ[j]?=some (some d):=by
    cases z:δ[j]? with
    |none=>rw [z] at q;cases q
    |some o=>rw [z] at q;have q':o=some d:=q;rw [q']
   obtain ⟨v,h1,h2⟩:=r.get j d q2;exact ⟨v,by simp [h1],h2⟩
structure BxC(g:jH)(tt:eD)(te:bL)(ok:Mem->Prop)(Q:List D->Mem->Prop):Type
def cD(g:jH)(tt:eD)(te:bL)(ok:Mem->Prop)(Q:List D->Mem->Prop)(b:BxC g tt te ok Q):List D->List D->Dl->Mem->Prop
 |[],acc,_,M=>ok M/\Q acc M
 |x::xs,acc,δ,M=>ok M/\g x δ M fun δ2 M2=>tt δ2 M2 fun c M3=>if c=true then te δ2 M3 fun y M4=>acc.length<sizeLine/\cD g tt te ok Q b xs (acc++[y]) δ2 M4 else cD g tt te ok Q b xs acc δ2 M3
def aP(wi:wk)(ls:List Str)(js:List Nat)(g:jH)(tt:eD)(te:bL):bL:=fun δ M Q=>wi δ M fun it M1=>cD g tt te it.ok (fun acc M'=>∀p,M' p=none->Q (.ref p) (M'.upd p (.lst acc))) ⟨⟩ it.items [] (jA ls js δ) M1
theorem u5{g:jH}{tt:eD}{te:bL}{ok:Mem->Prop}{xs acc:List D}{δ:Dl}{Q:List D->Mem->Prop}{b:BxC g tt te ok Q}(h:cD g tt te ok Q b xs acc δ M):ok M:=by
 cases xs with
 |nil=>exact h.1
 |cons _ _=>exact h.1
variable {tg iter elt:Expr}{ifs:List Expr}{scope:Scope}{cl:List (Str×Addr)}{pos:Pos}{ls fs:List Str}{js:List Nat}{wi:wk}{g:jH}{tt:eD}{te:bL}
theorem sW{σ:L2.St}{Q:VK}(h:liftE X B (aP wi ls js g tt te) σ H Q):AQ (liftI X B wi) ls js (liftG0 X.K g) (liftT0 X.K tt) (liftE0 X.K te) σ H Q:=by
 obtain ⟨δ,M,QQ,s,h,u⟩:=h;refine ⟨δ,M,_,s,h,fun it M1 h1 J H1 rh1 f1 hJ p hp=>?_⟩;have hMp:M1 p=none:=rh1.fresh hp
 refine ⟨fun i m σ' H'=>m=it.items.length-i/\i<=it.items.length/\∃δ' M' acc ys,RepH X.K H' M'/\RepS X.K H' δ' σ'/\H' p=some (.lst ys)/\Rps X.K H' acc ys/\M' p=none/\Frm M1 H1 M' H'/\
   cD g tt te it.ok (fun acc M'=>∀p,M' p=none->QQ (.ref p) (M'.upd p (.lst acc))) ⟨⟩ (it.items.drop i) acc δ' M',
  ⟨_,rfl,Nat.zero_le _,jA ls js δ,M1,[],[],rh1.new hp,((s.rs.mono (f1.imm s.rh)).mono (Imm.new hp)).start ls js,upd_same,.nil,hMp,Frm.new hp,h1⟩,?_⟩
 rintro i m σ2 H2 ⟨rfl,hi,δ2,M2,acc,ys,rh2,rs2,hp2,ra2,hm2,f2,h2⟩
 have hok:=u5 h2;obtain ⟨hgo,hstop⟩:=hJ i H2 M2 (f2.imm rh1) rh2 hok
 by_cases hlt:i<it.items.length
 ·rw [List.drop_eq_getElem_cons hlt] at h2
  obtain ⟨go,hy⟩:=hgo _ (List.getElem?_eq_getElem hlt)
  refine .inr ⟨go,fun σ' H'=>∃δ' M' acc ys,RepH X.K H' M'/\RepS X.K H' δ' σ'/\H' p=some (.lst ys)/\Rps X.K H' acc ys/\M' p=none/\Frm M1 H1 M' H'/\
   cD g tt te it.ok (fun acc M'=>∀p,M' p=none->QQ (.ref p) (M'.upd p (.lst acc))) ⟨⟩ (it.items.drop (i+1)) acc δ' M',fun σ' H' z=>⟨it.items.length-(i+1),by omega,rfl,hlt,z⟩,fun x H3 hx=>?_⟩
  obtain ⟨f3,rh3,rx⟩:=hy x H3 hx;refine ⟨_,δ2,M2,_,rh3,rs2.mono (f3.imm rh2),rx,h2.2,fun δ4 M4 h4 σ4 H4 f4 rh4 rs4=>?_⟩;refine ⟨δ4,M4,_,rh4,rs4,h4,fun c M5 h5 H5 rh5 f5=>?_⟩;have f35:=(f3.trans f4).trans f5;obtain ⟨hp5,hm5⟩:=f35.keep p _ hp2 hm2;cases c with
  |false=>
   try dsimp only
   rw [if_neg Bool.false_ne_true] at h5 ⊢;exact ⟨δ4,M5,acc,ys,rh5,rs4.mono (f5.imm rh4),hp5,ra2.mf rh2 f35,hm5,f2.trans f35,h5⟩
  |true=>
   try dsimp only
   rw [if_pos rfl] at h5 ⊢;refine ⟨δ4,M5,_,rh5,rs4.mono (f5.imm rh4),h5,fun y M6 h6 v6 H6 rh6 f6 r6=>?_⟩;obtain ⟨hp6,hm6⟩:=f6.keep p _ hp5 hm5;have f26:=f35.trans f6;have ra6:=ra2.mf rh2 f26;refine ⟨ys,hp6,by rw [<- ra6.length];exact h6.1,?_⟩
   have im:Imm H6 (upd H6 p (.lst (ys++[v6]))):=Imm.upd (by rw [hp6];trivial)
   refine ⟨δ4,M6,acc++[y],ys++[v6],rh6.keep im fun b o hb=>upd_ne (Mem.ne hb hm6),((rs4.mono (f5.imm rh4)).mono (f6.imm rh5)).mono im,upd_same,(ra6.append (.cons r6 .nil)).mono im,hm6,?_,h6.2⟩;refine ⟨fun b w e n=>?_⟩;obtain ⟨e2,n2⟩:=(f2.trans f26).keep b w e n;exact ⟨by rw [upd_ne (br e hp)];exact e2,n2⟩
 ·rw [List.drop_eq_nil_of_le (by omega)] at h2
  refine .inl ⟨hstop (by omega),u _ _ (h2.2 p hm2) _ H2 (rh2.add ⟨ys,hp2,ra2⟩) ?_ rfl⟩
  refine ⟨fun b w e n=>?_⟩;obtain ⟨e1,n1⟩:=f1.keep b w e n;obtain ⟨e2,n2⟩:=f2.keep b w e1 n1;exact ⟨e2,by rw [aj (br e1 hp)];exact n2⟩
def DTs(X:Cx)(B:Mem)(ifs:List Expr)(T:eD):Prop:=Ej X ifs (liftT X B T)
def cg:eD:=fun _ M Q=>Q true M
theorem bH:DTs X B [] cg:=fun pins s σ H Q I zz=>by obtain ⟨δ,M,QQ,sr,h,u⟩:=zz;exact xp pins s σ H Q I (u true M h H sr.rh Frm.refl)
theorem zy{c:Expr}{t:eD}(h:DT X B c t):DTs X B [c] t:=ym h
theorem y1{es:List Expr}{T:eD}(h:DTs X B1 es T):Ej X es (liftT0 X.K T):=fun pins s σ H Q I zz=>by obtain ⟨δ,M,QQ,rh,rs,hT,u⟩:=zz;exact h pins s σ H Q I ⟨δ,M,QQ,⟨iZ,rh,rs⟩,hT,u⟩
theorem bE(hc:X.calm=true)(co:CompOk X scope cl ls fs js)(hi:DI X B tg iter wi)
  (hY:∀(C:Addr) (s₀:Shared) (H₀:Hp) (fp:List Addr) (pl:List (Addr×Obj)),DG (ca X (ls++fs) scope cl C s₀ H₀ fp pl) B1 tg g/\DTs (ca X (ls++fs) scope cl C s₀ H₀ fp pl) B1 ifs tt/\DE (ca X (ls++fs) scope cl C s₀ H₀ fp pl) B1 elt te)
  (hs:∀x,foldedSetIterable iter X.env x=pure x:=by intro _;rfl):DE X B (.ListComp elt [⟨tg,iter,ifs,0⟩] scope pos) (aP wi ls js g tt te):=
 bc (zQ (g:=liftG0 X.K g) (tt:=liftT0 X.K tt) (te:=liftE0 X.K te) hc co hi (fun C s₀ H₀ fp pl=>⟨BL (hY C s₀ H₀ fp pl).1,y1 (hY C s₀ H₀ fp pl).2.1,E6 (hY C s₀ H₀ fp pl).2.2⟩) hs) fun _ _ _ h=>sW h
end
end L3
namespace L3
open PySem L2
abbrev DX:=Addr->Mem->Prop
abbrev Sd:=List D->Mem->DK->DX->Prop
def bM(P:Program)(w:World):mK:=fun outer H s E e s'=>∃C,oS P w C outer H s E e s'
def UpX(K:W.Frag)(M:Mem)(H:Hp)(EE:DX)(E:XK):Prop:=∀C M',EE C M'->∀H',RepH K H' M'->Frm M H M' H'->E (.ref C) none H'
theorem UpX.go{K:W.Frag}{M M1:Mem}{H H1:Hp}{EE:DX}{E:XK}(u:UpX K M H EE E)(i:Frm M H M1 H1):UpX K M1 H1 EE E:=fun C M' q H' a b=>u C M' q H' a (i.trans b)
def aw(K:W.Frag)(n:Nat)(T:Sd):Sp:=fun vs H Q E=>vs.length=n/\∃ds M QQ EE,RepH K H M/\Rps K H ds vs/\T ds M QQ EE/\Up K M H QQ Q/\UpX K M H EE E
def startN(N:List Str)(ds:List D):Dl:=ds.map some++List.replicate (N.length-ds.length) none
theorem RepS.startN{K:W.Frag}{H:Hp}{ds:List D}{vs:List V}(N:List Str)(r:Rps K H ds vs):RepS K H (L3.startN N ds) (L2.start N vs):=by
 have hl:=r.length;refine ⟨by simp [L3.startN,L2.start,hl],fun i d e=>?_⟩
 unfold L3.startN at e;unfold L2.start
 by_cases hi:i<ds.length
 ·rw [List.getElem?_append_left (by simpa using hi),List.getElem?_map,List.getElem?_eq_getElem hi] at e
  have e':ds[i]=d:=by simpa using e
  obtain ⟨v,h1,h2⟩:=r.get (i:=i) (d:=d) (by rw [List.getElem?_eq_getElem hi,e'])
  refine ⟨v,?_,h2⟩;rw [List.getElem?_append_left (by simp;lia),List.getElem?_map,h1]
  rfl
 ·rw [List.getElem?_append_right (by simpa using hi),List.getElem?_replicate] at e
  split at e<;>cases e
section
variable {P:Program}{w:World}{K:W.Frag}{mg:Str->Option Value}{base:Heap}{f:Addr}{fd:FuncData}
def drp(Q:DK)(d:D)(M':Mem):Prop:=∃M'',(∀b o,M'' b=some o->M' b=some o)/\Q d M''
def drpX(EE:DX)(C:Addr)(M':Mem):Prop:=∃M'',(∀b o,M'' b=some o->M' b=some o)/\EE C M''
theorem drp_id{Q:DK}{d:D}{M':Mem}(h:Q d M'):drp Q d M':=⟨M',fun _ _ e=>e,h⟩
theorem dq{EE:DX}{C:Addr}{M':Mem}(h:EE C M'):drpX EE C M':=⟨M',fun _ _ e=>e,h⟩
theorem Frm.less{M M' M'':Mem}{H H':Hp}(f:Frm M H M' H')(s:∀b o,M'' b=some o->M' b=some o):Frm M H M'' H':=⟨fun b u e n=>by
 obtain ⟨e',n'⟩:=f.keep b u e n;refine ⟨e',?_⟩;cases q:M'' b with
 |none=>rfl
 |some o=>rw [s b o q] at n';cases n'⟩
theorem Up.drp{M:Mem}{H:Hp}{Q:DK}{QV:VK}(u:Up K M H Q QV):Up K M H (L3.drp Q) QV:=fun d M' ⟨M'',s,q⟩ v H' rh f r=>u d M'' q v H' (fun b o e=>rh b o (s b o e)) (f.less s) r
theorem UpX.drp{M:Mem}{H:Hp}{EE:DX}{E:XK}(u:UpX K M H EE E):UpX K M H (drpX EE) E:=fun C M' ⟨M'',s,q⟩ H' rh f=>u C M'' q H' (fun b o e=>rh b o (s b o e)) (f.less s)
def bu(N:List Str)(T:DX->aM):Sd:=fun ds M Q EE=>T (drpX EE) { nx:=fun _ M'=>drp Q .non M',rt:=drp Q } (startN N ds) M
theorem eG{x qual:Str}{st:Stmt}{N ps:List Str}{k:Nat}{T:DX->aM}(F:Fun K x qual st f fd)(S:FnScope N ps (aC st))
  (hb:∀(cdv:Value) (A:Around) (outer:List Env) (s:Shared) (H:Hp) (E:XK) (B:Mem) (EE:DX),Room k (A.deeper (PyProof.Rows.envOfC qual (aC st) s.heap.objs.size f cdv))->UpX K B H EE E->
   xi (dA (bM P w) P w K mg base N qual (aC st) f cdv A outer s H E) B (eg st) (T EE)):
  FnOk P w K mg base (bM P w) (k+1) f fd ps (aw K ps.length (bu N T)):=by
 obtain ⟨oc,od,kV,doc,pm,an,cdv,ct,osl,rfl,lk,hcd⟩:=F.ex;refine Fo lk hcd S (fun vs H Q E h=>h.1) fun A outer s H vs Q E hr hsp=>?_;obtain ⟨hl,ds,M,QQ,EE,rh,r,hT,u,ux⟩:=hsp;refine ⟨_,hb cdv A outer s H E M (drpX EE) hr ux.drp,startN N ds,M,{ nx:=fun _ M'=>drp QQ .non M',rt:=drp QQ },⟨Frm.refl,rh,.startN N r⟩,hT,⟨?_,u.drp,?_,?_⟩⟩
 ·exact fun δ M' q σ H' f s'=>u.drp _ M' q _ H' s'.rh f rfl
 ·exact fun δ M' q=>(show False from q).elim
 ·exact fun δ M' q=>(show False from q).elim
theorem dN{ps:List Str}{k n:Nat}{CX:mK}:FnOk P w K mg base CX k f fd ps (aw K n fun _ _ _ _=>False):=
 ⟨fun vs H Q E h=>(by obtain ⟨_,_,_,_,_,_,_,h,_⟩:=h;exact h.elim),fun A outer s H args us vs Q E _ _ _ _ h=>(by obtain ⟨_,_,_,_,_,_,_,h,_⟩:=h;exact h.elim)⟩
theorem aH{N:List Str}{qual:Str}{scope:Scope}{cd:Value}{A:Around}{outer:List Env}{s0:Shared}{H0:Hp}{E:XK}:da (bM P w) (dA (bM P w) P w K mg base N qual scope f cd A outer s0 H0 E) E:=by
 intro pins σ H s e s' I ⟨C,hx⟩;have I':Inv (dA (oS P w C) P w K mg base N qual scope f cd A outer s0 H0 E) pins σ H s:=I.wish _;have:=Fw pins σ H s e s' I' hx;exact wpAny_mono this (fun _ _ z=>⟨C,z⟩) fun _ _ z=>⟨C,z⟩
theorem fQ{X:Cx}:da (bM P w) X E0:=fun pins σ H s e s' I ⟨C,hx⟩=>by
 obtain ⟨_,_,_,_,_,_,_,_,_,_,_,_,hE⟩:=hx;exact (show False from hE).elim
end
def Sub(M1 M:Mem):Prop:=∀b o,M1 b=some o->M b=some o
def Dis(M1 M M':Mem):Prop:=∀b o,M b=some o->M1 b=none->M' b=none
def plus(M' M1 M:Mem):Mem:=fun b=>match M' b with
 |some o=>some o
 |none=>match M1 b with
  |some _=>none
  |none=>M b
theorem kr{M' M:Mem}:plus M' M M=M':=by
 funext b;simp only [plus];cases h:M' b with
 |some o=>rfl
 |none=>cases h2:M b<;>rfl
structure BxQ(EE:DX)(Q:DK):Type
structure calls(T:Sd)(EE:DX)(ds:List D)(M:Mem)(Q:DK)(_:BxQ EE Q):Prop where
 go:∃M1,Sub M1 M/\T ds M1 (fun d M'=>Dis M1 M M'->Q d (plus M' M1 M)) (fun C M'=>Dis M1 M M'->EE C (plus M' M1 M))
section
variable {X:Cx}{B:Mem}{K:W.Frag}{H H':Hp}{M M1 M':Mem}
theorem RepH.sub(r:RepH K H M)(s:Sub M1 M):RepH K H M1:=fun b o e=>r b o (s b o e)
theorem RepH.dis(r:RepH K H M)(f:Frm M1 H M' H'):Dis M1 M M':=fun b o e n=>by
 obtain ⟨u,q⟩:=(r b o e).obj;exact (f.keep b u q n).2
theorem RepH.plus(r:RepH K H M)(s:Sub M1 M)(r':RepH K H' M')(f:Frm M1 H M' H'):RepH K H' (plus M' M1 M):=fun b o e=>by
 simp only [L3.plus] at e
 split at e
 ·rename_i o' q;cases e;exact r' b _ q
 ·split at e
  ·cases e
  ·rename_i q n
   obtain ⟨u,hu⟩:=(r b o e).obj;exact (r b o e).keep (f.imm (r.sub s)) ((f.keep b u hu n).1.trans hu.symm)
theorem Frm.plus(s:Sub M1 M)(f:Frm M1 H M' H'):Frm M H (plus M' M1 M) H':=⟨fun b u e n=>by
 have n1:M1 b=none:=by
  cases q:M1 b with
  |none=>rfl
  |some o=>rw [s b o q] at n;cases n
 obtain ⟨e',n'⟩:=f.keep b u e n1;exact ⟨e',by simp only [L3.plus,n',n1,n]⟩⟩
theorem dO{T:Sd}{EE:DX}{ds:List D}{vs:List V}{Q:DK}{n:Nat}{QV:VK}{E:XK}{b:BxQ EE Q}(h:calls T EE ds M Q b)(rh:RepH K H M)(r:Rps K H ds vs)(hl:vs.length=n)(u:Up K M H Q QV)(ux:UpX K M H EE E):aw K n T vs H QV E:=by
 obtain ⟨M1,s,h⟩:=h.go;refine ⟨hl,ds,M1,_,_,rh.sub s,r,h,fun d M' q v H' rh' f r'=>?_,fun C M' q H' rh' f=>?_⟩
 ·exact u d _ (q (rh.dis f)) v H' (rh.plus s rh' f) (f.plus s) r'
 ·exact ux C _ (q (rh.dis f)) H' (rh.plus s rh' f) (f.plus s)
theorem calls_of{T:Sd}{EE:DX}{ds:List D}{Q:DK}{b:BxQ EE Q}(hm:∀Q' E',(∀d M,Q d M->Q' d M)->(∀C M,EE C M->E' C M)->T ds M Q' E'):calls T EE ds M Q b:=
 ⟨M,fun _ _ e=>e,hm _ _ (fun d M' q _=>by rw [kr];exact q) fun C M' q _=>by rw [kr];exact q⟩
variable {CX:mK}{k n:Nat}{f C:Addr}{fd:FuncData}{ps:List Str}{T:Sd}{EE:DX}{E:XK}{x m:Str}{p pos apos:Pos}{e o:Expr}{es:List Expr}{ta:bL}{t:eE}
def ax(T:Sd)(EE:DX)(n:Nat)(t:eE):bL:=fun δ M Q=>t δ M fun ds M1=>ds.length=n/\calls T EE ds M1 Q ⟨⟩
theorem SR.ux{δ:Dl}{σ:L2.St}(s:SR X B δ M σ H)(ux:UpX X.K B X.H₀ EE E):UpX X.K M H EE E:=ux.go s.i0
theorem aq(F:FnOk X.prog X.w X.K X.mg X.base CX k f fd ps (aw X.K n T))(hr:Room k X.A)(hg:Gl X x)(hm:X.mg x=some (.ref f))(hk:W.keepIn X.K (.ref f)=true)(hb:Binds X.K fd ps [])(hx:da CX X E)(ux:UpX X.K B X.H₀ EE E)
  (ha:DA X B (e::es) t) (hdb:(x==("__debug__":Str))=false:=by decide) (he:starEach (e::es) X.env=(false,eval e X.env)::starEach es X.env:=by rfl) (hpl:(backTo pos (starEach es X.env)).any (·.1)=false:=by rfl):
  DE X B (.Call (.Name x p) (e::es) [] pos) (ax T EE n t):=by
 refine bc (xT F hr hg hm hk hb .nil hx ha hdb he hpl) ?_
 rintro σ H Q ⟨δ,M,QQ,s,h,u⟩
 refine ⟨δ,M,_,s,h,fun ds M1 h1 vs H1 rh1 i1 r1=>?_⟩
 try dsimp only
 rw [List.append_nil];exact dO h1.2 rh1 r1 (by rw [<- r1.length];exact h1.1) (u.go i1) ((s.ux ux).go i1)
def k8(C:Addr)(m:Str)(T:Sd)(EE:DX)(n:Nat)(ta:bL)(t:eE):bL:=fun δ M Q=>ta δ M fun x M1=>match x with
 |.ref a=>match M1 a with
  |some (.ins C' fs)=>C'=C/\fs.lookup m=none/\t δ M1 fun ds M2=>ds.length+1=n/\calls T EE (.ref a::ds) M2 Q ⟨⟩
  |_=>False
 |_=>False
theorem iM{pl:Sem Bool}(he:DE X B o ta)(c:Cls X.K C)(hm:Meth X.K C m f)(F:FnOk X.prog X.w X.K X.mg X.base CX k f fd ps (aw X.K n T))(hr:Room k X.A)(hb:Binds X.K fd ps [])(hx:da CX X E)(ux:UpX X.K B X.H₀ EE E)(ha:DA X B (e::es) t)
  (hst:starEach (e::es) X.env=(false,eval e X.env)::starEach es X.env:=by rfl) (hpl:(backTo pos (starEach es X.env)).any (·.1)=false:=by rfl)
  (ht:eval (.Call (.Attribute o m apos) (e::es) [] pos) X.env=(do
   let ov <- eval o X.env
   standAt apos.atName
   let (f,first) <- holding [ov] (getMethod ov m pl)
   callWith pos f first (backTo pos (starEach (e::es) X.env)) (backToKw pos (keywordEach [] X.env))):=by rfl):
  DE X B (.Call (.Attribute o m apos) (e::es) [] pos) (k8 C m T EE n ta t):=by
 refine bc (zR he c hm F hr hb .nil hx ha hst hpl ht) ?_
 rintro σ H Q ⟨δ,M,QQ,s,h,u⟩
 refine ⟨δ,M,_,s,h,fun x M1 h1 v H1 rh1 i1 r1=>?_⟩
 split at h1
 ·rename_i a
  cases r1
  split at h1
  ·rename_i C' fs hM
   obtain ⟨rfl,hl,h1⟩:=h1;obtain ⟨dx,ws,e1,e2⟩:=rh1 _ _ hM;have hl':ws.lookup m=none:=by
    rcases e2.lookup m with ⟨_,z⟩|⟨d,v,z,_⟩
    ·exact z
    ·rw [hl] at z;cases z
   refine ⟨a,dx,ws,rfl,e1,hl',δ,M1,_,s.go rh1 i1,h1,fun ds M2 h2 vs H2 rh2 i2 r2=>?_⟩
   try dsimp only
   rw [List.append_nil];exact dO (ds:=.ref a::ds) h2.2 rh2 (.cons rfl r2) (by rw [List.length_cons,<- r2.length];exact h2.1) (u.go (i1.trans i2)) ((s.ux ux).go (i1.trans i2))
  ·exact h1.elim
 ·exact h1.elim
def AV(C:Addr)(T:Sd)(EE:DX)(n:Nat)(t:eE):bL:=fun δ M Q=>t δ M fun ds M1=>ds.length+1=n/\∀a,M1 a=none->calls T EE (.ref a::ds) (M1.upd a (.ins C [])) (fun d M2=>match d with
 |.non=>Q (.ref a) M2
 |_=>False) ⟨⟩
theorem yN(Mk':Mk X.K C f)(F:FnOk X.prog X.w X.K X.mg X.base CX k f fd ps (aw X.K n T))(hr:Room (k+1) X.A)(hg:Gl X x)(hm:X.mg x=some (.ref C))(hb:Binds X.K fd ps [])(hx:da CX X E)(ux:UpX X.K B X.H₀ EE E)
  (ha:DA X B (e::es) t) (hdb:(x==("__debug__":Str))=false:=by decide) (he:starEach (e::es) X.env=(false,eval e X.env)::starEach es X.env:=by rfl) (hpl:(backTo pos (starEach es X.env)).any (·.1)=false:=by rfl):
  DE X B (.Call (.Name x p) (e::es) [] pos) (AV C T EE n t):=by
 refine bc (Ay Mk' F hr hg hm hb .nil hx ha hdb he hpl) ?_
 rintro σ H Q ⟨δ,M,QQ,s,h,u⟩
 refine ⟨δ,M,_,s,h,fun ds M1 h1 vs H1 rh1 i1 r1 a dx na ndx nex=>?_⟩;rw [List.append_nil];have nx1:upd H1 dx (.own a) a=none:=by rw [upd_ne (Ne.symm nex)];exact na
 have im1:Imm H1 (upd H1 dx (.own a)):=Imm.new ndx;have im2:Imm (upd H1 dx (.own a)) (upd (upd H1 dx (.own a)) a (.ins C dx [])):=Imm.new nx1;have rh2:RepH X.K (upd (upd H1 dx (.own a)) a (.ins C dx [])) (M1.upd a (.ins C [])):=(rh1.new ndx).put (by rw [nx1];trivial) ⟨dx,[],upd_same,.nil⟩
 have f2:Frm M1 H1 (M1.upd a (.ins C [])) (upd (upd H1 dx (.own a)) a (.ins C dx [])):=(Frm.new ndx).trans (Frm.put (.inl nx1));refine dO (h1.2 a (rh1.fresh na)) rh2 (.cons rfl ((r1.mono im1).mono im2)) (by rw [List.length_cons,<- r1.length];exact h1.1) (fun d M2 h2 v H2 rh f r=>?_) ((s.ux ux).go (i1.trans f2))
 cases d with
 |non=>exact ⟨r,u _ M2 h2 _ H2 rh ((i1.trans f2).trans f) rfl⟩
 |_=>exact (show False from h2).elim
end
end L3
namespace L3
open PySem L2
section
variable {X:Cx}{B:Mem}{K:W.Frag}{H H':Hp}{M M1 M':Mem}{o e:Expr}{es:List Expr}{to:bL}{t:eE}{name:Str}{apos cpos:Pos}{Ty id:String}
abbrev xl:=D->List D->Mem->DK->Prop
inductive liftM(X:Cx)(r:xl)(x:V)(xs:List V)(H:Hp)(Q:VK):Prop
 |mk (d:D) (ds:List D) (M:Mem) (QQ:DK) (rh:RepH X.K H M) (rx:Rp X.K H d x) (rs:Rps X.K H ds xs) (h:r d ds M QQ) (u:Up X.K M H QQ Q):liftM X r x xs H Q
def oq(Ty:String)(r:xl)(to:bL)(t:eE):bL:=fun δ M Q=>to δ M fun x M1=>gX M1 x=some Ty/\t δ M1 fun ds M2=>r x ds M2 Q
theorem uZ{d:D}{v:V}(rh:RepH K H M)(r:Rp K H d v)(e:gX M d=some Ty)(h:Ty="list"\/Ty="str"\/Ty="int"\/Ty="dict"):tyV K Ty v H:=by
 cases d with
 |non=>cases e;rcases h with h|h|h|h<;>exact absurd h (by decide)
 |bl b=>cases e;rcases h with h|h|h|h<;>exact absurd h (by decide)
 |int i=>cases r;cases e;rfl
 |str x=>cases r;cases e;rfl
 |tup xs=>cases e;rcases h with h|h|h|h<;>exact absurd h (by decide)
 |lst xs=>
  cases e;obtain ⟨p,vs,rfl,hf,r⟩:=r;exact .inl ⟨rfl,vs,hf.sq⟩
 |ref a=>
  cases r;simp only [gX] at e
  split at e
  ·rename_i q;cases e;obtain ⟨ws,h1,h2⟩:=rh _ _ q;exact .inl ⟨rfl,ws,SqL.of h1⟩
  ·rename_i q;cases e;obtain ⟨ws,h1,h2⟩:=rh _ _ q;exact .inr (.inr (.inl ⟨rfl,.inl ⟨ws,h1⟩⟩))
  ·rename_i q;cases e;obtain ⟨ws,h1,h2⟩:=rh _ _ q;exact .inr (.inr (.inl ⟨rfl,.inr ⟨ws,h1⟩⟩))
  ·cases e
 |_=>cases e
theorem eX{r:xl}(hT:Ty="list"\/Ty="str"\/Ty="int"\/Ty="dict")(pa:PlainAttrs Ty)(slot:Slot Ty name id)(hty:typeOf (.builtin id)=pure (.type "method_descriptor"))(hm:vV X id (liftM X r))(ho:DE X B o to)(ha:DA X B (e::es) t)
  (hbase:attributeBase o name X.env (eval o X.env)=eval o X.env:=by rfl)
  (hfew:((backTo cpos (starEach (e::es) X.env)).all (fun x=>!x.1)&&(backToKw cpos (keywordEach [] X.env)).all (fun x=>x.1.isSome)
   && decide ((e::es).length+([]:List Keyword).length+(if ([]:List Keyword).isEmpty then 0 else 1)<30))=true:=by rfl)
  (hline:(apos.endLine==cpos.line)=true:=by rfl) (hs:starEach (e::es) X.env=(false,eval e X.env)::starEach es X.env:=by rfl) (hplain:(backTo cpos (starEach es X.env)).any (·.1)=false:=by rfl):
  DE X B (.Call (.Attribute o name apos) (e::es) [] cpos) (oq Ty r to t):=by
 refine bc (FX pa slot hty hm ho ha hbase hfew hline hs hplain) ?_
 rintro σ H Q ⟨δ,M,QQ,s,h,u⟩
 refine ⟨δ,M,_,s,h,fun x M1 h1 v H1 rh1 i1 r1=>⟨uZ rh1 r1 h1.1 hT,δ,M1,_,s.go rh1 i1,h1.2,fun ds M2 h2 vs H2 rh2 i2 r2=>?_⟩⟩;exact ⟨x,ds,M2,QQ,rh2,r1.mf rh1 i2,r2,h2,u.go (i1.trans i2)⟩
theorem By{r:xl}(hT:Ty="list"\/Ty="str"\/Ty="int"\/Ty="dict")(pa:PlainAttrs Ty)(slot:Slot Ty name id)(hty:typeOf (.builtin id)=pure (.type "method_descriptor"))(hm:vV X id (liftM X r))(ho:DE X B o to)
  (hbase:attributeBase o name X.env (eval o X.env)=eval o X.env:=by rfl) (hline:(apos.endLine==cpos.line)=true:=by rfl):DE X B (.Call (.Attribute o name apos) [] [] cpos) (oq Ty r to ak):=by
 refine bc (D8 pa slot hty hm ho hbase hline) ?_
 rintro σ H Q ⟨δ,M,QQ,s,h,u⟩
 refine ⟨δ,M,_,s,h,fun x M1 h1 v H1 rh1 i1 r1=>⟨uZ rh1 r1 h1.1 hT,?_⟩⟩;exact ⟨x,[],M1,QQ,rh1,r1,.nil,h1.2,u.go i1⟩
def cH:xl:=fun x ds M Q=>match x,ds with
 |.ref a,[y]=>match M a with
  |some (.lst xs)=>xs.length<sizeLine/\Q .non (M.upd a (.lst (xs++[y])))
  |_=>False
 |_,_=>False
theorem cu:vV X "list.append" (liftM X cH):=by
 intro pins s σ H x vs v us Q I rx rv h;obtain ⟨d,ds,M,QQ,rh,r,rs,h,up⟩:=h;unfold cH at h
 split at h
 ·rename_i a y
  cases r;obtain ⟨w,rfl,rw'⟩:=eI (ds:=[]) rs
  split at h
  ·rename_i xs hM
   obtain ⟨ws,h1,h2⟩:=rh _ _ hM;have im:Imm H (upd H a (.lst (ws++[w]))):=Imm.upd (by rw [h1];trivial)
   exact sI pins s σ H _ _ v us Q I rx rv ⟨a,ws,w,rfl,rfl,h1,by rw [<- h2.length];exact h.1,up _ _ h.2 _ _ (rh.put (by rw [h1];trivial) ⟨_,upd_same,(h2.append (.cons rw' .nil)).mono im⟩) (Frm.put (.inr ⟨_,hM⟩)) rfl⟩
  ·exact h.elim
 ·exact h.elim
def v9:V->List V->Hp->VK->Prop:=fun x vs H Q=>∃l b xs zs,x=.ref l/\vs=[.ref b]/\H l=some (.lst xs)/\Rd H b (.lst zs)/\xs.length+zs.length<=sizeLine/\Q .non (upd H l (.lst (xs++zs)))
theorem qk:MtM X "list.extend" v9:=by
 intro pins s σ H x vs v us Q I rx rv h;obtain ⟨l,b,xs,zs,rfl,rfl,hH,hB,hz,q⟩:=h;cases rx;obtain ⟨u,rfl,ru⟩:=rv.one;cases ru;obtain ⟨z,its,n,r,hl,e⟩:=I.lstM hH;obtain ⟨z2,its2,n2,r2,e2⟩:=hB.ok I.hok;have hl2:=r2.length;have hsz:its.toArray.size+its2.toArray.size<=sizeLine:=by rw [List.size_toArray,List.size_toArray];lia
 have hlong:¬(!its.toArray.isEmpty&&Builtin.List.listTooLong (its.toArray.size+its2.toArray.size))=true:=by
  rw [vB hsz,Bool.and_false];exact Bool.false_ne_true
 refine call_meets F.slot_list_extend ⟨_,e,rfl⟩ F.entry_list_extend (F.args_list_extend_2 _ _)
  (AutoSeq1.list_extend_list_list_0 l its.toArray n b its2.toArray n2 hlong (by rw [List.size_toArray];lia) (by lia)) ⟨e,e2,?_⟩
 refine ⟨.non,_,I.lset (its':=its++its2) hH e (by simp) (r.append r2) ?_,rfl,q⟩
 rw [List.length_append];lia
def gp:xl:=fun x ds M Q=>match x,ds with
 |.ref a,[y]=>match M a,hV M y with
  |some (.lst xs),some ys=>xs.length+ys.length<=sizeLine/\Q .non (M.upd a (.lst (xs++ys)))
  |_,_=>False
 |_,_=>False
theorem j7:vV X "list.extend" (liftM X gp):=by
 intro pins s σ H x vs v us Q I rx rv h;obtain ⟨d,ds,M,QQ,rh,r,rs,h,up⟩:=h;unfold gp at h
 split at h
 ·rename_i a y
  cases r;obtain ⟨w,rfl,rw'⟩:=eI (ds:=[]) rs
  split at h
  ·rename_i xs ys hM hy
   obtain ⟨ws,h1,h2⟩:=rh _ _ hM;obtain ⟨p,zs,rfl,hq,r2⟩:=cK rh rw' hy;have l1:=h2.length;have l2:=r2.length;have im:Imm H (upd H a (.lst (ws++zs))):=Imm.upd (by rw [h1];trivial)
   exact qk pins s σ H _ _ v us Q I rx rv ⟨a,p,ws,zs,rfl,rfl,h1,hq,by lia,up _ _ h.2 _ _ (rh.put (by rw [h1];trivial) ⟨_,upd_same,(h2.append r2).mono im⟩) (Frm.put (.inr ⟨_,hM⟩)) rfl⟩
  ·exact h.elim
 ·exact h.elim
def sj:xl:=fun x ds M Q=>match x,ds with
 |.ref a,[]=>match M a with
  |some (.lst xs)=>match xs[xs.length-1]? with
   |some y=>Q y (M.upd a (.lst xs.dropLast))
   |none=>False
  |_=>False
 |.ref a,[.int i]=>match M a with
  |some (.lst xs)=>match oR xs.length i with
   |some k=>match xs[k]? with
    |some y=>Q y (M.upd a (.lst (xs.eraseIdx k)))
    |none=>False
   |none=>False
  |_=>False
 |_,_=>False
theorem lj:vV X "list.pop" (liftM X sj):=by
 intro pins s σ H x vs v us Q I rx rv h;obtain ⟨d,ds,M,QQ,rh,r,rs,h,up⟩:=h;unfold sj at h
 split at h
 ·rename_i a
  cases r;cases rs
  split at h
  ·rename_i xs hM
   split at h
   ·rename_i y ey
    obtain ⟨ws,h1,h2⟩:=rh _ _ hM;obtain ⟨w,hw,rw'⟩:=h2.get ey;have im:Imm H (upd H a (.lst ws.dropLast)):=Imm.upd (by rw [h1];trivial)
    exact CA pins s σ H _ _ v us Q I rx rv ⟨a,ws,w,rfl,rfl,h1,by rw [<- h2.length];exact hw,up _ _ h _ _ (rh.put (by rw [h1];trivial) ⟨_,upd_same,h2.dropLast.mono im⟩) (Frm.put (.inr ⟨_,hM⟩)) (rw'.mono im)⟩
   ·exact h.elim
  ·exact h.elim
 ·rename_i a i
  cases r;obtain ⟨w0,rfl,rw0⟩:=eI (ds:=[]) rs;cases rw0
  split at h
  ·rename_i xs hM
   split at h
   ·rename_i k ek
    split at h
    ·rename_i y ey
     obtain ⟨ws,h1,h2⟩:=rh _ _ hM;obtain ⟨w,hw,rw'⟩:=h2.get ey;obtain ⟨j1,j2,j3,j4⟩:=lT ek;have hz:ws.length<=sizeLine:=(I.lstM h1).1;have hs:sizeLine=16777216:=rfl;have hl:=h2.length;have im:Imm H (upd H a (.lst (ws.eraseIdx k))):=Imm.upd (by rw [h1];trivial)
     exact vx pins s σ H _ _ v us Q I rx rv ⟨a,ws,i,k,w,rfl,rfl,h1,by lia,by lia,by rw [<- hl];exact j1,hw,up _ _ h _ _ (rh.put (by rw [h1];trivial) ⟨_,upd_same,(h2.eraseIdx k).mono im⟩) (Frm.put (.inr ⟨_,hM⟩)) (rw'.mono im)⟩
    ·exact h.elim
   ·exact h.elim
  ·exact h.elim
 ·exact h.elim
def dQ:List D->Option (List Str)
 |[]=>some []
 |.str x::ds=>match dQ ds with
  |some xs=>some (x::xs)
  |none=>none
 |_=>none
theorem eY:∀{ds:List D} {vs:List V} {xs:List Str},Rps K H ds vs->dQ ds=some xs->vs=xs.map V.str
 |[],vs,xs,r,e=>by cases e;exact r
 |d::ds,vs,xs,r,e=>by
  obtain ⟨v,r',rfl,a,b⟩:=r;cases d with
  |str c=>
   simp only [dQ] at e
   split at e
   ·rename_i xs' e2
    cases e;cases a;rw [eY b e2];rfl
   ·cases e
  |_=>cases e
def pH:xl:=fun x ds M Q=>match x,ds with
 |.tup xs,[.str z]=>match dQ xs with
  |some names=>names.length<=1000/\match names.findIdx? (fun y=>decide (y=z)) with
   |some j=>Q (.int (j:Nat)) M
   |none=>False
  |none=>False
 |_,_=>False
theorem pq:vV X "tuple.index" (liftM X pH):=by
 intro pins s σ H x vs v us Q I rx rv h;obtain ⟨d,ds,M,QQ,rh,r,rs,h,up⟩:=h;unfold pH at h
 split at h
 ·rename_i xs z
  obtain ⟨p,ws,rfl,ht,r⟩:=r;obtain ⟨w,rfl,rw'⟩:=eI (ds:=[]) rs;cases rw'
  split at h
  ·rename_i names en
   obtain ⟨hl,h⟩:=h
   split at h
   ·rename_i j ej
    have:=eY r en;subst this;rw [List.findIdx?_eq_some_iff_getElem] at ej;obtain ⟨hj,e1,e2⟩:=ej;refine rR pins s σ H _ _ v us Q I rx rv ⟨p,names,z,j,rfl,rfl,ht,hl,?_,fun m hm=>?_,up _ M h _ H rh Frm.refl rfl⟩
    ·rw [List.getElem?_eq_getElem hj];simpa using e1
    ·have:=e2 m hm
     rw [List.getElem?_eq_getElem (by lia)]
     simpa using this
   ·exact h.elim
  ·exact h.elim
 ·exact h.elim
def dTM(r:xl)(to:bL)(t:eE):bL:=fun δ M Q=>to δ M fun x M1=>match x with
 |.tup xs=>t δ M1 fun ds M2=>r (.tup xs) ds M2 Q
 |_=>False
theorem Fi{r:xl}(slot:Slot "tuple" name id)(hty:typeOf (.builtin id)=pure (.type "method_descriptor"))(hm:vV X id (liftM X r))(ho:DE X B o to)(ha:DA X B (e::es) t)
  (hbase:attributeBase o name X.env (eval o X.env)=eval o X.env:=by rfl)
  (hfew:((backTo cpos (starEach (e::es) X.env)).all (fun x=>!x.1)&&(backToKw cpos (keywordEach [] X.env)).all (fun x=>x.1.isSome)
   && decide ((e::es).length+([]:List Keyword).length+(if ([]:List Keyword).isEmpty then 0 else 1)<30))=true:=by rfl)
  (hline:(apos.endLine==cpos.line)=true:=by rfl) (hs:starEach (e::es) X.env=(false,eval e X.env)::starEach es X.env:=by rfl) (hplain:(backTo cpos (starEach es X.env)).any (·.1)=false:=by rfl):
  DE X B (.Call (.Attribute o name apos) (e::es) [] cpos) (dTM r to t):=by
 refine bc (F2 slot hty hm ho ha hbase hfew hline hs hplain) ?_
 rintro σ H Q ⟨δ,M,QQ,s,h,u⟩
 refine ⟨δ,M,_,s,h,fun x M1 h1 v H1 rh1 i1 r1=>?_⟩;cases x with
 |tup xs=>
  have r1':=r1;obtain ⟨p,vs,rfl,ht,rr⟩:=r1';refine ⟨⟨p,vs,rfl,ht⟩,δ,M1,_,s.go rh1 i1,h1,fun ds M2 h2 vs H2 rh2 i2 r2=>?_⟩;exact ⟨_,ds,M2,QQ,rh2,r1.mf rh1 i2,r2,h2,u.go (i1.trans i2)⟩
 |_=>exact (show False from h1).elim
def kC(ks:List bR)(ys:List D):List (bR×D):=(ks.zip ys).foldl (fun a p=>fU a p.1 p.2) []
theorem oP:∀{ks:List bR} {ds:List D} {vs:List V} {a:List (bR×D)} {b:List (bR×V)},Rps K H ds vs->Rkv K H a b->
  Rkv K H ((ks.zip ds).foldl (fun a p=>fU a p.1 p.2) a) ((ks.zip vs).foldl (fun a p=>cZ a p.1 p.2) b)
 |[],_,_,_,_,_,r=>r
 |_::_,[],_,_,_,h,r=>by cases h;exact r
 |k::ks,d::ds,_,_,_,h,r=>by
  obtain ⟨v,vs,rfl,a,b⟩:=h;exact oP (ks:=ks) b (r.put k a)
def jd(t:eE):bL:=fun δ M Q=>t δ M fun ds M1=>match ds with
 |[.tup xs,.tup ys]=>match keysOf xs with
  |some ks=>ks.length=ys.length/\0<ks.length/\ks.length<=1000/\∀p,M1 p=none->Q (.ref p) (M1.upd p (.dK (kC ks ys)))
  |none=>False
 |_=>False
theorem jZ{a b:Expr}{ta:eE}{p p2 pos pos2:Pos}(hc:X.calm=true)(hg:Gl X "zip")(hm:X.mg "zip"=none)(hg2:Gl X "dict")(hm2:X.mg "dict"=none)(ha:DA X B [a,b] ta)
  (hs:starEach [a,b] X.env=[(false,eval a X.env),(false,eval b X.env)]:=by rfl) (hs2:starEach [b] X.env=[(false,eval b X.env)]:=by rfl)
  (hs3:starEach [Expr.Call (.Name "zip" p2) [a,b] [] pos2] X.env=[(false,eval (.Call (.Name "zip" p2) [a,b] [] pos2) X.env)]:=by rfl):
  DE X B (.Call (.Name "dict" p) [.Call (.Name "zip" p2) [a,b] [] pos2] [] pos) (jd ta):=by
 refine bc (pV false false hc hg hm hg2 hm2 ha hs hs2 hs3) ?_
 rintro σ H Q ⟨δ,M,QQ,s,h,u⟩
 refine ⟨δ,M,_,s,h,fun ds M1 h1 vs H1 rh1 i1 r1=>?_⟩
 split at h1
 ·obtain ⟨v,w,rfl,rv,rw'⟩:=yS r1
  obtain ⟨l1,us,rfl,t1,ru⟩:=rv;obtain ⟨l2,ws,rfl,t2,rw2⟩:=rw'
  split at h1
  ·rename_i ks ek
   obtain ⟨e1,e2,e3,h1⟩:=h1;have hk:=ji ru ek;subst hk;refine ⟨l1,l2,ks,ws,rfl,t1.sq,t2.sq,by rw [<- rw2.length];exact e1,e2,e3,fun d hd=>?_⟩
   have im:Imm H1 (upd H1 d (.dK ((ks.zip ws).foldl (fun a p=>cZ a p.1 p.2) []))):=Imm.new hd;exact u _ _ (h1 d (rh1.fresh hd)) _ _ (rh1.put (by rw [hd];trivial) ⟨_,upd_same,(oP rw2 .nil).mono im⟩) (i1.trans (Frm.put (.inl hd))) rfl
  ·exact h1.elim
 ·exact h1.elim
end
section
variable {P:Program}{w:World}{K:W.Frag}{mg:Str->Option Value}{base:Heap}{N:List Str}{qual:Str}{scope:Scope}{f C:Addr}{cd:Value}{A:Around}{outer:List Env}{s0:Shared}{H0:Hp}{E:XK}{B:Mem}
theorem Af{X:Cx}{st:Stmt}{t:TS}{E':Value->Shared->Prop}(h:PS X st t)(k:∀e s,X.xe e s->E' e s):PS (X.wish E') st t:=fun pins s σ H D I q=>
 wpAny_mono (h pins s σ H D (I.unwish) q) (fun f s' z=>by
  cases f with
  |next=>obtain ⟨σ',H',I,q⟩:=z;exact ⟨σ',H',I.wish _,q⟩
  |brk=>obtain ⟨σ',H',I,q⟩:=z;exact ⟨σ',H',I.wish _,q⟩
  |cont=>obtain ⟨σ',H',I,q⟩:=z;exact ⟨σ',H',I.wish _,q⟩
  |ret u=>obtain ⟨v,σ',H',I,r,q⟩:=z;exact ⟨v,σ',H',I.wish _,r,q⟩) k
def wJ(C:Addr)(EE:DX):aM:=fun _ _ M=>EE C M
theorem wH{x msg:Str}{np cpos pos apos:Pos}{jj}{EE:DX}(X:ExcAt K C)(hm:mg x=some (.ref C))(ux:UpX K B H0 EE E)(hg:Gl (dA (bM P w) P w K mg base N qual scope f cd A outer s0 H0 E) x)
  (hd:(x==("__debug__":Str))=false:=by decide)
  (hs:starEach [.Constant (.str msg) jj apos] (dA (bM P w) P w K mg base N qual scope f cd A outer s0 H0 E).env=[(false,eval (.Constant (.str msg) jj apos) (dA (bM P w) P w K mg base N qual scope f cd A outer s0 H0 E).env)]:=by rfl):
  DS (dA (bM P w) P w K mg base N qual scope f cd A outer s0 H0 E) B (.Raise (some (.Call (.Name x np) [.Constant (.str msg) jj apos] [] cpos)) none pos) (wJ C EE):=by
 have h1:PS (dA (oS P w C) P w K mg base N qual scope f cd A outer s0 H0 E) (.Raise (some (.Call (.Name x np) [.Constant (.str msg) jj apos] [] cpos)) none pos) (qj E C):=u4 X hm hg hd hs;have h2:PS (dA (bM P w) P w K mg base N qual scope f cd A outer s0 H0 E) (.Raise (some (.Call (.Name x np) [.Constant (.str msg) jj apos] [] cpos)) none pos) (qj E C):=
  Af h1 fun e s h=>wpAny_mono h (fun _ _ z=>⟨C,z⟩) fun _ _ z=>⟨C,z⟩
 refine cz h2 ?_
 rintro D σ H ⟨δ,M,DD,s,h,up⟩
 exact ux C M h H s.rh s.i0
end
section
variable {X:Cx}{B:Mem}
def EZ(C:Addr)(T:Sd)(n:Nat)(ta:eE)(ts:aM):aM:=fun D δ M=>ta δ M fun ds M1=>ds.length=n/\calls T (fun C' M2=>C'=C/\ts D δ M2) ds M1 (fun _ M2=>D.nx δ M2) ⟨⟩
theorem SR.mark{δ:Dl}{M:Mem}{σ:L2.St}{H:Hp}{e:Value}(s:SR X B δ M σ H):SR (X.marked e) B δ M σ H:=⟨s.i0,s.rh,s.rs⟩
theorem SR.unmark{δ:Dl}{M:Mem}{σ:L2.St}{H:Hp}{e:Value}(s:SR (X.marked e) B δ M σ H):SR X B δ M σ H:=⟨s.i0,s.rh,s.rs⟩
theorem UpD.mark{M:Mem}{H:Hp}{DD:DEnds}{D:Ends}{e:Value}(u:UpD X B M H DD D):UpD (X.marked e) B M H DD D:=
 ⟨fun δ M q σ H' f s=>u.nx δ M q σ H' f s.unmark,u.rt,fun δ M q σ H' f s=>u.bk δ M q σ H' f s.unmark,fun δ M q σ H' f s=>u.ct δ M q σ H' f s.unmark⟩
theorem zS{P:Program}{w:World}{K:W.Frag}{mg:Str->Option Value}{base:Heap}{k:Nat}{f C:Addr}{fd:FuncData}{ps:List Str}{sp:Sp}(F:FnOk P w K mg base (bM P w) k f fd ps sp):
  FnOk P w K mg base (oS P w C) k f fd ps (fun vs H Q E=>sp vs H Q fun Cv a H'=>Cv=.ref C/\E Cv a H'):=
 ⟨fun vs H Q E h=>F.len _ _ _ _ h,fun A outer s H args us vs Q E hr he hb hv hs=>codeAny_mono (F.run A outer s H args us vs Q _ hr he hb hv hs) fun r s' h=>by
  cases r with
  |ok fl=>cases fl<;>exact h
  |error e=>
   obtain ⟨C',ea,H',B,a0,e1,e2,e3,e4,e5,e6,e7,e8,e9,e10⟩:=h;have eC:C'=C:=by injection e9
   subst eC;exact ⟨ea,H',B,a0,e1,e2,e3,e4,e5,e6,e7,e8,e10⟩⟩
theorem p8{C f:Addr}{k n:Nat}{fd:FuncData}{ps:List Str}{T:Sd}{x cx:Str}{p cp ep np hpos pos:Pos}{e:Expr}{es:List Expr}{ta:eE}{b₀:Stmt}{suite:List Stmt}{ts:aM}
  (hst:X.stack=X.env::X.outer) (hfL:X.env.frame=some X.env.locals) (F:FnOk X.prog X.w X.K X.mg X.base (bM X.prog X.w) k f fd ps (aw X.K n T)) (hr:Room k X.A) (hg:Gl X x) (hm:X.mg x=some (.ref f)) (hk:W.keepIn X.K (.ref f)=true) (hb:Binds X.K fd ps [])
  (ha:DA X.nox B (e::es) ta) (EX:ExcAt X.K C) (hgC:Gl X cx) (hmC:X.mg cx=some (.ref C)) (hsu:∀ea:Addr,xi (X.marked (.ref ea)) B (b₀::suite) ts)
  (hdb:(x==("__debug__":Str))=false:=by decide) (hdC:(cx==("__debug__":Str))=false:=by decide) (he:starEach (e::es) X.env=(false,eval e X.env)::starEach es X.env:=by rfl) (hpl:(backTo cp (starEach es X.env)).any (·.1)=false:=by rfl)
  (hsw:swapsWith (.Call (.Name x p) (e::es) [] cp) none ep.line X.env=pure false:=by rfl):
  DS X B (.Try [.Expr (.Call (.Name x p) (e::es) [] cp) ep] [.ExceptHandler (some (.Name cx np)) none (b₀::suite) hpos] [] [] pos) (EZ C T n ta ts):=by
 have hsu':∀ea:Addr,qW (X.marked (.ref ea)) (b₀::suite) (liftS X B ts):=fun ea=>jY (hsu ea) fun D σ H ⟨δ,M,DD,s,h,u⟩=>⟨δ,M,DD,s.mark,h,u.mark⟩;refine cz (pN (C:=C) hst hfL (zS F) hr hg hm hk hb .nil ha EX hgC hmC hsu' hdb hdC he hpl hsw) ?_
 rintro D σ H ⟨δ,M,DD,s,h,up⟩
 refine ⟨δ,M,_,⟨s.i0,s.rh,s.rs⟩,h,fun ds M1 h1 vs H1 rh1 i1 r1=>?_⟩
 try dsimp only
 rw [List.append_nil];refine dO h1.2 rh1 r1 (by rw [<- r1.length];exact h1.1) (fun d M2 h2 v H2 rh2 i2 r2=>?_) fun C' M2 h2 H2 rh2 i2=>?_
 ·exact up.nx _ _ h2 σ H2 (i1.trans i2) (s.go rh2 (i1.trans i2))
 ·obtain ⟨rfl,h2⟩:=h2
  exact ⟨rfl,δ,M2,DD,s.go rh2 (i1.trans i2),h2,up.go (i1.trans i2)⟩
end
end L3
namespace L2
open PySem PySem.Spec PyProof.Rows
theorem cy{scope:Scope}{env:Env}{x:Str}{k:NameKind}(h:(relabel scope env).names.lookup x=some k):∃k',(x,k')∈scope.names/\(k=k'\/(k'=.free/\k=.cell)):=by
 have hm:=PySem.mem_of_lookup h;obtain ⟨⟨n,kk⟩,h1,h2⟩:=List.mem_map.mp hm
 by_cases hc:(kk==NameKind.free&&env.scope.kind==.function&&env.kindOf n==some .cell)=true
 ·have h2':(n,NameKind.cell)=(x,k):=by rw [<- h2];show _=(if _ then _ else _);rw [if_pos hc]
  cases h2';have hf:kk=.free:=by
   simp only [Bool.and_eq_true] at hc;exact beq_iff_eq.mp hc.1.1
  exact ⟨kk,h1,.inr ⟨hf,rfl⟩⟩
 ·have h2':(n,kk)=(x,k):=by rw [<- h2];show _=(if _ then _ else _);rw [if_neg hc]
  cases h2';exact ⟨_,h1,.inl rfl⟩
theorem ij{x:Str}:∀{fs:List Str} {cs:List Addr},fs.length=cs.length->x∈fs->∃c,(fs.zip cs).lookup x=some c
 |[],_,_,h=>by cases h
 |_::_,[],h,_=>by simp at h
 |y::fs,c::cs,hl,h=>by
  rw [List.zip_cons_cons,List.lookup_cons];cases e:x==y with
  |true=>exact ⟨c,rfl⟩
  |false=>
   have ne:¬x=y:=fun z=>by rw [z] at e;simp at e
   rcases List.mem_cons.mp h with z|z
   ·exact absurd z ne
   ·exact ij (by simpa using hl) z
theorem fi{X:Cx}{scope:Scope}{ls:List Str}(hk:scope.kind=.function)(hn:∀y∈scope.names,y.2≠.cell/\y.2≠.free)(hl:∀x∈scope.names,x.2=.local->scope.names.lookup x.1=some .local):CompOk X scope [] ls [] [] where
 kind:=hk
 nocell:=fun y hy=>(hn y hy).1
 locs:=hl
 clos:=closureFor_none fun x hx=>(hn x hx).2
 cells:=fun x c h=>by cases h
 has:=fun x h=>by
  rcases h with h|h
  ·obtain ⟨k',h1,h2|⟨h2,_⟩⟩:=cy h
   ·exact absurd h2.symm (hn _ h1).1
   ·exact absurd h2 (hn _ h1).2
  ·obtain ⟨k',h1,h2|⟨h2,_⟩⟩:=cy h
   ·exact absurd h2.symm (hn _ h1).2
   ·exact absurd h2 (hn _ h1).2
 frees:=.nil
theorem cm{X:Cx}{scope:Scope}{ls fs:List Str}{cs:List Addr}{js:List Nat}(hk:scope.kind=.function)(hn:∀y∈scope.names,y.2≠.cell/\(y.2=.free->y.1∈fs))(hl:∀x∈scope.names,x.2=.local->scope.names.lookup x.1=some .local)
  (hlen:fs.length=cs.length) (hcl:closureFor scope X.env=pure (fs.zip cs)) (hc:∀p∈fs.zip cs,X.env.cells.lookup p.1=some p.2) (hf:Frees X scope fs js):CompOk X scope (fs.zip cs) ls fs js where
 kind:=hk
 nocell:=fun y hy=>(hn y hy).1
 locs:=hl
 clos:=hcl
 cells:=fun y d h=>hc (y,d) (PySem.mem_of_lookup h)
 has:=fun y h=>by
  have hy:y∈fs:=by
   rcases h with h|h
   ·obtain ⟨k',h1,h2|⟨h2,_⟩⟩:=cy h
    ·exact absurd h2.symm (hn _ h1).1
    ·exact (hn _ h1).2 h2
   ·obtain ⟨k',h1,h2|⟨h2,_⟩⟩:=cy h
    ·exact (hn _ h1).2 h2.symm
    ·exact (hn _ h1).2 h2
  exact ij hlen hy
 frees:=hf
theorem iA{α:Type}{C:α->Prop}:∀p∈([]:List α),C p:=fun _ h=>by cases h
theorem fP{α:Type}{C:α->Prop}{a:α}{l:List α}(ha:C a)(hl:∀p∈l,C p):∀p∈a::l,C p:=fun p hp=>by
 rcases List.mem_cons.mp hp with rfl|z
 ·exact ha
 ·exact hl p z
end L2
namespace L3
open PySem L2
section
variable {X:Cx}{B:Mem}{pos:Pos}
theorem ao(i:Nat){x:Str}{pos:Pos}(hN:X.N[i]?=some x:=by rfl)(hv:Eh X.env.scope x:=by first|exact Or.inl rfl|exact Or.inr (Or.inl rfl)|exact Or.inr (Or.inr rfl))(hd:(x==("__debug__":Str))=false:=by decide)
  (hcd:(x==("__classdict__":Str))=false:=by decide):DE X B (.Name x pos) (ae i):=Cs hN hv hd hcd
def NoX:DX:=fun _ _=>False
theorem AZ{K:W.Frag}{H:Hp}{E:XK}:UpX K B H NoX E:=fun _ _ z=>z.elim
theorem bt_list':bootBuiltins "list"=some (.type "list"):=by decide +kernel
theorem bo:bootBuiltins "tuple"=some (.type "tuple"):=by decide +kernel
theorem gx:bootBuiltins "all"=some (.builtin "all"):=by decide +kernel
theorem aD:bootBuiltins "isinstance"=some (.builtin "isinstance"):=by decide +kernel
theorem gf:bootBuiltins "bool"=some (.type "bool"):=by decide +kernel
theorem lw:bootBuiltins "int"=some (.type "int"):=by decide +kernel
theorem fo:bootBuiltins "str"=some (.type "str"):=by decide +kernel
theorem xH:bootBuiltins "min"=some (.builtin "min"):=by decide +kernel
theorem bz:bootBuiltins "len"=some (.builtin "len"):=by decide +kernel
theorem ci{x:Str}{T:String}(hg:Gl X x)(hm:X.mg x=none)(hv:bootBuiltins x=some (.type T))(hn:x≠"__name__":=by decide)(hd:(x==("__debug__":Str))=false:=by decide):DE X B (.Name x pos) (dC (.ty T)):=
 sX (y0 (v:=.ty T) hg hm hv rfl hn hd) fun _=>rfl
theorem mZ{a b c:Expr}{ta tb tc:bL}{op op':CmpOp}{r r':dW}(ho:cB X (compareOp op) (liftR2 X r))(ho':cB X (compareOp op') (liftR2 X r'))(ha:DE X B a ta)(hb:DE X B b tb)(hc:DE X B c tc)(hm:lastMarks [op,op'] [b,c]=false:=by with_unfolding_all rfl):
  DE X B (.Compare a [op,op'] [b,c] pos) (eV r r' ta tb tc):=by
 refine bc (wU ho ho' ha hb hc hm) ?_
 rintro σ H Q ⟨δ,M,QQ,s,h,u⟩
 refine ⟨δ,M,_,s,h,fun x M1 h1 v1 H1 rh1 i1 r1=>?_⟩;refine ⟨δ,M1,_,s.go rh1 i1,h1,fun y M2 h2 v2 H2 rh2 i2 r2=>?_⟩;refine ⟨x,y,M2,_,rh2,r1.mf rh1 i2,r2,h2,fun z M3 h3 v3 H3 rh3 i3 r3=>?_⟩;cases z with
 |bl k=>
  cases r3;cases k with
  |true=>
   refine ⟨true,rfl,?_⟩;rw [if_pos rfl];refine ⟨δ,M3,_,s.go rh3 ((i1.trans i2).trans i3),h3,fun w M4 h4 v4 H4 rh4 i4 r4=>?_⟩;exact ⟨y,w,M4,QQ,rh4,(r2.mf rh2 (i3.trans i4)),r4,h4,u.go (((i1.trans i2).trans i3).trans i4)⟩
  |false=>
   refine ⟨false,rfl,?_⟩;rw [if_neg Bool.false_ne_true];exact u _ M3 h3 _ H3 rh3 ((i1.trans i2).trans i3) rfl
 |_=>exact (show False from h3).elim
def frzs:List D->Mem->(List D->Mem->Prop)->Prop
 |[],M,Q=>Q [] M
 |d::ds,M,Q=>match d with
  |.ref a=>match M a with
   |some (.lst xs)=>frzs ds (M.del a) fun es M'=>Q (.lst xs::es) M'
   |_=>frzs ds M fun es M'=>Q (d::es) M'
  |_=>frzs ds M fun es M'=>Q (d::es) M'
theorem fZ{pins:List (Addr×Obj)}{σ:L2.St}{s:Shared}:∀{ds:List D} {vs:List V} {M:Mem} {H:Hp} {Q:List D->Mem->Prop},Inv X pins σ H s->RepH X.K H M->Rps X.K H ds vs->frzs ds M Q->
  ∃H' es M',Inv X pins σ H' s/\RepH X.K H' M'/\Frm M H M' H'/\Rps X.K H' es vs/\Q es M'
 |[],vs,M,H,Q,I,rh,r,h=>⟨H,[],M,I,rh,Frm.refl,r,h⟩
 |d::ds,vs,M,H,Q,I,rh,r,h=>by
  obtain ⟨v,vs',rfl,a,b⟩:=r;unfold frzs at h
  split at h
  ·rename_i a'
   cases a
   split at h
   ·rename_i xs e
    obtain ⟨ws,h1,h2⟩:=rh _ _ e;obtain ⟨o,I2⟩:=Inv.freeze I h1;have im:Imm H (upd H a' (.frz o (.lst ws))):=Imm.upd (by rw [h1];trivial)
    obtain ⟨H',es,M',I',rh',f,r',q⟩:=fZ I2 (rh.freeze h1) (b.mono im) h;refine ⟨H',_,M',I',rh',(Frm.del ⟨_,e⟩).trans f,.cons ?_ r',q⟩;have z:Rp X.K (upd H a' (.frz o (.lst ws))) (.lst xs) (.ref a'):=⟨a',ws,rfl,⟨o,upd_same⟩,h2.mono im⟩;exact z.mf (rh.freeze h1) f
   ·obtain ⟨H',es,M',I',rh',f,r',q⟩:=fZ I rh b h
    exact ⟨H',_,M',I',rh',f,.cons (d:=.ref a') rfl r',q⟩
  ·obtain ⟨H',es,M',I',rh',f,r',q⟩:=fZ I rh b h
   exact ⟨H',_,M',I',rh',f,.cons (a.mf rh f) r',q⟩
def vW(d:D)(M:Mem)(Q:DK):Prop:=match d with
 |.tup ds=>frzs ds M fun es M'=>Q (.tup es) M'
 |d=>Q d M
def qY(t:bL):bL:=fun δ M Q=>t δ M fun d M'=>vW d M' Q
theorem lP{e:Expr}{te:bL}(h:DE X B e te):DE X B e (qY te):=by
 intro pins s σ H Q I hq;obtain ⟨δ,M,QQ,sr,hT,u⟩:=hq;refine thn (h pins s σ H (fun v H'=>∃d M',RepH X.K H' M'/\Frm M H M' H'/\Rp X.K H' d v/\vW d M' QQ) I ⟨δ,M,_,sr,hT,fun d M' q v H' rh i r=>⟨d,M',rh,i,r,q⟩⟩) ?_
 rintro w s' ⟨v,H',I',rv,d,M',rh,i,r,q⟩
 unfold vW at q
 split at q
 ·obtain ⟨p,vs,rfl,ht,r⟩:=r
  obtain ⟨H2,es,M2,I2,rh2,f2,r2,q2⟩:=fZ I' rh r q;exact ⟨.ref p,H2,I2,rv,u _ _ q2 _ H2 rh2 (i.trans f2) ⟨p,vs,rfl,ht.mono (f2.imm rh),r2⟩⟩
 ·exact ⟨v,H',I',rv,u _ _ q v H' rh i r⟩
theorem BQ{P:Program}{w:World}{K:W.Frag}{mg:Str->Option Value}{base:Heap}{k n:Nat}{f:Addr}{fd:FuncData}{ps:List Str}{T:Sd}(F:FnOk P w K mg base (bM P w) k f fd ps (aw K n T)):
  FnOk P w K mg base CX0 k f fd ps (fun vs H Q _=>aw K n T vs H Q E0):=
 ⟨fun vs H Q E h=>F.len _ _ _ _ h,fun A outer s H args us vs Q E hr he hb hv hs=>codeAny_mono (F.run A outer s H args us vs Q E0 hr he hb hv hs) fun r s' h=>by
  cases r with
  |ok fl=>cases fl<;>exact h
  |error e=>
   obtain ⟨C',ea,H',B,a0,e1,e2,e3,e4,e5,e6,e7,e8,e9⟩:=h;exact (show False from e9).elim⟩
theorem yw{K:W.Frag}{T:Sd}{H:Hp}{a:Addr}{ns:List Int}{Q:VK}(hO:uc H)(hS:SqL K H a (ns.map V.int))(h:T [.ml (ns.map D.int)] (fun _=>none) (fun d _=>d=.bl true) NoX)(k:∀H',Q (.bl true) H'):aw K 1 T [.ref a] H Q E0:=by
 refine ⟨rfl,[.ml (ns.map D.int)],fun _=>none,_,_,fun b o e=>(by cases e),.cons ⟨a,_,rfl,?_,oN rfl⟩ .nil,h,fun d M' q v H' rh f r=>?_,AZ⟩
 ·rcases hS with (z|z)|z
  ·rcases hO a with e|⟨o,xs,e⟩
   ·rw [e] at z;cases z
   ·rw [e] at z;cases z
  ·exact .inl z
  ·exact .inr z
 ·subst q;cases r;exact k H'
end
theorem iF{K:W.Frag}{h h':Heap}{N:Addr}(X:K.In h)(X':K.In h')(e:W.nsOkIn K N=true):h'.nsMap N=h.nsMap N:=by
 unfold W.nsOkIn at e
 split at e
 ·rename_i ho
  funext x;unfold Heap.nsMap;rw [X _ _ ho,X' _ _ ho]
 ·cases e
theorem pX{K:W.Frag}{h:Heap}{C:Addr}(X:K.In h)(q:W.excIn K C [.type "ValueError",.type "Exception",.type "BaseException",.type "object"] "ValueError.__new__"=true):ExcAt K C:=by
 unfold W.excIn at q
 split at q
 ·rename_i dd cd sl ho
  split at q
  ·rename_i C' bm k0 k1 k2 k3 n k5 hm hs
   simp only [Bool.and_eq_true,beq_iff_eq,Bool.not_eq_true'] at q;obtain ⟨⟨⟨⟨⟨rfl,rfl⟩,hdel⟩,ht⟩,hok⟩,hni⟩:=q;obtain ⟨nm,bs,mro,ns,qn,hd,sn,sub,ab,col,del⟩:=cd;dsimp only at hm hdel hok hni;subst hm hdel;have hsl:sl=#[k0,k1,k2,k3,some (.builtin "ValueError.__new__"),k5]:=by
    obtain ⟨l⟩:=sl;simp only at hs;rw [hs]
   subst hsl;refine ⟨⟨nm,qn,ns,bs,bm,_,hd,sn,sub,ab,col,dd,k0,k1,k2,k3,k5,"ValueError.__new__","ValueError.__init__","ValueError",h.nsMap ns,fun h' X'=>⟨X' _ _ ho,?_,W.tail_of_in X' ht⟩,W.nsMap_none_of_in X hok hni,PySem.F.excBase_ValueError,by decide,(W.tail_of_in X ht).hasType (by decide)⟩⟩
   rw [<- iF X X' hok];exact .of_isNs (W.isNs_of_in X' hok)
  ·cases q
 ·cases q
end L3
namespace L2
open PySem
end L2
namespace L3
open PySem L2
def wx:Expr->Bool
 |.Starred ..=>false
 |_=>true
theorem tE{e:Expr}{es:List Expr}{env:Env}(h:wx e=true):starEach (e::es) env=(false,eval e env)::starEach es env:=by
 cases e<;>first|rfl|exact Bool.noConfusion h
section
variable {X:Cx}{B:Mem}
theorem lr{e:Expr}{es:List Expr}{te:bL}{t:eE}(ha:DE X B e te)(hr:DA X B es t)(hp:wx e=true:=by rfl):DA X B (e::es) (ac te t):=aa ha hr (tE hp)
end
end L3
namespace L3
open PySem L2
section
variable {X:Cx}{B:Mem}
end
end L3
namespace L3
open PySem L2
section
variable {X:Cx}{B:Mem}
end
end L3
namespace L3
open PySem L2
section
variable {X:Cx}{B:Mem}
end
end L3
namespace LS
open PySem
def Rs(xs:Array Nat):Prop:=xs.toList.Pairwise (· < ·)
theorem Rs.lt{xs:Array Nat}(r:Rs xs){i j:Nat}(h:i<j)(hj:j<xs.size):xs[i]'(by lia)<xs[j]:=by
 have:=List.pairwise_iff_getElem.mp r i j (by simpa using (by lia:i<xs.size)) (by simpa using hj) h
 simpa using this
structure Lb(xs:Array Nat)(j p:Nat):Prop where
 le:p<=xs.size
 lo:∀i (h:i<xs.size),i<p->xs[i]<j
 hi:∀i (h:i<xs.size),p<=i->j<=xs[i]
theorem jx{xs:Array Nat}(r:Rs xs)(j:Nat):∀(f lo hi:Nat),lo<=hi->hi<=xs.size->hi-lo<=f->(∀i (h:i<xs.size),i<lo->xs[i]<j)->(∀i (h:i<xs.size),hi<=i->j<=xs[i])->Lb xs j (SetTable.below.go xs j f lo hi)
 |0,lo,hi,h1,h2,h3,a,b=>by
  have:lo=hi:=by lia
  subst this;exact ⟨by simp only [SetTable.below.go];exact h2,a,b⟩
 |f+1,lo,hi,h1,h2,h3,a,b=>by
  simp only [SetTable.below.go]
  by_cases c:lo<hi
  ·rw [if_pos c]
   have hm:(lo+hi) / 2<xs.size:=by lia
   have hg:xs.getD ((lo+hi) / 2) j=xs[(lo+hi) / 2]:=by simp [Array.getD,hm]
   rw [hg]
   by_cases d:xs[(lo+hi) / 2]<j
   ·rw [if_pos d]
    refine jx r j f _ _ (by lia) h2 (by lia) (fun i h q=>?_) b
    rcases Nat.lt_or_ge i ((lo+hi) / 2) with z|z
    ·exact Nat.lt_trans (r.lt z hm) d
    ·have:i=(lo+hi) / 2:=by lia
     subst this;exact d
   ·rw [if_neg d]
    refine jx r j f _ _ (by lia) (by lia) (by lia) a (fun i h q=>?_)
    rcases Nat.lt_or_ge ((lo+hi) / 2) i with z|z
    ·have:=r.lt z h;lia
    ·have:i=(lo+hi) / 2:=by lia
     subst this;lia
  ·rw [if_neg c]
   have:lo=hi:=by lia
   subst this;exact ⟨h2,a,b⟩
theorem jF{xs:Array Nat}(r:Rs xs)(j:Nat):Lb xs j (SetTable.below xs j):=
 jx r j xs.size 0 xs.size (Nat.zero_le _) (Nat.le_refl _) (Nat.le_refl _) (fun i _ h=>by lia) (fun i h q=>by lia)
theorem pC{xs:Array Nat}(r:Rs xs){i:Nat}(h:i<xs.size):SetTable.below xs (xs[i]+1)=i+1:=by
 have b:=jF r (xs[i]+1);generalize SetTable.below xs (xs[i]+1)=p at b;rcases Nat.lt_trichotomy p (i+1) with z|z|z
 ·have:=b.hi i h (by lia);lia
 ·exact z
 ·have h1:i+1<xs.size:=by have:=b.le;lia
  have:=b.lo (i+1) h1 z;have:=r.lt (show i<i+1 by lia) h1
  lia
theorem nY{xs:Array Nat}(r:Rs xs):SetTable.below xs 0=0:=by
 have b:=jF r 0;generalize SetTable.below xs 0=p at b;cases p with
 |zero=>rfl
 |succ p=>
  have h1:0<xs.size:=by have:=b.le;lia
  have:=b.lo 0 h1 (by lia);lia
theorem CN{xs:Array Nat}(r:Rs xs){j:Nat}(hj:xs[SetTable.below xs j]?≠some j):Rs (SetTable.insertAt xs (SetTable.below xs j) j):=by
 have b:=jF r j;generalize SetTable.below xs j=p at b hj;unfold Rs at r ⊢;have e:(SetTable.insertAt xs p j).toList=xs.toList.take p++j::xs.toList.drop p:=by
  unfold SetTable.insertAt;simp [List.take_of_length_le]
 have m:∀y∈xs.toList.drop p,j<y:=fun y hy=>by
  obtain ⟨k,hk⟩:=List.mem_iff_getElem?.mp hy;rw [List.getElem?_drop,Array.getElem?_toList] at hk;obtain ⟨h1,h2⟩:=Array.getElem?_eq_some_iff.mp hk;have:=b.hi _ h1 (by lia)
  rcases Nat.lt_or_ge j y with z|z
  ·exact z
  ·have ey:xs[p+k]=j:=by lia
   cases k with
   |zero=>exact absurd (by rw [<- ey];simpa using h1) hj
   |succ k=>
    have hp:p<xs.size:=by lia
    have:=b.hi p hp (Nat.le_refl _);have:xs[p]<xs[p+(k+1)]:=by
     have:=List.pairwise_iff_getElem.mp r p (p+(k+1)) (by simpa using hp) (by simpa using h1) (by lia)
     simpa using this
    lia
 rw [e,List.pairwise_append];refine ⟨r.sublist (List.take_sublist ..),List.pairwise_cons.mpr ⟨m,r.sublist (List.drop_sublist ..)⟩,fun x hx y hy=>?_⟩;obtain ⟨k,hk⟩:=List.mem_iff_getElem?.mp hx;have hkp:k<p:=by
  rcases Nat.lt_or_ge k p with z|z
  ·exact z
  ·rw [List.getElem?_take,if_neg (by lia)] at hk;cases hk
 rw [List.getElem?_take_of_lt hkp,Array.getElem?_toList] at hk;obtain ⟨h1,h2⟩:=Array.getElem?_eq_some_iff.mp hk;have:=b.lo _ h1 hkp;rcases List.mem_cons.mp hy with rfl|hy
 ·lia
 ·have:=m y hy;lia
theorem yQ{mask f mv:Nat}{led pl:Bool}{hs:Array Int}{t:SetTable}{o:Array Nat}(e:SetTable.laid mask f mv led pl hs=some (t,o)):Rs t.place/\t.dummies=#[]:=by
 unfold SetTable.laid at e;cases hq:SetTable.layClean mask hs with
 |none=>rw [hq] at e;cases e
 |some q=>
  rw [hq] at e;cases e;refine ⟨?_,rfl⟩;unfold Rs;rw [List.toList_toArray];rw [List.pairwise_map,List.pairwise_filterMap];refine List.Pairwise.imp ?_ List.pairwise_lt_range;intro a b hab x hx y hy;obtain ⟨_,_,rfl⟩:=Option.map_eq_some_iff.mp hx;obtain ⟨_,_,rfl⟩:=Option.map_eq_some_iff.mp hy;exact hab
theorem oM{t:SetTable}{f:Nat->Int}{h:Int}(hd:t.dummies=#[]):∀(n:Nat) (p:SetTable.Probe) (j:Nat) (d:Option Nat),p.dummy=none->SetTable.probe.go t f h n p=some (.empty j d)->t.place[SetTable.below t.place j]?≠some j/\d=none
 |0,p,j,d,hp,e=>by simp [SetTable.probe.go] at e
 |n+1,p,j,d,hp,e=>by
  have adv:∀q:SetTable.Probe,q.dummy=none->(t.advance q).dummy=none:=fun q hq=>by
   unfold SetTable.advance
   split
   ·exact hq
   ·exact hq
  simp only [SetTable.probe.go] at e;cases hs:t.slot p.j with
  |empty=>
   rw [hs] at e;simp only [Option.some.injEq,SetTable.Met.empty.injEq] at e;obtain ⟨rfl,rfl⟩:=e;refine ⟨fun z=>?_,hp⟩;unfold SetTable.slot at hs;simp [z] at hs
  |dummy=>
   unfold SetTable.slot at hs;rw [hd] at hs;have:SetTable.has #[] p.j=false:=by simp [SetTable.has]
   rw [this] at hs;dsimp only at hs
   split at hs<;>simp at hs
  |live i=>
   rw [hs] at e;dsimp only at e
   split at e
   ·cases e
   ·exact oM hd n _ j d (adv p hp) e
theorem yf{t:SetTable}{h:Int}{q:Nat×Bool}(r:Rs t.place)(hd:t.dummies=#[])(e:t.freeSlot h=some q):Rs (t.put q.1).1.place/\(t.put q.1).1.dummies=#[]:=by
 unfold SetTable.freeSlot at e
 split at e
 ·rename_i j d hm
  cases e;obtain ⟨h1,h2⟩:=oM hd _ _ _ _ rfl hm;subst h2;refine ⟨CN r h1,?_⟩;show (if SetTable.has t.dummies j=true then _ else t.dummies)=#[]
  rw [hd,if_neg (by simp [SetTable.has])]
 ·cases e
end LS
namespace LS
open PySem
section
variable {prog:Program}{w:World}{K:Type}[DecidableEq K]{A:Around}{E:Value->Shared->Prop}{s:Shared}
def Pl(t:SetTable):Prop:=t.plain=true->Rs t.place/\t.dummies=#[]
theorem mF(t:SetTable)(n:Nat):(t.orStandIn n).led=t.led/\(Pl t->Pl (t.orStandIn n)):=by
 unfold SetTable.orStandIn
 by_cases q:t.fits n=true
 ·rw [if_pos q];exact ⟨rfl,id⟩
 ·rw [if_neg q];exact ⟨rfl,fun _ e=>by cases e⟩
theorem qg(t:SetTable)(es:Array (Int×Value))(h:Int)(x:Value):(layNew t es h x).2.1.led=t.led/\(Pl t->Pl (layNew t es h x).2.1):=by
 unfold layNew;cases hq:t.freeSlot h with
 |some q=>
  have s:=mF (t.put q.1).1 (SetTable.insertAt es (t.put q.1).2 (h,x)).size;exact ⟨s.1,fun p=>s.2 fun e=>yf (p e).1 (p e).2 hq⟩
 |none=>exact ⟨rfl,fun _ e=>by cases e⟩
theorem pi{t t':SetTable}{hs:Array Int}{n:Nat}{o:Array Nat}(e:t.relaid hs n=some (t',o)):t'.led=t.led/\Pl t':=by
 refine ⟨?_,fun _=>yQ e⟩;unfold SetTable.relaid SetTable.laid at e;cases hq:SetTable.layClean (SetTable.sizeAbove n-1) hs with
 |none=>rw [hq] at e;cases e
 |some q=>rw [hq] at e;cases e;rfl
theorem ma(t:SetTable)(es:Array (Int×Value))(n:Nat):(relayAll t es n).2.1.led=t.led/\Pl (relayAll t es n).2.1:=by
 unfold relayAll;cases hr:t.relaid (es.map (·.1)) n with
 |none=>exact ⟨rfl,fun z=>by cases z⟩
 |some q=>
  have hq:=pi (t':=q.1) (o:=q.2) hr
  try dsimp only
  split
  ·exact hq
  ·exact ⟨rfl,fun z=>by cases z⟩
structure Holds(knd:KeyKind prog w K)(h:Heap)(a:Addr)(led:Bool)(l:List K):Prop where
 ex:∃(o:Obj) (es:Array (Int×Value)) (ep:Nat) (t:SetTable),h.get? a=some o/\o.ExactSet/\o.data=.set es ep t/\ElemsOf knd es.toList/\(∀k,k∈l↔∃e∈es.toList,knd.is k e.2=true)/\es.size=l.length/\t.fits es.size=true/\t.led=led/\Pl t
 nd:l.Nodup
 few:l.length<scanBound
variable {knd:KeyKind prog w K}
theorem stored{h:Heap}{a:Addr}{o:Obj}{es es1:Array (Int×Value)}{ep:Nat}{t t1:SetTable}{led:Bool}{l:List K}(ho:h.get? a=some o)(hx:o.ExactSet)(hd:o.data=.set es ep t)(q1:ElemsOf knd es1.toList)
  (q2:∀k,k∈l↔∃e∈es1.toList,knd.is k e.2=true) (q3:es1.size=l.length) (q4:t1.fits es1.size=true) (q5:t1.led=led) (q6:Pl t1) (nd:l.Nodup) (few:l.length<scanBound):
  (h.update a (Obj.putSet es1 t1)).get? a=some { o with data:=.set es1 (ep+1) t1 }/\Holds knd (h.update a (Obj.putSet es1 t1)) a led l:=by
 have e:=Heap.get?_update_self (Obj.putSet es1 t1) ho (by rw [putSet_of es1 t1 hd];rfl)
 rw [putSet_of es1 t1 hd] at e;exact ⟨e,⟨_,es1,ep+1,t1,e,hx,rfl,q1,q2,q3,q4,q5,q6⟩,nd,few⟩
theorem li{g:Bool->Sem Unit}(hg:∀(b:Bool) (s':Shared) (P:Unit->Shared->Prop),P () s'->wpAny (model prog w) A (g b) P E s'){a:Addr}{o:Obj}{es es1:Array (Int×Value)}{ep:Nat}{t t2:SetTable}{led wd:Bool}{l:List K}{R:Option Bool->Shared->Prop}
  (ho:s.heap.get? a=some o) (hx:o.ExactSet) (hd:o.data=.set es ep t) (q1:ElemsOf knd es1.toList) (q2:∀k,k∈l↔∃e∈es1.toList,knd.is k e.2=true) (q3:es1.size=l.length) (q4:t2.fits es1.size=true) (q5:t2.led=led)
  (q6:Pl t2) (nd:l.Nodup) (few:l.length<scanBound) (hR:∀h',Heap.SameBut a s.heap h'->Holds knd h' a led l->R (some true) { s with heap:=h' }):
  wpAny (model prog w) A (storeSet a es1 t2 >>= fun _=>if (!wd&&t2.tooFull)=true then g (relayAll t2 es1 (SetTable.grown es1.size)).2.2 >>= fun _=>storeSet a (relayAll t2 es1 (SetTable.grown es1.size)).1 (relayAll t2 es1 (SetTable.grown es1.size)).2.1 >>= fun _=>pure (some true) else pure (some true)) R E s:=by
 obtain ⟨e1,H1⟩:=stored (knd:=knd) ho hx hd q1 q2 q3 q4 q5 q6 nd few;have hb:es1.size<scanBound:=by rw [q3];exact few
 refine wpAny_bind (wpAny_storeSet_of ho hd ?_ (fits_of_scanBound hb))
 by_cases hq:(!wd&&t2.tooFull)=true
 ·rw [if_pos hq]
  have r1:=relayAll_perm t2 es1 (SetTable.grown es1.size);have r2:=relayAll_fits t2 es1 (SetTable.grown es1.size);have r3:=ma t2 es1 (SetTable.grown es1.size);generalize relayAll t2 es1 (SetTable.grown es1.size)=L at r1 r2 r3 ⊢;have r4:L.1.size=es1.size:=by rw [<- Array.length_toList,r1.length_eq,Array.length_toList]
  refine wpAny_bind (hg _ _ _ (wpAny_bind (wpAny_storeSet_of e1 rfl ?_ (by rw [r4];exact fits_of_scanBound hb))))
  obtain ⟨_,H2⟩:=stored (knd:=knd) (l:=l) (led:=led) (es1:=L.1) (t1:=L.2.1) e1 hx rfl (q1.perm r1) (fun k=>(q2 k).trans ⟨fun ⟨e,he,z⟩=>⟨e,r1.mem_iff.mpr he,z⟩,fun ⟨e,he,z⟩=>⟨e,r1.mem_iff.mp he,z⟩⟩) (by rw [r4];exact q3) r2 (r3.1.trans q5) r3.2 nd few
  exact wpAny_pure (hR _ ((Heap.SameBut.update s.heap a _).trans (Heap.SameBut.update _ a _)) H2)
 ·rw [if_neg hq]
  exact wpAny_pure (hR _ (Heap.SameBut.update s.heap a _) H1)
theorem z7{a:Addr}{led:Bool}{l:List K}{k:K}{x:Value}{Q:Bool->Shared->Prop}(hkey:knd.is k x=true)(hsc:x.scannable=true)(H:Holds knd s.heap a led l)(room:l.length+1<scanBound)
  (h:∀h' b,Heap.SameBut a s.heap h'->Holds knd h' a led (if k∈l then l else l++[k])->Q b { s with heap:=h' }):wpAny (model prog w) A (setAddHashed a x (knd.hash k)) Q E s:=by
 obtain ⟨⟨o,es,ep,t,ho,hx,hd,hel,hm,hsz,hf,hle,hpl⟩,nd,few⟩:=H;have hb:es.size<scanBound:=by rw [hsz];exact few
 unfold setAddHashed setAddHashedIn;refine wpAny_holding (wpAny_bind (wpAny_setState_of ho hd hf ?_));simp only [byScan_of hsc hb hel,if_true];unfold setAddByScan;refine wpAny_bind (wpAny_bind (wpAny_rule (wpAny_bind (wpAny_setScan_of hkey ho hd hf hel ?_))))
 by_cases hk:k∈l
 ·obtain ⟨e,he,hp⟩:=(hm k).mp hk
  cases hr:es.toList.findIdx? (fun e=>knd.is k e.2) with
  |none=>have:=List.findIdx?_eq_none_iff.mp hr e he;rw [hp] at this;cases this
  |some j=>
   refine wpAny_pure (wpAny_pure ?_);have:=h s.heap false (Heap.SameBut.refl a s.heap) (by rw [if_pos hk];exact ⟨⟨o,es,ep,t,ho,hx,hd,hel,hm,hsz,hf,hle,hpl⟩,nd,few⟩)
   cases s;exact this
 ·have hr:es.toList.findIdx? (fun e=>knd.is k e.2)=none:=List.findIdx?_eq_none_iff.mpr fun e he=>by
   cases q:knd.is k e.2 with
   |false=>rfl
   |true=>exact absurd ((hm k).mpr ⟨e,he,q⟩) hk
  rw [hr];have p1:=layNew_perm t es (knd.hash k) x;have p2:=layNew_fits t es (knd.hash k) x;have p3:=qg t es (knd.hash k) x;rw [Array.toList_push] at p1
  try dsimp only
  generalize layNew t es (knd.hash k) x=L at p1 p2 p3 ⊢;obtain ⟨es1,t1,wd,gv⟩:=L;dsimp only at p1 p2 p3 ⊢;have q1:ElemsOf knd es1.toList:=(hel.push hkey hsc).perm p1;have q2:∀k',k'∈l++[k]↔∃e∈es1.toList,knd.is k' e.2=true:=fun k'=>by
   constructor
   ·intro hk'
    rcases List.mem_append.mp hk' with z|z
    ·obtain ⟨e,he,hp⟩:=(hm k').mp z
     exact ⟨e,p1.mem_iff.mpr (List.mem_append_left _ he),hp⟩
    ·rw [List.mem_singleton] at z;subst z
     exact ⟨_,p1.mem_iff.mpr (List.mem_append_right _ (List.mem_singleton.mpr rfl)),hkey⟩
   ·rintro ⟨e,he,hp⟩
    rcases List.mem_append.mp (p1.mem_iff.mp he) with z|z
    ·exact List.mem_append_left _ ((hm k').mpr ⟨e,z,hp⟩)
    ·rw [List.mem_singleton] at z;subst z
     exact List.mem_append_right _ (List.mem_singleton.mpr (knd.inj x k' k hp hkey))
  have q3:es1.size=(l++[k]).length:=by rw [<- Array.length_toList,p1.length_eq];simp [hsz]
  have nd':(l++[k]).Nodup:=List.nodup_append.mpr ⟨nd,by simp,fun y hy z hz=>by rw [List.mem_singleton] at hz;subst hz;rintro rfl;exact hk hy⟩
  have few':(l++[k]).length<scanBound:=by simp;lia
  have q4:Pl t1:=p3.2 hpl;have hgw:∀(b:Bool) (s':Shared) (P:Unit->Shared->Prop),P () s'->wpAny (model prog w) A (match b with|true=>rule "set.scan.the-table-gave-way"|false=>pure ()) P E s':=fun b s' P z=>by
   cases b
   ·exact wpAny_pure z
   ·exact wpAny_rule z
  have last:∀h',Heap.SameBut a s.heap h'->Holds knd h' a led (l++[k])->wpAny (model prog w) A (pure true) Q E { s with heap:=h' }:=fun h' z H'=>wpAny_pure (h h' true z (by rw [if_neg hk];exact H'))
  refine wpAny_bind (hgw gv s _ ?_)
  by_cases hpn:t1.plain=true
  ·rw [if_pos hpn]
   refine wpAny_bind (wpAny_of_eq (hashByValue_scannable 8 hsc) ?_);cases hpk:plainKind x with
   |true=>exact li (knd:=knd) (g:=fun b=>match b with|true=>rule "set.scan.the-table-gave-way"|false=>pure ()) hgw ho hx hd q1 q2 q3 p2 (p3.1.trans hle) q4 nd' few' last
   |false=>exact li (knd:=knd) (g:=fun b=>match b with|true=>rule "set.scan.the-table-gave-way"|false=>pure ()) (t2:={ t1 with plain:=false }) hgw ho hx hd q1 q2 q3 (SetTable.fits_plain_off p2) (p3.1.trans hle) (fun z=>by cases z) nd' few' last
  ·rw [if_neg hpn]
   refine wpAny_bind (wpAny_pure ?_);exact li (knd:=knd) (g:=fun b=>match b with|true=>rule "set.scan.the-table-gave-way"|false=>pure ()) hgw ho hx hd q1 q2 q3 p2 (p3.1.trans hle) q4 nd' few' last
end
end LS
namespace LS
open PySem
section
variable {prog:Program}{w:World}{K:Type}[DecidableEq K]{A:Around}{E:Value->Shared->Prop}{s:Shared}{knd:KeyKind prog w K}
theorem Holds.keep{h h':Heap}{a:Addr}{led:Bool}{l:List K}(H:Holds knd h a led l)(k:∀o,h.get? a=some o->h'.get? a=some o):Holds knd h' a led l:=by
 obtain ⟨⟨o,es,ep,t,ho,r⟩,nd,few⟩:=H;exact ⟨⟨o,es,ep,t,k _ ho,r⟩,nd,few⟩
def aZ(w:World):Bool:=w.params.followText "set-order"
def a_(led:Bool):Obj:={ cls:=.type "set",dict:=none,data:=.set #[] 0 (.fresh 0 0 led) }
theorem rk(a:Value){Z:Value->Shared->Prop}(h:Z (.ref s.heap.objs.size) { s with heap:=s.heap.push (a_ (!aZ w)) }):
  codeAny (model prog w) A (.call (.builtin "set.__new__") ⟨[.type "set",a],[]⟩) (wants Z E) s:=by
 apply codeAny_of_tree;show wpAny _ A.in1 (checkBuiltinCall "set.__new__" ⟨[.type "set",a],[]⟩ >>= fun _=>again (.builtin "set.__new__" ⟨[.type "set",a],[]⟩)) _ _ s;apply wpAny_bind;refine wpAny_of_eq (F.newCall_set_1 a) (wpAny_pure ⟨plainId_quiet F.plain_set_new _,codeAny_builtin F.entry_set_new ?_⟩);rw [Around.under_plainId (F.plain_set_new) _];have sub:=sub_set_self;obtain ⟨hp,gg,dd,tt,oo⟩:=s;unfold Builtin.«set.__new__» Builtin.Frozenset.newClass;dsimp only;wp_walk;refine wpAny_askSetting (wpAny_pure ?_);simp only [newObj];exact wpAny_bind (wpAny_alloc (wpAny_pure (wpAny_pure h)))
def cw(l:List K):List K->List K
 |[]=>l
 |k::r=>cw (if k∈l then l else l++[k]) r
theorem vn{P:Nat->Value->Prop}{St:Nat->Heap->Prop}{I S:Addr}{fp:List Addr}{ks:List K}{led:Bool}{R:Result->Shared->Prop}(W:Walks prog w A.in1 I fp [I] ks.length P St)(hS:S∉fp)(hI:S≠I)
  (hP:∀i v,P i v->∃k,ks[i]?=some k/\knd.is k v=true/\v.scannable=true) (few:ks.length+1<scanBound):
  ∀(r i:Nat) (s:Shared) (l:List K),i+r=ks.length->St i s.heap->Holds knd s.heap S led l->l.length<=i->
   (∀h' tk,(∀b o,b≠S->b≠I->s.heap.get? b=some o->h'.get? b=some o)->Holds knd h' S led (cw l (ks.drop i))->R (.ok (.ret .none)) { s with heap:=h',toks:=tk })->
   codeAny (model prog w) A (.builtin "set.update.loop" ⟨[.ref S,.ref I],[]⟩) R s
 |0,i,s,l,e,st,H,hl,hR=>by
  refine codeAny_builtin PyProof.Rows.F.entry_set_update_loop ?_;rw [Around.under_plainId (PyProof.Rows.F.plain_set_update_loop) _];show wpAny _ A.in1 (pyNext (.ref I) >>= _) _ _ s;obtain rfl:i=ks.length:=by lia
  refine wpAny_bind (W.done s _ _ st fun h' tk k=>?_);refine wpAny_pure (hR h' tk (fun b o _ hb q=>k b o (by simpa using hb) q) ?_)
  rw [List.drop_length];exact H.keep fun o q=>k S o (by simpa using hI) q
 |r+1,i,s,l,e,st,H,hl,hR=>by
  refine codeAny_builtin PyProof.Rows.F.entry_set_update_loop ?_;rw [Around.under_plainId (PyProof.Rows.F.plain_set_update_loop) _];show wpAny _ A.in1 (pyNext (.ref I) >>= _) _ _ s;refine wpAny_bind (W.item i s _ _ (by lia) st fun v h' tk pv st' k=>?_)
  obtain ⟨x,hx,ix,sx⟩:=hP i v pv;have H':Holds knd h' S led l:=H.keep fun o q=>k S o (by simpa using hI) q
  show wpAny _ A.in1 (holding [v] (setAdd S v) >>= _) _ _ _;refine wpAny_bind (wpAny_holding ?_);unfold setAdd;refine wpAny_holding (wpAny_bind (knd.pyHash ix ?_));refine z7 (s:={ s with heap:=h',toks:=tk+1 }) ix sx H' (by lia) fun h2 b2 sb H2=>?_
  refine wpAny_pure ⟨plainId_quiet PyProof.Rows.F.plain_set_update_loop _,?_⟩;have hd:ks.drop i=x::ks.drop (i+1):=by
   obtain ⟨hlt,hxe⟩:=List.getElem?_eq_some_iff.mp hx;rw [<- hxe];exact List.drop_eq_getElem_cons hlt
  have hl2:(if x∈l then l else l++[x]).length<=i+1:=by
   by_cases z:x∈l
   ·rw [if_pos z];lia
   ·rw [if_neg z,List.length_append,List.length_singleton];lia
  refine vn W hS hI hP few r (i+1) _ _ (by lia) (W.frame _ _ _ st' fun b hb o q=>?_) H2 hl2 fun h3 tk3 k3 H3=>?_
  ·rw [sb.2 b fun z=>hS (z▸hb)];exact q
  ·refine hR h3 tk3 (fun b o hb1 hb2 q=>k3 b o hb1 hb2 ?_) ?_
   ·show h2.get? b=some o
    rw [sb.2 b hb1];exact k b o (by simpa using hb2) q
   ·rw [hd];exact H3
theorem iy{h:Heap}{a:Addr}{led:Bool}(e:h.get? a=some (a_ led)):Holds knd h a led []:=by
 exact ⟨⟨_,#[],0,.fresh 0 0 led,e,⟨rfl,rfl,rfl⟩,rfl,fun _ q=>by simp at q,fun k=>by simp,rfl,by rfl,rfl,fun _=>⟨List.Pairwise.nil,rfl⟩⟩,List.nodup_nil,by simp [scanBound]⟩
theorem nW{l:Addr}{items:Array Value}{ks:List K}{Q:Value->Shared->Prop}(hh:A.handled=none)(hl:s.heap.IsList l items)(hn:items.size=ks.length)
  (hk:∀(i:Nat) (v:Value),items[i]?=some v->∃k,ks[i]?=some k/\knd.is k v=true/\v.scannable=true) (few:ks.length+1<scanBound)
  (h:∀(h':Heap) (tk:Nat),Holds knd h' s.heap.objs.size (!aZ w) (cw [] ks)->(∀b o,s.heap.get? b=some o->h'.get? b=some o)->Q (.ref s.heap.objs.size) { s with heap:=h',toks:=tk }):
  wpAny (model prog w) A (call (.type "set") [.ref l]) Q E s:=by
 have ft:=F.called_set;obtain ⟨cc,tl,m1⟩:=ft.mro;have m2:=ft.made;have m3:=ft.sub;apply wpAny_call;apply codeAny_of_tree;refine wpAny_pure ⟨Code.quiet_builtin _ (by decide +kernel),codeAny_builtin F.entry_type_call ?_⟩
 rw [Around.under_plain (weight_type_call_type "set" [.ref l] []) (rfl)];have m4:=ft.notType;have m5:=ft.canCreate;have m6:=F.typeCall_set_1 (.ref l)
 repeat (any_goals (first|(assumption)|wp_step))
 refine codeAny_mono (rk (.ref l) (E:=E) (Z:=fun o s1=>o=.ref s.heap.objs.size/\s1={ s with heap:=s.heap.push (a_ (!aZ w)) }) ⟨rfl,rfl⟩) fun r s1 hr=>?_;cases r with
 |error e=>exact hr
 |ok fl=>
  cases fl with
  |ret obj=>
   obtain ⟨rfl,rfl⟩:=hr;have at0:(s.heap.push (a_ (!aZ w))).get? s.heap.objs.size=some (a_ (!aZ w)):=Heap.get?_push_size _ rfl;have ty0:Shared.TypeIs { s with heap:=s.heap.push (a_ (!aZ w)) } (.ref s.heap.objs.size) "set":=⟨_,at0,rfl⟩;have i1:=ft.init.lookup;have i2:=ft.init.bind (.ref s.heap.objs.size)
   repeat (any_goals (first|(assumption)|wp_step))
   refine codeAny_mono (codeAny_call_builtin (R:=wants (fun r s2=>r=.none/\∃h' tk,s2={ s with heap:=h',toks:=tk }/\Holds knd h' s.heap.objs.size (!aZ w) (cw [] ks)/\∀b o,s.heap.get? b=some o->h'.get? b=some o) E) ft.init.plain F.entry_set_init (check_set_init_1 ty0 ?_)) fun r2 s2 hr2=>?_
   ·have hl1:(s.heap.push (a_ (!aZ w))).IsList l items:=hl.push _
    obtain ⟨ol,g1,g2,nl,g3⟩:=id hl1;have lt:l<s.heap.objs.size:=let ⟨_,q,_⟩:=hl;Heap.lt_size q;obtain ⟨oc,od,oz,os⟩:=ol;dsimp only at g2 g3;subst g2;subst g3;have n1:=F.sub_list_set;have n2:=F.sub_list_frozenset;have n3:(Value.type "list"==Value.type "dict")=false:=rfl;have at1:=at0;unfold a_ at at1 g1 ⊢;unfold Builtin.«set.__init__» noKeywords Builtin.Frozenset.updateFrom;generalize ei:pyIter=it
    wp_walk
    subst ei;refine wpAny_pyIter_list hl1 (wpAny_bind (wpAny_runValue ?_));have hS:s.heap.objs.size∉[(s.heap.push (a_ (!aZ w))).objs.size,l]:=by
     rw [Heap.size_push];simp only [List.mem_cons,List.not_mem_nil,or_false,not_or];exact ⟨Nat.ne_of_lt (Nat.lt_succ_self _),Nat.ne_of_gt lt⟩
    have hI:l≠(s.heap.push (a_ (!aZ w))).objs.size:=by rw [Heap.size_push];exact Nat.ne_of_lt (Nat.lt_succ_of_lt lt)
    have at2:((s.heap.push (a_ (!aZ w))).push { cls:=.type "list_iterator",data:=.fields #[.ref l,.int 0 0] }).get? s.heap.objs.size=some (a_ (!aZ w)):=Heap.get?_push_of_some _ at0;have W:=Walks.list (prog:=prog) (w:=w) (A:=A.in1.in1.in1) (by simpa using hh) (s.heap.push (a_ (!aZ w))).objs.size l hI items
    rw [hn] at W;refine vn (knd:=knd) (led:=!aZ w) (ks:=ks) W hS (fun z=>hS (by rw [<- z];simp)) hk few ks.length 0 _ [] (by lia) ⟨⟨_,Heap.get?_push_size _ rfl,rfl,rfl⟩,hl1.push _⟩ (iy at2) (Nat.zero_le _) fun h' tk k H=>?_
    refine wpAny_pure (wpAny_pure ⟨rfl,h',tk,rfl,by rw [List.drop_zero] at H;exact H,fun b o q=>?_⟩)
    have lb:=Heap.lt_size q;exact k b o (Nat.ne_of_lt lb) (by rw [Heap.size_push];exact Nat.ne_of_lt (Nat.lt_succ_of_lt lb)) (Heap.get?_push_of_some _ (Heap.get?_push_of_some _ q))
   ·cases r2 with
    |error e=>exact hr2
    |ok f2=>
     cases f2 with
     |ret r=>
      obtain ⟨rfl,h',tk,rfl,H,k⟩:=hr2
      repeat (any_goals (first|(assumption)|wp_step))
      exact h _ _ H k
     |_=>exact hr2.elim
  |_=>exact hr.elim
end
end LS
namespace LS
open PySem
theorem k4{α:Type}:∀(l:List α) (i:Nat) (h:i<l.length),(l[i]::l.eraseIdx i).Perm l
 |x::l,0,_=>List.Perm.refl _
 |x::l,i+1,h=>by
  have:=k4 l i (by simpa using h)
  exact (List.Perm.swap ..).trans (List.Perm.cons x this)
 |[],i,h=>by simp at h
theorem rJ{α:Type}(nx:Nat->Nat):∀(n k:Nat) (l:List α) (out:Array α),l.length=n->(pickOrder.go nx n k l out).toList.Perm (out.toList++l)
 |0,k,l,out,e=>by
  have:l=[]:=List.length_eq_zero_iff.mp e;subst this;simp [pickOrder.go]
 |n+1,k,l,out,e=>by
  have hp:nx k % l.length<l.length:=Nat.mod_lt _ (by lia)
  simp only [pickOrder.go];rw [List.getElem?_eq_getElem hp];refine (rJ nx n (k+1) _ _ (by rw [List.length_eraseIdx_of_lt hp];lia)).trans ?_
  rw [Array.toList_push,List.append_assoc];exact List.Perm.append_left _ (k4 _ _ hp)
theorem ky{α:Type}(nx:Nat->Nat)(xs:Array α):(pickOrder nx xs).toList.Perm xs.toList:=by
 unfold pickOrder;simpa using rJ nx xs.size 0 xs.toList #[] (by simp)
section
variable {M:Model}{A:Around}{E:Value->Shared->Prop}
theorem oY{src:Source}{n:Nat}{s:Shared}{Q:Nat->Shared->Prop}(hn:n≠0)(h:∀i d',i<n->Q i { s with drawn:=d' }):wpAny M A (choose src n) Q E s:=fun Γ p _=>by
 unfold choose;rw [Sem.wp_choose];exact ⟨hn,h _ _ (Nat.mod_lt _ (Nat.pos_of_ne_zero hn))⟩
theorem my{α:Type}:∀(n:Nat) (l:List α) (s:Shared) (Q:List α->Shared->Prop),l.length=n->(∀r d',r.Perm l->Q r { s with drawn:=d' })->wpAny M A (drawOrder n l) Q E s
 |0,l,s,Q,e,h=>by
  have:l=[]:=List.length_eq_zero_iff.mp e;subst this;have:=h [] s.drawn (List.Perm.refl _);cases s;exact wpAny_pure this
 |n+1,[],s,Q,e,h=>by simp at e
 |n+1,x::l,s,Q,e,h=>by
  unfold drawOrder;refine wpAny_bind (oY (by simp) fun i d' hi=>?_)
  rw [List.getElem?_eq_getElem hi]
  try dsimp only
  refine wpAny_bind (my n _ _ _ (by rw [List.length_eraseIdx_of_lt hi];simp at e ⊢;lia) fun r d2 hr=>?_)
  exact wpAny_pure (h _ d2 ((List.Perm.cons _ hr).trans (k4 _ _ hi)))
end
theorem uM:Manifest.owners.lookup (String.ofList "rotareti_tes".toList.reverse)=some Manifest.sig_set_iterator:=by kernel_rfl
theorem slot_it:Slot "set_iterator" "__next__" "set_iterator.__next__":=
 .of (n:="__next__") (owner:="set_iterator") (by rw [typeLookup_type];rw [builtinLookup_eq_fast];kernel_rfl) (by decide +kernel) (by decide +kernel) (by decide +kernel) (by first|exact .inl (by decide +kernel)|exact .inr (by decide +kernel)) (by rw [isSubtype_type];kernel_rfl)
theorem iO(a:Value):argsOk "set_iterator.__next__" ⟨[a],[]⟩:=by
 unfold argsOk;rw [signature?_of (id:="set_iterator.__next__") (n:=['_','_','t','x','e','n','_','_']) (o:=['r','o','t','a','r','e','t','i','_','t','e','s']) (by kernel_rfl) uM];kernel_rfl
theorem ll:entryFor table "set_iterator.__next__"=some Builtin.«set_iterator.__next__»:=entryFor_of_tree (by kernel_rfl)
theorem ub:entryFor table "set.__iter__"=some Builtin.«frozenset.__iter__»:=entryFor_alias (id':="frozenset.__iter__") (by kernel_rfl) rfl (by decide +kernel) (by kernel_rfl)
theorem kt:Slot "set_iterator" "__iter__" "set_iterator.__iter__":=
 .of (n:="__iter__") (owner:="set_iterator") (by rw [typeLookup_type];rw [builtinLookup_eq_fast];kernel_rfl) (by decide +kernel) (by decide +kernel) (by decide +kernel) (by first|exact .inl (by decide +kernel)|exact .inr (by decide +kernel)) (by rw [isSubtype_type];kernel_rfl)
theorem wN:entryFor table "set_iterator.__iter__"=some Builtin.«dict_keyiterator.__iter__»:=entryFor_alias (id':="dict_keyiterator.__iter__") (by kernel_rfl) rfl (by decide +kernel) (by kernel_rfl)
theorem tu(a:Value):argsOk "set_iterator.__iter__" ⟨[a],[]⟩:=by
 unfold argsOk;rw [signature?_of (id:="set_iterator.__iter__") (n:=['_','_','r','e','t','i','_','_']) (o:=['r','o','t','a','r','e','t','i','_','t','e','s']) (by kernel_rfl) uM];kernel_rfl
end LS
namespace LS
open PySem
def SetAt(h:Heap)(a:Addr)(es:Array (Int×Value))(ep:Nat)(t:SetTable):Prop:=∃o,h.get? a=some o/\o.ExactSet/\o.data=.set es ep t/\t.fits es.size=true
def eA(f:Value)(i:Nat)(a:Addr)(n ep:Nat):Obj:={ cls:=.type "set_iterator",dict:=none,data:=.fields #[f,.int i 0,.ref a,.int n 0,.int ep 0],slots:=#[] }
theorem SetAt.keep{h h':Heap}{a:Addr}{es:Array (Int×Value)}{ep:Nat}{t:SetTable}(x:SetAt h a es ep t)(k:∀o,h.get? a=some o->h'.get? a=some o):SetAt h' a es ep t:=
 let ⟨o,ho,r⟩:=x;⟨o,k _ ho,r⟩
section
variable {prog:Program}{w:World}{A:Around}{E:Value->Shared->Prop}{s:Shared}{I a:Addr}{f:Value}{i n ep:Nat}{es:Array (Int×Value)}{t:SetTable}
theorem gs(h:s.heap.get? I=some (eA f i a n ep)):s.TypeIs (.ref I) "set_iterator":=⟨_,h,rfl⟩
theorem rH{Q:Value->Shared->Prop}(h:s.heap.get? I=some (eA f i a n ep))(hQ:Q (.ref I) s):wpAny (model prog w) A (pyIter (.ref I)) Q E s:=by
 have ty:=gs h;refine wpAny_pyIter_slot ty kt (wpAny_call_entry kt ty wN ?_ (tu _));show wpAny _ _ (ret (Value.ref I)) _ _ s;exact wpAny_pure ⟨_,rfl,_,_,ty,slot_it.lookup,hQ⟩
theorem AM{Z:Fin->Shared->Prop}{Q:Option Value->Shared->Prop}(hh:A.handled=none)(hQ:∀h',(∀b o,s.heap.get? b=some o->h'.get? b=some o)->Q none { s with heap:=h' }):
  wpAny (model prog w) A.in1 (newExc (.type "StopIteration") [] >>= fun e=>raiseNew e) Z (fun e s'=>wpAny (model prog w) A (isInstance e (.type "StopIteration") >>= fun b=>if b=true then pure none else throw e) Q E s') s:=by
 refine wpAny_bind ?_;simp only [newExc,newTuple];refine wpAny_bind (wpAny_newObj_type ?_ (by size_fits))
 have fa:firstArgMember (.type "StopIteration") []=pure Value.none:=by first|rfl|(simp only [firstArgMember];rfl)
 refine wpAny_bind (wpAny_of_eq fa ?_);refine wpAny_newObj_type ?_ (by size_fits)
 simp only [raiseNew];refine wpAny_bind (wpAny_handled ?_);rw [show A.in1.handled=none by simpa using hh]
 refine wpAny_bind (wpAny_pure (wpAny_throw ?_));refine wpAny_bind (wpAny_isInstance (T:="StopIteration") (b:=true) ⟨_,Heap.get?_push_size _ rfl,rfl⟩ isSubtype_stop ?_);exact wpAny_pure (hQ _ fun b o q=>Heap.get?_push_of_some _ (Heap.get?_push_of_some _ q))
theorem C8{Q:Option Value->Shared->Prop}{sl nx:Nat}{v:Value}(h:s.heap.get? I=some (eA (.int sl 0) i a n ep))(x:SetAt s.heap a es ep t)(hn:es.size=n)
  (hs:∀(Z:Option (Value×Nat)->Shared->Prop) (E':Value->Shared->Prop),Z (some (v,nx)) s->wpAny (model prog w) A.in1 (setNext a sl i ep) Z E' s)
  (hQ:∀h',h'.get? I=some (eA (.int nx 0) (i+1) a n ep)->Heap.SameBut I s.heap h'->Q (some v) { s with heap:=h' }):wpAny (model prog w) A (pyNext (.ref I)) Q E s:=by
 have ty:=gs h;obtain ⟨o,ho,hx,hd,hf⟩:=id x;unfold pyNext;refine wpAny_bind (wpAny_attempt (wpAny_callSpecial?_slot (name:=Str.ofString "__next__") ty slot_it (wpAny_call_entry slot_it ty ll ?_ (iO _))));refine wpAny_bind (wpAny_pure ?_);refine wpAny_bind (wpAny_fieldsOf h rfl ?_)
 try dsimp only
 unfold setEntries;refine wpAny_bind (wpAny_bind (wpAny_setState_of ho hd hf (wpAny_pure ?_)));rw [if_neg (by rw [hn];simp)]
 simp only [Int.toNat_natCast];refine wpAny_bind (hs _ _ ?_)
 try dsimp only
 refine wpAny_bind (wpAny_setField_rec h (by simp) fun h1 e1 q1=>?_)
 refine wpAny_bind (wpAny_setField_rec e1 (by simp) fun h2 e2 q2=>?_)
 refine wpAny_pure ⟨_,rfl,wpAny_pure (hQ h2 ?_ (q1.trans q2))⟩;rw [e2];simp [eA,rawInt]
theorem sY{Q:Option Value->Shared->Prop}{sl:Nat}(hh:A.handled=none)(h:s.heap.get? I=some (eA (.int sl 0) i a n ep))(x:SetAt s.heap a es ep t)(hn:es.size=n)
  (hs:∀(Z:Option (Value×Nat)->Shared->Prop) (E':Value->Shared->Prop),Z none s->wpAny (model prog w) A.in1 (setNext a sl i ep) Z E' s)
  (hQ:∀h',(∀b o,b≠I->s.heap.get? b=some o->h'.get? b=some o)->Q none { s with heap:=h' }):wpAny (model prog w) A (pyNext (.ref I)) Q E s:=by
 have ty:=gs h;obtain ⟨o,ho,hx,hd,hf⟩:=id x;unfold pyNext;refine wpAny_bind (wpAny_attempt (wpAny_callSpecial?_slot (name:=Str.ofString "__next__") ty slot_it (wpAny_call_entry slot_it ty ll ?_ (iO _))));refine wpAny_bind (wpAny_pure ?_);refine wpAny_bind (wpAny_fieldsOf h rfl ?_)
 try dsimp only
 unfold setEntries;refine wpAny_bind (wpAny_bind (wpAny_setState_of ho hd hf (wpAny_pure ?_)));rw [if_neg (by rw [hn];simp)]
 simp only [Int.toNat_natCast];refine wpAny_bind (hs _ _ ?_)
 try dsimp only
 refine wpAny_bind (wpAny_setField_rec h (by simp) fun h1 e1 q1=>?_)
 refine AM hh fun h2 q2=>hQ h2 fun b o hb q=>q2 b o ?_;show h1.get? b=some o;rw [q1.2 b hb];exact q
theorem FW{Q:Option Value->Shared->Prop}{p pl:Nat}{its:Array Value}{tn:Nat}{op:Obj}{e:Int×Value}(h:s.heap.get? I=some (eA (.ref p) i a n ep))(x:SetAt s.heap a es ep t)(hn:es.size=n)
  (hp:s.heap.get? p=some op) (hp2:op.data=.seq its tn) (hi:its[i]?=some (.int pl 0)) (he:es[pl]?=some e)
  (hQ:∀h',h'.get? I=some (eA (.ref p) (i+1) a n ep)->Heap.SameBut I s.heap h'->Q (some e.2) { s with heap:=h' }):wpAny (model prog w) A (pyNext (.ref I)) Q E s:=by
 have ty:=gs h;obtain ⟨o,ho,hx,hd,hf⟩:=id x;unfold pyNext;refine wpAny_bind (wpAny_attempt (wpAny_callSpecial?_slot (name:=Str.ofString "__next__") ty slot_it (wpAny_call_entry slot_it ty ll ?_ (iO _))));refine wpAny_bind (wpAny_pure ?_);refine wpAny_bind (wpAny_fieldsOf h rfl ?_)
 try dsimp only
 unfold setEntries;refine wpAny_bind (wpAny_bind (wpAny_setState_of ho hd hf (wpAny_pure ?_)));rw [if_neg (by rw [hn];simp)]
 refine wpAny_bind (wpAny_seqItems hp hp2 ?_);simp only [Int.toNat_natCast,hi];unfold setNextDrawn;refine wpAny_bind (wpAny_bind (wpAny_setState_of ho hd hf ?_))
 try dsimp only
 rw [if_neg (by simp),he]
 refine wpAny_pure ?_;refine wpAny_bind (wpAny_setField_rec h (by simp) fun h2 e2 q2=>?_)
 refine wpAny_pure ⟨_,rfl,wpAny_pure (hQ h2 ?_ q2)⟩;rw [e2];simp [eA,rawInt]
theorem vX{Q:Option Value->Shared->Prop}{p:Nat}{its:Array Value}{tn:Nat}{op:Obj}(hh:A.handled=none)(h:s.heap.get? I=some (eA (.ref p) i a n ep))(x:SetAt s.heap a es ep t)(hn:es.size=n)
  (hp:s.heap.get? p=some op) (hp2:op.data=.seq its tn) (hi:its[i]?=none)
  (hQ:∀h',(∀b o,b≠I->s.heap.get? b=some o->h'.get? b=some o)->Q none { s with heap:=h' }):wpAny (model prog w) A (pyNext (.ref I)) Q E s:=by
 have ty:=gs h;obtain ⟨o,ho,hx,hd,hf⟩:=id x;unfold pyNext;refine wpAny_bind (wpAny_attempt (wpAny_callSpecial?_slot (name:=Str.ofString "__next__") ty slot_it (wpAny_call_entry slot_it ty ll ?_ (iO _))));refine wpAny_bind (wpAny_pure ?_);refine wpAny_bind (wpAny_fieldsOf h rfl ?_)
 try dsimp only
 unfold setEntries;refine wpAny_bind (wpAny_bind (wpAny_setState_of ho hd hf (wpAny_pure ?_)));rw [if_neg (by rw [hn];simp)]
 refine wpAny_bind (wpAny_seqItems hp hp2 ?_);simp only [Int.toNat_natCast,hi];refine wpAny_bind (wpAny_setField_rec h (by simp) fun h1 e1 q1=>?_)
 refine wpAny_bind (wpAny_setField_rec e1 (by simp) fun h3 e3 q3=>?_)
 refine AM hh fun h2 q2=>hQ h2 fun b o hb q=>q2 b o ?_;show h3.get? b=some o;rw [q3.2 b hb,q1.2 b hb];exact q
theorem sD{sl:Nat}{Z:Option (Value×Nat)->Shared->Prop}(x:SetAt s.heap a es ep t)(hw:aZ w=true)(hZ:Z (((pickOrder (w.params.setOrder a ep) es)[i]?).map fun e=>(e.2,sl)) s):wpAny (model prog w) A (setNext a sl i ep) Z E s:=by
 obtain ⟨o,ho,hx,hd,hf⟩:=id x;have hw':(model prog w).w.params.followText "set-order"=true:=hw;unfold setNext;refine wpAny_bind (wpAny_setState_of ho hd hf ?_);unfold setsByText;refine wpAny_bind (wpAny_bind (wpAny_askSetting (wpAny_pure ?_)))
 try dsimp only
 rw [if_pos hw',if_neg (by simp)]
 unfold setWalk;refine wpAny_bind (wpAny_bind (wpAny_setState_of ho hd hf ?_));unfold setsByText;refine wpAny_bind (wpAny_bind (wpAny_askSetting (wpAny_pure ?_)))
 try dsimp only
 rw [if_pos hw'];exact wpAny_bind (wpAny_askSetting (wpAny_pure (wpAny_pure hZ)))
theorem qh{sl:Nat}{Z:Option (Value×Nat)->Shared->Prop}(x:SetAt s.heap a es ep t)(hw:aZ w=false)(hl:t.led=true)(hp:t.plain=true\/es.size<=1)
  (hZ:Z (match es[SetTable.below t.place sl]?,t.place[SetTable.below t.place sl]? with|some (_,x),some j=>some (x,j+1)|_,_=>none) s):wpAny (model prog w) A (setNext a sl i ep) Z E s:=by
 obtain ⟨o,ho,hx,hd,hf⟩:=id x;have hw':¬(model prog w).w.params.followText "set-order"=true:=by rw [show (model prog w).w.params.followText "set-order"=false from hw];simp
 unfold setNext;refine wpAny_bind (wpAny_setState_of ho hd hf ?_);unfold setsByText;refine wpAny_bind (wpAny_bind (wpAny_askSetting (wpAny_pure ?_)))
 try dsimp only
 rw [if_neg hw'];refine wpAny_ite_split (fun hb=>?_) (fun _=>?_)
 ·have hb':(!t.plain&&decide (es.size>1))=true:=hb
  rw [Bool.and_eq_true] at hb';rcases hp with z|z
  ·rw [z] at hb';simp at hb'
  ·have:=of_decide_eq_true hb'.2;omega
 ·show wpAny _ _ ((if (!t.led&&!es.isEmpty)=true then unsupported "set:maker-not-led" else pure ()) >>= _) _ _ s
  rw [if_neg (by rw [hl];simp)]
  exact wpAny_bind (wpAny_pure (wpAny_pure hZ))
end
end LS
namespace LS
open PySem
section
variable {prog:Program}{w:World}{A:Around}{E:Value->Shared->Prop}{s:Shared}{I a:Addr}{ep:Nat}{es:Array (Int×Value)}{t:SetTable}
theorem o6(hh:A.handled=none)(hne:a≠I)(ord:List Value)(hn:es.size=ord.length)(sl:Nat->Nat)
  (hs:∀(A:Around) (i:Nat) (s:Shared) (Z:Option (Value×Nat)->Shared->Prop) (E:Value->Shared->Prop),i<=ord.length->SetAt s.heap a es ep t->Z ((ord[i]?).map fun v=>(v,sl (i+1))) s->wpAny (model prog w) A (setNext a (sl i) i ep) Z E s):
  Walks prog w A I [I,a] [I] ord.length (fun i v=>ord[i]?=some v) (fun i h=>h.get? I=some (eA (.int (sl i) 0) i a ord.length ep)/\SetAt h a es ep t) where
 sub:=fun b hb=>by simp at hb;simp [hb]
 frame:=fun i h h' st k=>⟨k I (by simp) _ st.1,st.2.keep fun o q=>k a (by simp) o q⟩
 item:=fun i s Q E hi st hQ=>by
  have hv:ord[i]?=some ord[i]:=List.getElem?_eq_getElem hi;refine C8 (v:=ord[i]) (nx:=sl (i+1)) st.1 st.2 hn (fun Z E' z=>hs _ i s Z E' (Nat.le_of_lt hi) st.2 (by rw [hv];exact z)) fun h' e q=>?_
  exact hQ _ h' s.toks hv ⟨e,st.2.keep fun o z=>by rw [q.2 a hne];exact z⟩ fun b o hb z=>by rw [q.2 b (by simpa using hb)];exact z
 done:=fun s Q E st hQ=>by
  refine sY hh st.1 st.2 hn (fun Z E' z=>hs _ _ s Z E' (Nat.le_refl _) st.2 (by rw [List.getElem?_eq_none (Nat.le_refl _)];exact z)) fun h' k=>?_
  exact hQ h' s.toks fun b o hb z=>k b o (by simpa using hb) z
 self:=fun i s Q E st hQ=>rH st.1 hQ
theorem Am{p:Addr}(hh:A.handled=none)(hne:a≠I)(hpI:p≠I)(ps:List Nat)(ord:List Value)(hn:es.size=ord.length)(hl:ps.length=ord.length)(ho:∀(i:Nat) (v:Value),ord[i]?=some v->∃(q:Nat) (e:Int×Value),ps[i]?=some q/\es[q]?=some e/\e.2=v):
  Walks prog w A I [I,a,p] [I] ord.length (fun i v=>ord[i]?=some v) (fun i h=>h.get? I=some (eA (.ref p) i a ord.length ep)/\SetAt h a es ep t/\∃o n,h.get? p=some o/\o.data=.seq (ps.map fun (i:Nat)=>Value.int i 0).toArray n) where
 sub:=fun b hb=>by simp at hb;simp [hb]
 frame:=fun i h h' st k=>⟨k I (by simp) _ st.1,st.2.1.keep fun o q=>k a (by simp) o q,let ⟨o,n,q,d⟩:=st.2.2;⟨o,n,k p (by simp) _ q,d⟩⟩
 item:=fun i s Q E hi st hQ=>by
  have hv:ord[i]?=some ord[i]:=List.getElem?_eq_getElem hi;obtain ⟨q,e,h1,h2,h3⟩:=ho i _ hv;obtain ⟨o,m,h4,h5⟩:=st.2.2;refine FW (pl:=q) (e:=e) st.1 st.2.1 hn h4 h5 (by simp [h1]) h2 fun h' e' z=>?_
  rw [h3];refine hQ _ h' s.toks hv ⟨e',st.2.1.keep fun o y=>by rw [z.2 a hne];exact y,o,m,by rw [z.2 p hpI];exact h4,h5⟩ fun b o hb y=>by rw [z.2 b (by simpa using hb)];exact y
 done:=fun s Q E st hQ=>by
  obtain ⟨o,m,h4,h5⟩:=st.2.2;refine vX hh st.1 st.2.1 hn h4 h5 (by simp [hl]) fun h' k=>?_
  exact hQ h' s.toks fun b o hb z=>k b o (by simpa using hb) z
 self:=fun i s Q E st hQ=>rH st.1 hQ
def Src(prog:Program)(w:World)(A:Around)(n0:Nat)(a I:Addr)(ord:List Value)(h:Heap):Prop:=
 ∃(fp:List Addr) (St:Nat->Heap->Prop),(∀b∈fp,b=a\/n0<=b)/\Walks prog w A I fp [I] ord.length (fun i v=>ord[i]?=some v) St/\St 0 h
theorem uv{Q:Value->Shared->Prop}(x:SetAt s.heap a es ep t)(hl:t.led=!aZ w)(hp:Pl t)(hz:es.size<=sizeLine)
  (hQ:∀(h':Heap) (d':Drawn) (I:Addr) (ord:List Value),(∀b o,s.heap.get? b=some o->h'.get? b=some o)->ord.Perm (es.toList.map (·.2))->(∀A':Around,A'.handled=none->Src prog w A' s.heap.objs.size a I ord h')->s.heap.objs.size<=I->Q (.ref I) { s with heap:=h',drawn:=d' }):
  wpAny (model prog w) A (pyIter (.ref a)) Q E s:=by
 obtain ⟨o,ho,hx,hd,hf⟩:=id x;have ty:s.TypeIs (.ref a) "set":=⟨_,ho,hx.1⟩;refine wpAny_pyIter_slot ty F.slot_set_iter (wpAny_call_entry F.slot_set_iter ty ub ?_ (F.args_set_iter_1 _));unfold Builtin.«frozenset.__iter__» Builtin.Frozenset.slot0;refine wpAny_bind (wpAny_bind (wpAny_pure (wpAny_pure ?_)));unfold Builtin.Frozenset.sizeOf setEntries;refine wpAny_bind (wpAny_bind (wpAny_bind (wpAny_setState_of ho hd hf (wpAny_pure (wpAny_pure ?_)))));unfold setDrawn;refine wpAny_bind (wpAny_bind (wpAny_setState_of ho hd hf ?_));unfold setsByText;refine wpAny_bind (wpAny_bind (wpAny_askSetting (wpAny_pure (wpAny_pure ?_))));show wpAny _ _ (if (!aZ w&&(!t.plain&&decide (es.size>1)))=true then _ else _) _ _ s
 have len:es.toList.length=es.size:=Array.length_toList
 by_cases c:(!aZ w&&(!t.plain&&decide (es.size>1)))=true
 ·rw [if_pos c]
  refine wpAny_bind (my es.size (List.range es.size) s _ (by simp) fun r d' hr=>?_)
  have hrl:r.length=es.size:=by rw [hr.length_eq];simp
  refine wpAny_bind (wpAny_newTuple ?_ (by rw [List.length_map,hrl];exact hz))
  have ho1:(s.heap.push { cls:=.type "tuple",data:=.seq (r.map fun (i:Nat)=>rawInt i).toArray }).get? a=some o:=Heap.get?_push_of_some _ ho;unfold setEpoch;refine wpAny_bind (wpAny_bind (wpAny_setState_of (s:={ s with heap:=s.heap.push { cls:=.type "tuple",data:=.seq (r.map fun (i:Nat)=>rawInt i).toArray },drawn:=d' }) ho1 hd hf (wpAny_pure ?_)));refine wpAny_bind (wpAny_newObj_type (wpAny_pure ⟨_,rfl,"set_iterator",_,⟨_,Heap.get?_push_size _ rfl,rfl⟩,slot_it.lookup,?_⟩) (by size_fits))
  have lt:=Heap.lt_size ho;have hord:((r.map fun q=>es[q]?.getD (0,.none)).map (·.2)).length=es.size:=by simp [hrl]
  have sz:∀o:Obj,(s.heap.push o).objs.size=s.heap.objs.size+1:=fun o=>Heap.size_push ..;refine hQ _ d' _ ((r.map fun q=>es[q]?.getD (0,.none)).map (·.2)) (fun b o q=>Heap.get?_push_of_some _ (Heap.get?_push_of_some _ q)) ?_ (fun A' hh=>?_) (by dsimp only;rw [sz];exact Nat.le_succ _)
  ·refine ((hr.map _).map _).trans ?_
   have:(List.range es.size).map (fun q=>es[q]?.getD (0,.none))=es.toList:=by
    refine List.ext_getElem (by simp) fun i h1 h2=>?_
    simp at h1 ⊢;simp [h1]
   rw [this]
  ·refine ⟨_,_,?_,Am (es:=es) (ep:=ep) (t:=t) (p:=s.heap.objs.size) hh (by dsimp only;rw [sz];exact Nat.ne_of_lt (Nat.lt_succ_of_lt lt)) (by dsimp only;rw [sz];exact Nat.ne_of_lt (Nat.lt_succ_self _)) r _ hord.symm (by rw [hord,hrl]) ?_,?_,?_,?_⟩
   ·intro b hb;simp at hb;rcases hb with z|z|z
    ·right;rw [z];exact Nat.le_succ _
    ·left;exact z
    ·right;rw [z];exact Nat.le_refl _
   ·intro i v q
    rw [List.map_map,List.getElem?_map] at q;cases hq:r[i]? with
    |none=>rw [hq] at q;cases q
    |some j=>
     rw [hq] at q;have hj:j<es.size:=by have:=(hr.mem_iff (a:=j)).mp (List.mem_of_getElem? hq);simpa using this
     refine ⟨j,es[j],rfl,by simp [hj],?_⟩
     simpa [hj] using q
   ·rw [hord];exact Heap.get?_push_size _ rfl
   ·exact x.keep fun o q=>Heap.get?_push_of_some _ (Heap.get?_push_of_some _ q)
   ·exact ⟨_,0,Heap.get?_push_of_some _ (Heap.get?_push_size _ rfl),rfl⟩
 ·rw [if_neg c]
  refine wpAny_bind (wpAny_pure ?_);unfold setEpoch;refine wpAny_bind (wpAny_bind (wpAny_setState_of ho hd hf (wpAny_pure ?_)));refine wpAny_bind (wpAny_newObj_type (wpAny_pure ⟨_,rfl,"set_iterator",_,⟨_,Heap.get?_push_size _ rfl,rfl⟩,slot_it.lookup,?_⟩) (by size_fits))
  have lt:=Heap.lt_size ho;cases hb:aZ w with
  |true=>
   refine hQ _ s.drawn s.heap.objs.size ((pickOrder (w.params.setOrder a ep) es).toList.map (·.2)) (fun b o q=>Heap.get?_push_of_some _ q) ((ky _ es).map _) (fun A' hh=>?_) (Nat.le_refl _);have hn:es.size=((pickOrder (w.params.setOrder a ep) es).toList.map (·.2)).length:=by rw [List.length_map,(ky _ es).length_eq,len]
   refine ⟨_,_,?_,o6 (es:=es) (ep:=ep) (t:=t) hh (Nat.ne_of_lt lt) _ hn (fun _=>0) fun A i s Z E hi y z=>sD y hb (by rw [List.getElem?_map,Array.getElem?_toList,Option.map_map] at z;exact z),?_,x.keep fun o q=>Heap.get?_push_of_some _ q⟩
   ·intro b hb;simp at hb;rcases hb with z|z
    ·right;rw [z];exact Nat.le_refl _
    ·left;exact z
   ·rw [<- hn];exact Heap.get?_push_size _ rfl
  |false=>
   have hle:t.plain=true\/es.size<=1:=by
    cases z:t.plain with
    |true=>exact .inl rfl
    |false=>rw [hb,z] at c;simp at c;exact .inr c
   have hps:t.place.size=es.size:=by
    have:=hf;unfold SetTable.fits at this;simp at this;exact this.1
   rw [hb] at hl;refine hQ _ s.drawn s.heap.objs.size (es.toList.map (·.2)) (fun b o q=>Heap.get?_push_of_some _ q) (List.Perm.refl _) (fun A' hh=>?_) (Nat.le_refl _);have hn:es.size=(es.toList.map (·.2)).length:=by simp
   refine ⟨_,_,?_,o6 (es:=es) (ep:=ep) (t:=t) hh (Nat.ne_of_lt lt) _ hn (fun i=>if i=0 then 0 else t.place.getD (i-1) 0+1) fun A i s Z E hi y z=>qh y hb hl hle ?_,?_,x.keep fun o q=>Heap.get?_push_of_some _ q⟩
   ·intro b hb;simp at hb;rcases hb with z|z
    ·right;rw [z];exact Nat.le_refl _
    ·left;exact z
   ·rw [<- hn] at hi
    have rs:Rs t.place:=by
     rcases hle with k|k
     ·exact (hp k).1
     ·unfold Rs
      match t.place,(by rw [hps];exact k:t.place.size<=1) with
      |⟨[]⟩,_=>exact List.Pairwise.nil
      |⟨[q]⟩,_=>exact List.pairwise_singleton ..
      |⟨_::_::_⟩,q=>simp at q
    have hb:SetTable.below t.place (if i=0 then 0 else t.place.getD (i-1) 0+1)=i:=by
     by_cases z:i=0
     ·rw [if_pos z,z];exact nY rs
     ·rw [if_neg z]
      have h1:i-1<t.place.size:=by lia
      have:t.place.getD (i-1) 0=t.place[i-1]:=by simp [Array.getD,h1]
      rw [this,pC rs h1];lia
    rw [hb];rcases Nat.lt_or_ge i es.size with k|k
    ·have k2:i<t.place.size:=by lia
     simpa [k,k2] using z
    ·have k2:t.place.size<=i:=by lia
     simpa [k,k2] using z
   ·rw [<- hn];exact Heap.get?_push_size _ rfl
end
end LS
namespace LS
open PySem PySem.W PySem.Calls PyProof.Rows PyProof.V PySem.Spec
theorem yC:typeLookup (.type "set") "__len__"=pure (some (.builtin "set.__len__")):=by rw [typeLookup_type];rw [builtinLookup_eq_fast];kernel_rfl
section
variable {prog:Program}{w:World}{A:Around}{E:Value->Shared->Prop}{s:Shared}{a:Addr}{ep:Nat}{es:Array (Int×Value)}{t:SetTable}
theorem vT{Q:Bool->Shared->Prop}(ty:s.TypeIs (.ref a) "set")(h:Q false s):wpAny (model prog w) A (Builtin.List.listLengthHint (.ref a)) Q E s:=by
 unfold Builtin.List.listLengthHint;refine wpAny_bind (wpAny_specialOf ty yC ?_);generalize hi:("set.__len__":String)=id1
 wp_delta
 rw [show splitId id1=some ("set","__len__") by subst hi;decide +kernel]
 subst hi;refine wpAny_bind (wpAny_isInstance (T:="set") (b:=true) ty sub_set_self ?_);refine wpAny_ite_split (fun z=>absurd z (by decide)) fun _=>wpAny_ite_split (fun _=>?_) fun z=>absurd (by decide +kernel) z
 exact wpAny_bind (wpAny_typeOf ty (wpAny_pure h))
theorem oX{R:Result->Shared->Prop}{S:Addr}{res:Value}(hh:A.handled=none)(x:SetAt s.heap a es ep t)(hl:t.led=!aZ w)(hp:Pl t)(hz:es.size<=sizeLine)(hSa:S≠a)
  (hS:s.heap.get? S=some { cls:=.type "list",data:=.seq #[] 0 })
  (hR:∀h' tk d' (acc:Array Value) c,(∀b o,b≠S->s.heap.get? b=some o->h'.get? b=some o)->h'.get? S=some { cls:=.type "list",dict:=none,data:=.seq acc c,slots:=#[] }->acc.toList.Perm (es.toList.map (·.2))->
   R (.ok (.ret res)) { s with heap:=h',toks:=tk,drawn:=d' }):
  wpAny (model prog w) A.in1 (Builtin.List.listExtendWith (.ref S) (.ref a) res) (fun fin s'=>match fin with|.done f=>R (.ok f) s'|.again c'=>c'.quiet=true/\codeAny (model prog w) A c' R s') (fun e s'=>R (.error e) s') s:=by
 obtain ⟨o,ho,hx,hd,hf⟩:=id x;have ty:s.TypeIs (.ref a) "set":=⟨_,ho,hx.1⟩;unfold Builtin.List.listExtendWith;refine wpAny_bind (wpAny_typeOf ty ?_);have e1:Builtin.List.listSameRef (.ref S) (.ref a)=false:=by simp [Builtin.List.listSameRef,hSa]
 have e2:(Value.type "set"==Value.type "list")=false:=by decide
 have e3:(Value.type "set"==Value.type "tuple")=false:=by decide
 simp only [e1,e2,e3,Bool.or_false,Bool.false_eq_true,if_false];refine wpAny_bind (uv x hl hp hz fun h1 d1 I ord k1 pr src hI=>?_);have n0:=Heap.lt_size hS;have hS1:=k1 S _ hS;have ho1:=k1 a _ ho;refine wpAny_bind (wpAny_holding (vT ⟨_,ho1,hx.1⟩ ?_));obtain ⟨fp,St,hfp,W,st⟩:=src A.in1 (by simpa using hh)
 have hSf:S∉fp:=fun z=>by rcases hfp S z with y|y;exact hSa y;exact absurd n0 (Nat.not_lt.mpr y)
 have hSI:S≠I:=Nat.ne_of_lt (Nat.lt_of_lt_of_le n0 hI);have hol:ord.length<=sizeLine:=by rw [pr.length_eq];simpa using hz
 have key:∀(h:Heap) (c1 tk:Nat),St 0 h->(∀b o,b≠S->s.heap.get? b=some o->h.get? b=some o)->h.get? S=some { cls:=.type "list",data:=.seq #[] c1 }->
   codeAny (model prog w) A (.builtin "list.extend.loop" ⟨[.ref S,.ref I,res],[]⟩) R { s with heap:=h,toks:=tk,drawn:=d1 }:=by
  intro h c1 tk st' k hS';refine codeAny_extend_loopS W.toS hol S hSf res ord.length 0 _ #[] c1 rfl (Nat.zero_le _) st' hS' (ItemsOf.nil _) fun s2 acc c2 mv at2 its=>?_;rw [Moved.eq_with mv];refine hR s2.heap s2.toks d1 acc c2 (fun b o hb q=>mv.heap b o (fun z=>?_) (k b o hb q)) at2 ?_
  ·rcases List.mem_cons.mp z with y|y
   ·exact hb y
   ·rw [List.mem_singleton] at y
    exact absurd (Heap.lt_size q) (by rw [y];exact Nat.not_lt.mpr hI)
  ·have:acc.toList=ord:=by
    refine List.ext_getElem? fun i=>?_;rcases Nat.lt_or_ge i ord.length with z|z
    ·have hv:acc[i]?=some (acc[i]'(by rw [its.1];exact z)):=Array.getElem?_eq_getElem _
     rw [Array.getElem?_toList,hv];exact (its.2 i _ hv).symm
    ·rw [List.getElem?_eq_none (by rw [Array.length_toList,its.1];exact z),List.getElem?_eq_none z]
   rw [this];exact pr
 refine wpAny_ite_split (fun y=>?_) fun _=>wpAny_pure ⟨plainId_quiet PySem.F.plain_extend_loop _,key _ _ _ st (fun b o _ q=>k1 b o q) hS1⟩;refine wpAny_bind (wpAny_rule (wpAny_bind ?_));show wpAny _ _ (updateSeq S (fun q=>q.push .none) >>= fun _=>updateSeq S (fun q=>q.pop)) _ _ _;refine wpAny_bind (wpAny_updateSeq hS1 rfl ?_);have hS2:=Heap.get?_update_self (Obj.mapSeq (fun q=>q.push Value.none)) hS1 rfl;refine wpAny_updateSeq (hz:=by seq_fits) hS2 rfl ?_
 have hS3:=Heap.get?_update_self (Obj.mapSeq (fun q=>q.pop)) hS2 rfl;have oth:∀b o,b≠S->h1.get? b=some o->((h1.update S (Obj.mapSeq (fun q=>q.push Value.none))).update S (Obj.mapSeq (fun q=>q.pop))).get? b=some o:=fun b o hb q=>by
  rw [Heap.get?_update_other _ _ (Ne.symm hb),Heap.get?_update_other _ _ (Ne.symm hb)];exact q
 exact wpAny_pure ⟨plainId_quiet PySem.F.plain_extend_loop _,key _ _ _ (W.frame 0 _ _ st fun b hb o q=>oth b o (fun z=>hSf (z▸hb)) q) (fun b o hb q=>oth b o hb (k1 b o q)) hS3⟩
theorem ip{R:List Value->Shared->Prop}(hh:A.handled=none)(x:SetAt s.heap a es ep t)(hl:t.led=!aZ w)(hp:Pl t)(hz:es.size<=sizeLine)
  (h:∀h' tk d' (acc:List Value),(∀b o,s.heap.get? b=some o->h'.get? b=some o)->s.heap.objs.size<h'.objs.size->acc.Perm (es.toList.map (·.2))->R acc { s with heap:=h',toks:=tk,drawn:=d' }):
  wpAny (model prog w) A (collect (.ref a)) R E s:=by
 obtain ⟨o,ho,_⟩:=id x;have lt:=Heap.lt_size ho;unfold collect;refine wpAny_bind (wpAny_runValue (codeAny_builtin entry_proto_collect' ?_));rw [Around.under_plainId (PySem.F.plain_proto_collect) _];show wpAny _ A.in1 (newList [] >>= fun l=>again (.builtin "list.__iadd__" ⟨[l,.ref a],[]⟩)) _ _ _;refine wpAny_bind (wpAny_newObj_type (wpAny_pure ⟨plainId_quiet PySem.F.plain_list_iadd _,codeAny_builtin entry_list_iadd' ?_⟩));rw [Around.under_plainId (PySem.F.plain_list_iadd) _]
 refine wpAny_mono (oX (A:=A) (S:=s.heap.objs.size) (res:=.ref s.heap.objs.size) (R:=fun q s'=>∃h' tk d' acc c,q=.ok (.ret (.ref s.heap.objs.size))/\s'={ s with heap:=h',toks:=tk,drawn:=d' }/\(∀b o,s.heap.get? b=some o->h'.get? b=some o)/\
   h'.get? s.heap.objs.size=some { cls:=.type "list",dict:=none,data:=.seq acc c,slots:=#[] }/\acc.toList.Perm (es.toList.map (·.2))) hh (x.keep fun o q=>Heap.get?_push_of_some _ q) hl hp hz (Nat.ne_of_gt lt) (Heap.get?_push_size _ rfl)
   fun h' tk d' acc c k at1 pr=>⟨h',tk,d',acc,c,rfl,rfl,fun b o q=>k b o (Nat.ne_of_lt (Heap.lt_size q)) (Heap.get?_push_of_some _ q),at1,pr⟩) (fun fin s' y=>?_) fun e s' y=>?_
 ·cases fin with
  |done f=>
   obtain ⟨h',tk,d',acc,c,e,rfl,k,at1,pr⟩:=y;cases e;exact wpAny_bind (wpAny_load at1 (wpAny_pure (h h' tk d' _ k (Heap.lt_size at1) pr)))
  |again c1=>
   refine ⟨y.1,codeAny_mono y.2 fun q s2 y=>?_⟩;obtain ⟨h',tk,d',acc,c,rfl,rfl,k,at1,pr⟩:=y;exact wpAny_bind (wpAny_load at1 (wpAny_pure (h h' tk d' _ k (Heap.lt_size at1) pr)))
 ·obtain ⟨_,_,_,_,_,e',_⟩:=y
  cases e'
end
end LS
namespace LS
open PySem
theorem ib{K:Type}[DecidableEq K]:∀(l m:List K),l.Nodup->(∀x∈l,x∈m)->m.length=l.length->m.Perm l
 |[],m,_,_,e=>by rw [List.length_eq_zero_iff.mp e]
 |x::l,m,nd,sb,e=>by
  have hx:=sb x (by simp)
  rw [List.nodup_cons] at nd;refine (List.perm_cons_erase hx).trans (List.Perm.cons x (ib l _ nd.2 (fun y hy=>?_) (by rw [List.length_erase_of_mem hx,e];simp)))
  exact (List.mem_erase_of_ne (fun z:y=x=>nd.1 (by rw [<- z];exact hy))).mpr (sb y (by simp [hy]))
theorem e_{K:Type}[DecidableEq K]:∀(ks l:List K) (k:K),k∈cw l ks↔k∈l\/k∈ks
 |[],l,k=>by simp [cw]
 |x::r,l,k=>by
  rw [cw,e_ r]
  by_cases h:x∈l
  ·rw [if_pos h,List.mem_cons]
   constructor
   ·exact fun z=>z.imp id .inr
   ·rintro (z|rfl|z)
    ·exact .inl z
    ·exact .inl h
    ·exact .inr z
  ·rw [if_neg h];simp [or_assoc]
section
variable {prog:Program}{w:World}{A:Around}{E:Value->Shared->Prop}{s:Shared}{a:Addr}
theorem p5{l:List Str}{Q:Value->Shared->Prop}(hh:A.handled=none)(H:Holds (strKind prog w) s.heap a (!aZ w) l)(h64:l.length<64)
  (h:∀h' tk d' L (out:Array Value) ss e,(∀b o,s.heap.get? b=some o->h'.get? b=some o)->s.heap.objs.size<=L->h'.get? L=some (PyProof.Rows.seqObj "list" out e)->PyProof.Rows.StrsAre out.toList ss->ss.Perm l->PyProof.Rows.sortedS ss=true->
   Q (.ref L) { s with heap:=h',toks:=tk,drawn:=d' }):wpAny (model prog w) A (call (.builtin "sorted") [.ref a]) Q E s:=by
 obtain ⟨⟨o,es,ep,t,ho,hx,hd,hel,hm,hsz,hf,hle,hpl⟩,nd,few⟩:=H;have vals:∀v,v∈es.toList.map (·.2)->∃x u,v=Value.str x u:=fun v hv=>by
  obtain ⟨e,he,rfl⟩:=List.mem_map.mp hv;obtain ⟨⟨k,hk,_⟩,_⟩:=hel e he;obtain ⟨u,z⟩:=Value.isStrOf_shape hk;exact ⟨k,u,z⟩
 have pk:(es.toList.map fun e=>PyProof.Rows.strOf e.2).Perm l:=by
  refine ib l _ nd (fun x hx'=>?_) (by simp [hsz])
  obtain ⟨e,he,z⟩:=(hm x).mp hx';obtain ⟨u,q⟩:=Value.isStrOf_shape z;exact List.mem_map.mpr ⟨e,he,by rw [q];rfl⟩
 refine Calls.call_function_entry PyProof.Rows.kind_sorted PyProof.Rows.plain_sorted PyProof.Rows.entry_sorted (PyProof.Rows.args_sorted1 _) ?_;unfold Builtin.«sorted»;refine wpAny_bind (m:=checkCount "sorted" 1 1 _) (wpAny_pure (wpAny_bind ?_));refine ip (A:=A.in1) (by simpa using hh) ⟨o,ho,hx,hd,hf⟩ hle hpl (by rw [hsz];exact Nat.le_trans (Nat.le_of_lt h64) (by decide)) fun h1 tk d1 acc k1 sz pr=>?_
 have sa:=PyProof.Rows.strsAre_map acc fun v hv=>vals v (pr.mem_iff.mp hv);have al:acc.length=l.length:=by rw [pr.length_eq];simp [hsz]
 refine wpAny_bind (wpAny_newList ?_ (by rw [al];exact Nat.le_trans (Nat.le_of_lt h64) (by decide)))
 have hoL:(h1.push (PyProof.Rows.seqObj "list" acc.toArray 0)).get? h1.objs.size=some (PyProof.Rows.seqObj "list" acc.toArray 0):=Heap.get?_push_size _ rfl;have lt:∀b o,s.heap.get? b=some o->b<h1.objs.size:=fun b o q=>Heap.lt_size (k1 b o q);refine wpAny_bind (wpAny_holding (wpAny_call_entry PyProof.Rows.slot_list_sort ⟨_,hoL,rfl⟩ PyProof.Rows.entry_list_sort (PyProof.Rows.list_sort_treeK PyProof.Rows.strKind_oneLt hoL sa.keysOf (fun v1 v2 r e=>PyProof.Rows.keyKind_strs (by rw [<- e];exact sa)) (by lia) fun st p1 p2=>⟨_,rfl,?_⟩) (PyProof.Rows.args_list_sort _)))
 obtain ⟨ss,q1,q2,q3⟩:=PyProof.Rows.sorted_out_str sa p1 p2;obtain ⟨e,he⟩:=PyProof.Rows.sortedHeap_at (vs:=acc) (out:=(PyProof.Rows.arrOf st).map (·.2)) hoL;refine wpAny_pure ⟨_,rfl,h _ tk d1 _ _ ss e (fun b o q=>?_) (Nat.le_of_lt sz) he q1 (q2.trans ?_) q3⟩
 ·rw [PyProof.Rows.sortedHeap_old (Nat.ne_of_lt (lt b o q)) (by rw [PyProof.Rows.size_push'];exact Nat.lt_succ_of_lt (lt b o q))]
  exact Heap.get?_push_of_some _ (k1 b o q)
 ·refine (pr.map PyProof.Rows.strOf).trans ?_
  rw [List.map_map];exact pk
end
end LS
namespace LS
open PySem
structure Ord(K:Type) where
 lt:K->K->Bool
 anti:∀x y,lt x y=false->lt y x=false->x=y
 tr:∀x y z,lt y x=false->lt z y=false->lt z x=false
 asym:∀x y,lt x y=true->lt y x=false
section
variable {K:Type}[DecidableEq K](o:Ord K)
abbrev qE(l:List K):Prop:=l.Pairwise fun a b=>o.lt b a=false
def ins(x:K):List K->List K
 |[]=>[x]
 |y::r=>if o.lt y x=true then y::ins x r else x::y::r
def xk:List K->List K
 |[]=>[]
 |x::r=>ins o x (xk r)
theorem jB(x:K):∀l:List K,(ins o x l).Perm (x::l)
 |[]=>List.Perm.refl _
 |y::r=>by
  unfold ins
  by_cases h:o.lt y x=true
  ·rw [if_pos h];exact (List.Perm.cons y (jB x r)).trans (List.Perm.swap ..)
  ·rw [if_neg h]
theorem cL:∀l:List K,(xk o l).Perm l
 |[]=>List.Perm.refl _
 |x::r=>(jB o x _).trans (List.Perm.cons x (cL r))
theorem qZ(x:K):∀l:List K,qE o l->qE o (ins o x l)
 |[],_=>by simp [ins,qE]
 |y::r,h=>by
  unfold ins;have hc:=List.pairwise_cons.mp h
  by_cases c:o.lt y x=true
  ·rw [if_pos c]
   refine List.pairwise_cons.mpr ⟨fun z hz=>?_,qZ x r hc.2⟩;rcases List.mem_cons.mp ((jB o x r).mem_iff.mp hz) with rfl|q
   ·exact o.asym _ _ c
   ·exact hc.1 z q
  ·rw [if_neg c]
   have c':o.lt y x=false:=by simpa using c
   refine List.pairwise_cons.mpr ⟨fun z hz=>?_,h⟩;rcases List.mem_cons.mp hz with rfl|q
   ·exact c'
   ·exact o.tr _ _ _ c' (hc.1 z q)
theorem iX:∀l:List K,qE o (xk o l)
 |[]=>List.Pairwise.nil
 |x::r=>qZ o x _ (iX r)
theorem pL:∀(a b:List K),qE o a->qE o b->a.Perm b->a=b
 |[],b,_,_,p=>by rw [p.symm.eq_nil]
 |x::a,b,ha,hb,p=>by
  cases b with
  |nil=>have:=p.eq_nil;cases this
  |cons y b=>
   have pa:=List.pairwise_cons.mp ha;have pb:=List.pairwise_cons.mp hb;have e:x=y:=by
    rcases List.mem_cons.mp (p.mem_iff.mp (List.mem_cons_self ..)) with e|hx
    ·exact e
    ·rcases List.mem_cons.mp (p.symm.mem_iff.mp (List.mem_cons_self ..)) with e|hy
     ·exact e.symm
     ·exact o.anti _ _ (pb.1 x hx) (pa.1 y hy)
   subst e;rw [pL a b pa.2 pb.2 (List.Perm.cons_inv p)]
theorem Cd{a l:List K}(ha:qE o a)(p:a.Perm l):a=xk o l:=pL o _ _ ha (iX o l) (p.trans (cL o l).symm)
def d_(l:List K):List K:=cw [] (xk o l)
theorem gb:∀(r l:List K),l.Nodup->(cw l r).Nodup
 |[],l,h=>h
 |x::r,l,h=>by
  unfold cw;refine gb r _ ?_
  by_cases c:x∈l
  ·rw [if_pos c];exact h
  ·rw [if_neg c]
   exact List.nodup_append.mpr ⟨h,by simp,fun y hy z hz=>by rw [List.mem_singleton] at hz;subst hz;rintro rfl;exact c hy⟩
theorem mW:∀(r l:List K),qE o (l++r)->qE o (cw l r)
 |[],l,h=>by rw [List.append_nil] at h;exact h
 |x::r,l,h=>by
  unfold cw;refine mW r _ ?_
  by_cases c:x∈l
  ·rw [if_pos c]
   exact List.Pairwise.sublist (List.Sublist.append_left (List.sublist_cons_self x r) l) h
  ·rw [if_neg c,List.append_assoc];exact h
theorem ld:∀(a b:List K),a.Nodup->b.Nodup->(∀x,x∈a↔x∈b)->a.Perm b
 |[],b,_,_,m=>by
  cases b with
  |nil=>exact List.Perm.refl _
  |cons y b=>exact absurd ((m y).mpr (by simp)) (by simp)
 |x::a,b,na,nb,m=>by
  have hx:=(m x).mp (by simp)
  rw [List.nodup_cons] at na;refine (List.Perm.cons x (ld a (b.erase x) na.2 (nb.erase x) fun y=>?_)).trans (List.perm_cons_erase hx).symm;rw [nb.mem_erase_iff];constructor
  ·exact fun hy=>⟨fun e=>na.1 (e▸hy),(m y).mp (by simp [hy])⟩
  ·rintro ⟨e,hy⟩
   rcases List.mem_cons.mp ((m y).mpr hy) with z|z
   ·exact absurd z e
   ·exact z
theorem lg{a l:List K}(ha:qE o a)(p:a.Perm (cw [] l)):a=d_ o l:=by
 refine pL o _ _ ha (mW o _ _ (by simpa using iX o l)) ?_
 refine ld _ _ (p.symm.nodup (gb l [] List.nodup_nil)) (gb _ [] List.nodup_nil) fun x=>?_;unfold d_;rw [p.mem_iff,e_,e_,(cL o l).mem_iff]
end
open PySem.Spec in
theorem rK:∀a b:List Nat,ltCps a b=true->ltCps b a=false
 |[],[],h=>by simp [ltCps] at h
 |[],_::_,_=>by simp [ltCps]
 |_::_,[],h=>by simp [ltCps] at h
 |x::a,y::b,h=>by
  have ih:=rK a b;simp only [ltCps,Bool.or_eq_true,Bool.and_eq_true,decide_eq_true_eq,beq_iff_eq,Bool.or_eq_false_iff,Bool.and_eq_false_iff,decide_eq_false_iff_not,beq_eq_false_iff_ne] at h ⊢;rcases h with h|⟨h,q⟩
  ·exact ⟨by lia,.inl (by lia)⟩
  ·exact ⟨by lia,.inr (ih q)⟩
open PySem.Spec in
theorem qC:∀a b:List Nat,ltCps a b=false->ltCps b a=false->a=b
 |[],[],_,_=>rfl
 |[],_::_,h,_=>by simp [ltCps] at h
 |_::_,[],_,h=>by simp [ltCps] at h
 |x::a,y::b,h,g=>by
  have ih:=qC a b;simp only [ltCps,Bool.or_eq_false_iff,Bool.and_eq_false_iff,decide_eq_false_iff_not,beq_eq_false_iff_ne] at h g;obtain rfl:x=y:=by lia
  rw [ih (h.2.resolve_left (fun z=>z rfl)) (g.2.resolve_left (fun z=>z rfl))]
open PySem.Spec in
theorem AS:∀a b c:List Nat,ltCps b a=false->ltCps c b=false->ltCps c a=false
 |[],_,[],_,_=>by simp [ltCps]
 |[],_,_::_,_,_=>by simp [ltCps]
 |_::_,[],_,h,_=>by simp [ltCps] at h
 |_::_,_::_,[],_,h=>by simp [ltCps] at h
 |x::a,y::b,z::c,h,g=>by
  have ih:=AS a b c;simp only [ltCps,Bool.or_eq_false_iff,Bool.and_eq_false_iff,decide_eq_false_iff_not,beq_eq_false_iff_ne] at h g ⊢;refine ⟨by lia,?_⟩
  by_cases e:z=x
  ·obtain rfl:y=z:=by lia
   obtain rfl:y=x:=by lia
   exact .inr (ih (h.2.resolve_left (fun z=>z rfl)) (g.2.resolve_left (fun z=>z rfl)))
  ·exact .inl e
def oStr:Ord Str where
 lt:=fun x y=>Spec.ltCps x.cps.toList y.cps.toList
 anti:=fun x y h1 h2=>by
  have:=qC _ _ h1 h2;cases x;cases y;congr 1;exact Array.toList_inj.mp this
 tr:=fun x y z h1 h2=>AS _ _ _ h1 h2
 asym:=fun x y h=>rK _ _ h
theorem nV:∀(l:List Str) (x:Str),PyProof.Rows.risingS x l=true->qE oStr (x::l)
 |[],x,_=>by simp [qE]
 |y::l,x,h=>by
  have h':(!Spec.ltCps y.cps.toList x.cps.toList&&PyProof.Rows.risingS y l)=true:=h;rw [Bool.and_eq_true,Bool.not_eq_true'] at h';have ih:=nV l y h'.2;refine List.pairwise_cons.mpr ⟨fun z hz=>?_,ih⟩;rcases List.mem_cons.mp hz with rfl|q
  ·exact h'.1
  ·exact oStr.tr _ _ _ h'.1 ((List.pairwise_cons.mp ih).1 z q)
theorem mE:∀(l:List Str),PyProof.Rows.sortedS l=true->qE oStr l
 |[],_=>List.Pairwise.nil
 |x::l,h=>nV l x h
end LS
namespace L3
open PySem L2 LS
theorem g6:∀{ss:List Str} {us:List Value},Vals (ss.map V.str) us->PyProof.Rows.StrsAre us ss
 |[],_,.nil=>.nil
 |_::_,_,.cons r t=>by obtain ⟨u,rfl⟩:=r;exact .cons _ _ (g6 t)
theorem jG:∀{ss:List Str} {us:List Value},PyProof.Rows.StrsAre us ss->Vals (ss.map V.str) us
 |_,_,.nil=>.nil
 |_,_,.cons x t r=>.cons ⟨t,rfl⟩ (jG r)
theorem gy{K:W.Frag}{H:Hp}:∀(ss:List Str),Rps K H (ss.map D.str) (ss.map V.str)
 |[]=>rfl
 |_::ss=>⟨_,_,rfl,rfl,gy ss⟩
theorem Inv.dr{X:Cx}{pins:List (Addr×Obj)}{σ:List (Option V)}{H:Hp}{s:Shared}{d':Drawn}(I:Inv X pins σ H s):Inv X pins σ H { s with drawn:=d' }:=by
 obtain ⟨a1,a2,a3,a4,a5,a6,a7,a8,a9,b1,b2⟩:=I;exact ⟨a1,a2,a3,a4,a5,a6,a7,a8,a9,b1,b2⟩
section
variable {X:Cx}{B:Mem}
def lJ:qH:=fun ds M Q=>match ds with
 |[d]=>match hV M d with
  |some xs=>match dQ xs with
   |some ss=>ss.length<64/\∀p,M p=none->Q (.ref p) (M.upd p (.lst ((xk oStr ss).map D.str)))
   |none=>False
  |none=>False
 |_=>False
theorem lq:cj X (.builtin "sorted") (liftC X lJ):=by
 intro pins s σ H xs us Q I r h;obtain ⟨ds,M,QQ,rh,rp,h,up⟩:=h;unfold lJ at h
 split at h
 ·obtain ⟨v,rfl,rv⟩:=eI (ds:=[]) rp
  split at h
  ·rename_i ys e
   obtain ⟨q,vs,rfl,hq,rr⟩:=cK rh rv e
   split at h
   ·rename_i ss es
    obtain ⟨h64,h⟩:=h;have:=eY rr es;subst this;obtain ⟨u,rfl,ru⟩:=fJ r;cases ru;obtain ⟨its,r',pl,hz⟩:=I.list (.inl hq);have hlen:=r'.length;rw [List.length_map] at hlen;refine PyProof.Rows.sorted_strs pl.isList (g6 r') (by lia) fun out ss' s1 s2 s3=>?_
    obtain ⟨k,hk⟩:=PyProof.Rows.sortedAll_at s.heap its out;obtain rfl:=Cd oStr (mE _ s3) s2;have hn:H (s.heap.objs.size+1)=none:=I.hok.fresh (Nat.le_succ _);refine ⟨.ref (s.heap.objs.size+1),_,I.laid (t':=s.toks) (o:=.lst ((xk oStr ss).map V.str)) (fun b o z=>PyProof.Rows.sortedAll_old z) (Nat.le_succ _) (show ObjOk X.prog X.w _ _ _ (.lst _) from ⟨?_,out.toList,k,jG s1,by rw [Array.toArray_toList];exact hk⟩),rfl,?_⟩
    ·rw [List.length_map,s2.length_eq];exact Nat.le_trans (Nat.le_of_lt h64) (by decide)
    ·exact up _ _ (h _ (rh.fresh hn)) _ _ (rh.put (by rw [hn];trivial) ⟨_,upd_same,gy _⟩) (Frm.put (.inl hn)) rfl
   ·exact h.elim
  ·exact h.elim
 ·exact h.elim
theorem bt_sorted':bootBuiltins "sorted"=some (.builtin "sorted"):=by decide +kernel
theorem l_:bootBuiltins "set"=some (.type "set"):=by decide +kernel
def o9(t:eE):bL:=fun δ M Q=>t δ M fun ds M1=>match ds with
 |[d]=>match hV M1 d with
  |some xs=>match dQ xs with
   |some ss=>ss.length<64/\∀p,M1 p=none->Q (.ref p) (M1.upd p (.lst ((d_ oStr ss).map D.str)))
   |none=>False
  |none=>False
 |_=>False
theorem gw{K:Type}[DecidableEq K]:∀(r l:List K),(cw l r).length<=l.length+r.length
 |[],l=>by simp [cw]
 |x::r,l=>by
  unfold cw;have:=gw r (if x∈l then l else l++[x])
  by_cases c:x∈l
  ·rw [if_pos c] at this ⊢;simp;lia
  ·rw [if_neg c] at this ⊢;simp at this ⊢;lia
theorem p9:∀{us:List Value} {ss:List Str},PyProof.Rows.StrsAre us ss->∀(i:Nat) (v:Value),us[i]?=some v->∃x t,ss[i]?=some x/\v=.str x t
 |_,_,.nil,i,v,h=>by simp at h
 |_,_,.cons x t r,0,v,h=>⟨x,t,by simp,by simpa using h.symm⟩
 |_,_,.cons x t r,i+1,v,h=>by simpa using p9 r i v (by simpa using h)
def ve(K:W.Frag)(t:TA):TE:=fun σ H Q=>t σ H fun vs H1=>∃(l:Addr) (ss:List Str),vs=[.ref l]/\SqL K H1 l (ss.map V.str)/\ss.length<64/\∀p,H1 p=none->Q (.ref p) (upd H1 p (.lst ((d_ oStr ss).map V.str)))
theorem pF{e:Expr}{t:TA}{p p2 pos pos2:Pos}(hc:X.calm=true)(hg:Gl X "set")(hm:X.mg "set"=none)(hg2:Gl X "sorted")(hm2:X.mg "sorted"=none)(ha:PA X [e] t)
  (hs:starEach [e] X.env=[(false,eval e X.env)]:=by rfl) (hs3:starEach [Expr.Call (.Name "set" p2) [e] [] pos2] X.env=[(false,eval (.Call (.Name "set" p2) [e] [] pos2) X.env)]:=by rfl):
  PE X (.Call (.Name "sorted" p) [.Call (.Name "set" p2) [e] [] pos2] [] pos) (ve X.K t):=by
 intro pins s σ H Q I h;refine wpAny_Call_Name_kw (ld_blt I hg2 hm2 bt_sorted' (PyProof.Rows.callWith_builtin1 ?_ hs3 rfl));rw [hs3];show wpAny _ _ (spliced ((false,_)::backTo pos [])) _ _ s;refine Calls.spliced_cons ?_;refine wpAny_Call_Name_kw (ld_blt I hg hm l_ (PyProof.Rows.callWith_type1 (thn (ha pos2 pins s σ H _ I h) fun us s1 ⟨vs,H1,I1,r1,q1⟩=>?_) hs rfl));obtain ⟨l,ss,rfl,hq,h64,q⟩:=q1;obtain ⟨u,rfl,ru⟩:=fJ r1;cases ru;obtain ⟨its,rv,pl,hz⟩:=I1.list hq;have hlen:=rv.length;rw [List.length_map] at hlen;have sa:=g6 rv;have hh:=I1.ok.hd hc;refine nW (knd:=strKind X.prog X.w) (ks:=ss) hh pl.isList (by simp;lia) (fun i v hv=>?_) (Nat.lt_of_le_of_lt (Nat.succ_le_of_lt h64) (by decide)) fun h2 tk H2 k2=>?_
 ·rw [List.getElem?_toArray] at hv
  obtain ⟨x,t',e1,e2⟩:=p9 sa i v hv;subst e2;exact ⟨x,e1,by simp [strKind,Value.isStrOf],rfl⟩
 refine Calls.spliced_nil ?_;have few:(cw [] ss).length<64:=by have:=gw ss [];simp at this;lia
 refine p5 (s:={ s1 with heap:=h2,toks:=tk }) hh H2 few fun h3 tk3 d3 L out rs k a1 a2 a3 a4 a5 a6=>?_;obtain rfl:=lg oStr (mE _ a6) a5;have lt:s1.heap.objs.size<=L:=by
  obtain ⟨⟨o,_,_,_,ho,_⟩,_⟩:=H2;exact Nat.le_trans (Nat.le_of_lt (Heap.lt_size ho)) a2
 have hn:H1 L=none:=I1.hok.fresh lt;refine ⟨.ref L,_,Inv.dr (I1.laid (t':=tk3) (o:=.lst ((d_ oStr ss).map V.str)) (fun b o z=>a1 b o (k2 b o z)) lt (show ObjOk X.prog X.w _ _ _ (.lst _) from ⟨?_,out.toList,k,jG a4,by rw [Array.toArray_toList];exact a3⟩)),rfl,q L hn⟩
 rw [List.length_map,a5.length_eq];exact Nat.le_trans (Nat.le_of_lt few) (by decide)
theorem qb{e:Expr}{t:eE}{p p2 pos pos2:Pos}(hc:X.calm=true)(hg:Gl X "set")(hm:X.mg "set"=none)(hg2:Gl X "sorted")(hm2:X.mg "sorted"=none)(ha:DA X B [e] t)
  (hs:starEach [e] X.env=[(false,eval e X.env)]:=by rfl) (hs3:starEach [Expr.Call (.Name "set" p2) [e] [] pos2] X.env=[(false,eval (.Call (.Name "set" p2) [e] [] pos2) X.env)]:=by rfl):
  DE X B (.Call (.Name "sorted" p) [.Call (.Name "set" p2) [e] [] pos2] [] pos) (o9 t):=by
 refine bc (pF hc hg hm hg2 hm2 ha hs hs3) ?_
 rintro σ H Q ⟨δ,M,QQ,s,h,u⟩
 refine ⟨δ,M,_,s,h,fun ds M1 h1 vs H1 rh1 i1 r1=>?_⟩
 split at h1
 ·obtain ⟨v,rfl,rv⟩:=eI (ds:=[]) r1
  split at h1
  ·rename_i ys ey
   obtain ⟨q,vs,rfl,hq,rr⟩:=cK rh1 rv ey
   split at h1
   ·rename_i ss es
    obtain ⟨h64,h1⟩:=h1;have:=eY rr es;subst this;refine ⟨q,ss,rfl,.inl hq,h64,fun d hd=>?_⟩;exact u _ _ (h1 d (rh1.fresh hd)) _ _ (rh1.put (by rw [hd];trivial) ⟨_,upd_same,gy _⟩) (i1.trans (Frm.put (.inl hd))) rfl
   ·exact h1.elim
  ·exact h1.elim
 ·exact h1.elim
end
end L3
namespace LS
open PySem
def oJ:Ord Int where
 lt:=fun x y=>decide (x<y)
 anti:=fun x y h1 h2=>by simp at h1 h2;lia
 tr:=fun x y z h1 h2=>by simp at h1 h2 ⊢;lia
 asym:=fun x y h=>by simp at h ⊢;lia
theorem wt{l:List Int}(h:l.Pairwise (·<=·)):qE oJ l:=h.imp fun {a b} z=>by show decide (b<a)=false;simp;lia
section
variable {prog:Program}{w:World}{A:Around}{E:Value->Shared->Prop}{s:Shared}{a:Addr}
theorem zB:∀(acc:List Value),(∀v∈acc,∃x u,v=Value.int x u)->PyProof.Rows.IntsAre acc (acc.map PyProof.Rows.numOf):=PyProof.Rows.intsAre_map
theorem nC{l:List Int}{Q:Value->Shared->Prop}(hh:A.handled=none)(H:Holds (intKind prog w) s.heap a (!aZ w) l)(h64:l.length<64)
  (h:∀h' tk d' L (out:Array Value) ns e,(∀b o,s.heap.get? b=some o->h'.get? b=some o)->s.heap.objs.size<=L->h'.get? L=some (PyProof.Rows.seqObj "list" out e)->PyProof.Rows.IntsAre out.toList ns->ns.Perm l->ns.Pairwise (·<=·)->
   Q (.ref L) { s with heap:=h',toks:=tk,drawn:=d' }):wpAny (model prog w) A (call (.builtin "sorted") [.ref a]) Q E s:=by
 obtain ⟨⟨o,es,ep,t,ho,hx,hd,hel,hm,hsz,hf,hle,hpl⟩,nd,few⟩:=H;have all:∀v,v∈es.toList.map (·.2)->∃x u,v=Value.int x u:=fun v hv=>by
  obtain ⟨e,he,rfl⟩:=List.mem_map.mp hv;obtain ⟨⟨k,hk,_⟩,_⟩:=hel e he;obtain ⟨u,z⟩:=Value.isInt_shape hk;exact ⟨k,u,z⟩
 have pk:(es.toList.map fun e=>PyProof.Rows.numOf e.2).Perm l:=by
  refine ib l _ nd (fun x hx'=>?_) (by simp [hsz])
  obtain ⟨e,he,z⟩:=(hm x).mp hx';obtain ⟨u,q⟩:=Value.isInt_shape z;exact List.mem_map.mpr ⟨e,he,by rw [q];rfl⟩
 refine Calls.call_function_entry PyProof.Rows.kind_sorted PyProof.Rows.plain_sorted PyProof.Rows.entry_sorted (PyProof.Rows.args_sorted1 _) ?_;unfold Builtin.«sorted»;refine wpAny_bind (m:=checkCount "sorted" 1 1 _) (wpAny_pure (wpAny_bind ?_));refine ip (A:=A.in1) (by simpa using hh) ⟨o,ho,hx,hd,hf⟩ hle hpl (by rw [hsz];exact Nat.le_trans (Nat.le_of_lt h64) (by decide)) fun h1 tk d1 acc k1 sz pr=>?_
 have sa:=zB acc fun v hv=>all v (pr.mem_iff.mp hv);have al:acc.length=l.length:=by rw [pr.length_eq];simp [hsz]
 refine wpAny_bind (wpAny_newList ?_ (by rw [al];exact Nat.le_trans (Nat.le_of_lt h64) (by decide)))
 have hoL:(h1.push (PyProof.Rows.seqObj "list" acc.toArray 0)).get? h1.objs.size=some (PyProof.Rows.seqObj "list" acc.toArray 0):=Heap.get?_push_size _ rfl;have lt:∀b o,s.heap.get? b=some o->b<h1.objs.size:=fun b o q=>Heap.lt_size (k1 b o q);refine wpAny_bind (wpAny_holding (wpAny_call_entry PyProof.Rows.slot_list_sort ⟨_,hoL,rfl⟩ PyProof.Rows.entry_list_sort (PyProof.Rows.list_sort_tree hoL sa (by lia) fun out ns q1 q2 q3=>⟨_,rfl,?_⟩) (PyProof.Rows.args_list_sort _)))
 obtain ⟨e,he⟩:=PyProof.Rows.sortedHeap_at (vs:=acc) (out:=out) hoL;refine wpAny_pure ⟨_,rfl,h _ tk d1 _ _ ns e (fun b o q=>?_) (Nat.le_of_lt sz) he q1 (q2.trans ?_) q3⟩
 ·rw [PyProof.Rows.sortedHeap_old (Nat.ne_of_lt (lt b o q)) (by rw [PyProof.Rows.size_push'];exact Nat.lt_succ_of_lt (lt b o q))]
  exact Heap.get?_push_of_some _ (k1 b o q)
 ·refine (pr.map PyProof.Rows.numOf).trans ?_
  rw [List.map_map];exact pk
end
end LS
namespace L3
open PySem L2 LS
def eS:List D->Option (List Int)
 |[]=>some []
 |.int i::ds=>match eS ds with
  |some is=>some (i::is)
  |none=>none
 |_=>none
theorem k7:∀ns:List Int,eS (ns.map D.int)=some ns
 |[]=>rfl
 |x::ns=>by rw [List.map_cons,eS,k7 ns]
theorem nk{K:W.Frag}{H:Hp}:∀{ds:List D} {vs:List V} {xs:List Int},Rps K H ds vs->eS ds=some xs->vs=xs.map V.int
 |[],vs,xs,r,e=>by cases e;exact r
 |d::ds,vs,xs,r,e=>by
  obtain ⟨v,r',rfl,a,b⟩:=r;cases d with
  |int c=>
   simp only [eS] at e
   split at e
   ·rename_i xs' e2
    cases e;cases a;rw [nk b e2];rfl
   ·cases e
  |_=>simp [eS] at e
theorem nG:∀{ss:List Int} {us:List Value},Vals (ss.map V.int) us->PyProof.Rows.IntsAre us ss
 |[],_,.nil=>.nil
 |_::_,_,.cons r t=>by obtain ⟨u,rfl⟩:=r;exact .cons _ _ (nG t)
theorem nN:∀{ss:List Int} {us:List Value},PyProof.Rows.IntsAre us ss->Vals (ss.map V.int) us
 |_,_,.nil=>.nil
 |_,_,.cons x t r=>.cons ⟨t,rfl⟩ (nN r)
theorem ox{K:W.Frag}{H:Hp}:∀(ss:List Int),Rps K H (ss.map D.int) (ss.map V.int)
 |[]=>rfl
 |_::ss=>⟨_,_,rfl,rfl,ox ss⟩
theorem qD:∀{us:List Value} {ss:List Int},PyProof.Rows.IntsAre us ss->∀(i:Nat) (v:Value),us[i]?=some v->∃x t,ss[i]?=some x/\v=.int x t
 |_,_,.nil,i,v,h=>by simp at h
 |_,_,.cons x t r,0,v,h=>⟨x,t,by simp,by simpa using h.symm⟩
 |_,_,.cons x t r,i+1,v,h=>by simpa using qD r i v (by simpa using h)
section
variable {X:Cx}{B:Mem}
def ED:qH:=fun ds M Q=>match ds with
 |[d]=>match hV M d with
  |some xs=>match eS xs with
   |some ss=>ss.length<64/\∀p,M p=none->Q (.ref p) (M.upd p (.lst ((xk oJ ss).map D.int)))
   |none=>False
  |none=>False
 |_=>False
def kH(t:eE):bL:=fun δ M Q=>t δ M fun ds M1=>match ds with
 |[d]=>match hV M1 d with
  |some xs=>match eS xs with
   |some ss=>ss.length<64/\∀p,M1 p=none->Q (.ref p) (M1.upd p (.lst ((d_ oJ ss).map D.int)))
   |none=>False
  |none=>False
 |_=>False
def sg(K:W.Frag)(t:TA):TE:=fun σ H Q=>t σ H fun vs H1=>∃(l:Addr) (ss:List Int),vs=[.ref l]/\SqL K H1 l (ss.map V.int)/\ss.length<64/\∀p,H1 p=none->Q (.ref p) (upd H1 p (.lst ((d_ oJ ss).map V.int)))
theorem oB{e:Expr}{t:TA}{p p2 pos pos2:Pos}(hc:X.calm=true)(hg:Gl X "set")(hm:X.mg "set"=none)(hg2:Gl X "sorted")(hm2:X.mg "sorted"=none)(ha:PA X [e] t)
  (hs:starEach [e] X.env=[(false,eval e X.env)]:=by rfl) (hs3:starEach [Expr.Call (.Name "set" p2) [e] [] pos2] X.env=[(false,eval (.Call (.Name "set" p2) [e] [] pos2) X.env)]:=by rfl):
  PE X (.Call (.Name "sorted" p) [.Call (.Name "set" p2) [e] [] pos2] [] pos) (sg X.K t):=by
 intro pins s σ H Q I h;refine wpAny_Call_Name_kw (ld_blt I hg2 hm2 bt_sorted' (PyProof.Rows.callWith_builtin1 ?_ hs3 rfl));rw [hs3];show wpAny _ _ (spliced ((false,_)::backTo pos [])) _ _ s;refine Calls.spliced_cons ?_;refine wpAny_Call_Name_kw (ld_blt I hg hm l_ (PyProof.Rows.callWith_type1 (thn (ha pos2 pins s σ H _ I h) fun us s1 ⟨vs,H1,I1,r1,q1⟩=>?_) hs rfl));obtain ⟨l,ss,rfl,hq,h64,q⟩:=q1;obtain ⟨u,rfl,ru⟩:=fJ r1;cases ru;obtain ⟨its,rv,pl,hz⟩:=I1.list hq;have hlen:=rv.length;rw [List.length_map] at hlen;have sa:=nG rv;have hh:=I1.ok.hd hc;refine nW (knd:=intKind X.prog X.w) (ks:=ss) hh pl.isList (by simp;lia) (fun i v hv=>?_) (Nat.lt_of_le_of_lt (Nat.succ_le_of_lt h64) (by decide)) fun h2 tk H2 k2=>?_
 ·rw [List.getElem?_toArray] at hv
  obtain ⟨x,t',e1,e2⟩:=qD sa i v hv;subst e2;exact ⟨x,e1,by simp [intKind,Value.isInt],rfl⟩
 refine Calls.spliced_nil ?_;have few:(cw [] ss).length<64:=by have:=gw ss [];simp at this;lia
 refine nC (s:={ s1 with heap:=h2,toks:=tk }) hh H2 few fun h3 tk3 d3 L out rs k a1 a2 a3 a4 a5 a6=>?_;obtain rfl:=lg oJ (wt a6) a5;have lt:s1.heap.objs.size<=L:=by
  obtain ⟨⟨o,_,_,_,ho,_⟩,_⟩:=H2;exact Nat.le_trans (Nat.le_of_lt (Heap.lt_size ho)) a2
 have hn:H1 L=none:=I1.hok.fresh lt;refine ⟨.ref L,_,Inv.dr (I1.laid (t':=tk3) (o:=.lst ((d_ oJ ss).map V.int)) (fun b o z=>a1 b o (k2 b o z)) lt (show ObjOk X.prog X.w _ _ _ (.lst _) from ⟨?_,out.toList,k,nN a4,by rw [Array.toArray_toList];exact a3⟩)),rfl,q L hn⟩
 rw [List.length_map,a5.length_eq];exact Nat.le_trans (Nat.le_of_lt few) (by decide)
theorem mG{e:Expr}{t:eE}{p p2 pos pos2:Pos}(hc:X.calm=true)(hg:Gl X "set")(hm:X.mg "set"=none)(hg2:Gl X "sorted")(hm2:X.mg "sorted"=none)(ha:DA X B [e] t)
  (hs:starEach [e] X.env=[(false,eval e X.env)]:=by rfl) (hs3:starEach [Expr.Call (.Name "set" p2) [e] [] pos2] X.env=[(false,eval (.Call (.Name "set" p2) [e] [] pos2) X.env)]:=by rfl):
  DE X B (.Call (.Name "sorted" p) [.Call (.Name "set" p2) [e] [] pos2] [] pos) (kH t):=by
 refine bc (oB hc hg hm hg2 hm2 ha hs hs3) ?_
 rintro σ H Q ⟨δ,M,QQ,s,h,u⟩
 refine ⟨δ,M,_,s,h,fun ds M1 h1 vs H1 rh1 i1 r1=>?_⟩
 split at h1
 ·obtain ⟨v,rfl,rv⟩:=eI (ds:=[]) r1
  split at h1
  ·rename_i ys ey
   obtain ⟨q,vs,rfl,hq,rr⟩:=cK rh1 rv ey
   split at h1
   ·rename_i ss es
    obtain ⟨h64,h1⟩:=h1;have:=nk rr es;subst this;refine ⟨q,ss,rfl,.inl hq,h64,fun d hd=>?_⟩;exact u _ _ (h1 d (rh1.fresh hd)) _ _ (rh1.put (by rw [hd];trivial) ⟨_,upd_same,ox _⟩) (i1.trans (Frm.put (.inl hd))) rfl
   ·exact h1.elim
  ·exact h1.elim
 ·exact h1.elim
end
end L3
namespace L2
open PySem
section
variable {X:Cx}
theorem uY(hc:X.calm=true):cj X (.builtin "any") (fun xs H Q=>∃(l:Addr) (bs:List Bool),xs=[.ref l]/\SqL X.K H l (bs.map V.bl)/\Q (.bl (bs.any id)) H):=by
 intro pins s σ H xs us Q I r h;obtain ⟨l,bs,rfl,hq,q⟩:=h;obtain ⟨u,rfl,ru⟩:=r.one;cases ru;obtain ⟨its,rv,p,hz⟩:=I.list hq;have hl:=rv.length;have hli:l<s.heap.objs.size:=by obtain ⟨o,e,_⟩:=p.isList;exact Heap.lt_size e
 have hne:l≠s.heap.objs.size:=Nat.ne_of_lt hli;have val:∀(i:Nat) (v:Value),its.toArray[i]?=some v->∃c,bs[i]?=some c/\v=.bool c:=fun i v hv=>by
  have hv':its[i]?=some v:=by simpa using hv
  have hi:i<bs.length:=by
   have:=(List.getElem?_eq_some_iff.mp hv').1;rw [List.length_map] at hl;lia
  obtain ⟨w',h1,h2⟩:=rv.get (i:=i) (x:=.bl bs[i]) (by rw [List.getElem?_map,List.getElem?_eq_getElem hi];rfl)
  rw [hv'] at h1;cases h1;exact ⟨bs[i],List.getElem?_eq_getElem hi,h2⟩
 have hsz:its.toArray.size=bs.length:=by rw [List.size_toArray,<- hl,List.length_map]
 refine call_any_walk (wpAny_pyIter_list p.isList ⟨s.heap.objs.size,_,_,_,_,_,fun i=>bs.getD i false,rfl,Walks.list (A:=X.A.in1) (I.ok.hd hc) s.heap.objs.size l hne its.toArray,⟨⟨_,Heap.get?_push_size _ rfl,rfl,rfl⟩,p.isList.push _⟩,fun i v s' Q' E' hv hq'=>?_,fun h' tk hk=>?_⟩)
 ·obtain ⟨c,h1,rfl⟩:=val i v hv
  refine wpAny_truthy_bool ?_;have eb:bs.getD i false=c:=by rw [List.getD_eq_getElem?_getD,h1];rfl
  have hq2:Q' (bs.getD i false) s':=hq';rw [eb] at hq2;exact hq2
 ·have e:(List.range its.toArray.size).any (fun i=>bs.getD i false)=bs.any id:=by
   rw [hsz,Bool.eq_iff_iff,List.any_eq_true,List.any_eq_true];constructor
   ·rintro ⟨i,hi,h⟩
    have hi':=List.mem_range.mp hi;rw [List.getD_eq_getElem?_getD,List.getElem?_eq_getElem hi'] at h;exact ⟨_,List.getElem_mem hi',h⟩
   ·rintro ⟨b,hb,h⟩
    obtain ⟨i,hi,rfl⟩:=List.mem_iff_getElem.mp hb;exact ⟨i,List.mem_range.mpr hi,by rw [List.getD_eq_getElem?_getD,List.getElem?_eq_getElem hi];exact h⟩
  rw [e];refine ⟨.bl (bs.any id),H,?_,rfl,q⟩;exact I.kept (t':=tk) fun b o hb=>hk b o (by simp;exact Nat.ne_of_lt (Heap.lt_size hb)) (Heap.get?_push_of_some _ hb)
end
end L2
namespace L3
open PySem L2 LS
section
variable {X:Cx}{B:Mem}
def Dp:qH:=fun ds M Q=>match ds with
 |[d]=>match hV M d with
  |some xs=>match gi xs with
   |some bs=>Q (.bl (bs.any id)) M
   |none=>False
  |none=>False
 |_=>False
theorem sF(hc:X.calm=true):cj X (.builtin "any") (liftC X Dp):=by
 intro pins s σ H xs us Q I r h;obtain ⟨ds,M,QQ,rh,rp,h,up⟩:=h;unfold Dp at h
 split at h
 ·obtain ⟨v,rfl,rv⟩:=eI (ds:=[]) rp
  split at h
  ·rename_i ys e
   split at h
   ·rename_i bs eb
    obtain ⟨q,vs,rfl,hq,rr⟩:=cK rh rv e;have ev:=h9 rr eb;subst ev;exact uY hc pins s σ H _ us Q I r ⟨q,bs,rfl,.inl hq,up _ M h _ H rh Frm.refl rfl⟩
   ·exact h.elim
  ·exact h.elim
 ·exact h.elim
theorem A9:bootBuiltins "any"=some (.builtin "any"):=by decide +kernel
theorem sZ:bootBuiltins "range"=some (.type "range"):=by decide +kernel
def jg(t:eE):bL:=fun δ M Q=>t δ M fun ds M1=>match ds with
 |[.int j]=>(-(2 ^ 62)<=j/\j<=1000)/\∀p,M1 p=none->Q (.ref p) (M1.upd p (.lst (gj 0 j.toNat)))
 |_=>False
def qe(n:Nat):List V:=(List.range n).map fun (i:Nat)=>V.int (0+(i:Int))
theorem xC{K:W.Frag}{H:Hp}{n:Nat}:Rps K H (gj 0 n) (qe n):=by
 unfold gj qe;generalize List.range n=l
 induction l with
 |nil=>rfl
 |cons i l ih=>exact ⟨_,_,rfl,rfl,ih⟩
theorem vg{acc:Array Value}{n:Nat}(h:ItemsOf (fun i v=>∃t,v=.int (0+i*1) t) acc n):Vals (qe n) acc.toList:=by
 obtain ⟨h1,h2⟩:=h;have key:∀(l:List Value) (k m:Nat),l.length=m->(∀(j:Nat) (v:Value),l[j]?=some v->∃t,v=.int (0+((k+j:Nat):Int)) t)->Vals ((List.range' k m).map fun (i:Nat)=>V.int (0+(i:Int))) l:=by
  intro l
  induction l with
  |nil=>intro k m e _;subst e;exact .nil
  |cons x l ih=>
   intro k m e h;subst e;rw [List.length_cons,List.range'_succ,List.map_cons];refine .cons ?_ (ih (k+1) _ rfl fun j v q=>?_)
   ·obtain ⟨t,rfl⟩:=h 0 x (by simp)
    exact ⟨t,rfl⟩
   ·obtain ⟨t,e⟩:=h (j+1) v (by simpa using q)
    exact ⟨t,by rw [e];congr 2;lia⟩
 have:=key acc.toList 0 n (by simpa using h1) fun j v q=>by
  obtain ⟨t,e⟩:=h2 j v (by simpa using q)
  exact ⟨t,by rw [e,Int.mul_one,Nat.zero_add]⟩
 unfold qe;rw [List.range_eq_range'];exact this
def vY(t:TA):TE:=fun σ H Q=>t σ H fun vs H1=>∃j:Int,vs=[.int j]/\(-(2 ^ 62)<=j/\j<=1000)/\∀p,H1 p=none->Q (.ref p) (upd H1 p (.lst (qe j.toNat)))
theorem qp{e:Expr}{t:TA}{p p2 pos pos2:Pos}(hc:X.calm=true)(hg:Gl X "range")(hm:X.mg "range"=none)(hg2:Gl X "list")(hm2:X.mg "list"=none)(ha:PA X [e] t)
  (hs:starEach [e] X.env=[(false,eval e X.env)]:=by rfl) (hs3:starEach [Expr.Call (.Name "range" p2) [e] [] pos2] X.env=[(false,eval (.Call (.Name "range" p2) [e] [] pos2) X.env)]:=by rfl):
  PE X (.Call (.Name "list" p) [.Call (.Name "range" p2) [e] [] pos2] [] pos) (vY t):=by
 intro pins s σ H Q I h;refine wpAny_Call_Name_kw (ld_blt I hg2 hm2 bt_list' (PyProof.Rows.callWith_type1 ?_ hs3 rfl));rw [hs3];show wpAny _ _ (spliced ((false,_)::backTo pos [])) _ _ s;refine Calls.spliced_cons ?_;refine wpAny_Call_Name_kw (ld_blt I hg hm sZ (PyProof.Rows.callWith_type1 (thn (ha pos2 pins s σ H _ I h) fun us s1 ⟨vs,H1,I1,r1,q1⟩=>?_) hs rfl));obtain ⟨j,rfl,⟨j0,j1⟩,q⟩:=q1;obtain ⟨u,rfl,ru⟩:=fJ r1;obtain ⟨t',rfl⟩:=ru;refine call_range_1 ?_;refine Calls.spliced_nil ?_;have hh:=I1.ok.hd hc;refine call_list_range (n:=j.toNat) hh (IsRange.new ..) (small_one (by decide) (by decide) j0 (by lia)) (by rw [rangeSize_one];split<;>lia) (by lia) fun h' tk acc c' k1 hS hacc=>?_
 have hsz:(s1.heap.push { cls:=.type "range",data:=.fields #[.int 0 s1.toks,.int j t',.int 1 (s1.toks+1)] }).objs.size=s1.heap.objs.size+1:=Heap.size_push ..;have hn:H1 (s1.heap.objs.size+1)=none:=I1.hok.fresh (Nat.le_succ _);have hS':h'.get? (s1.heap.objs.size+1)=some { cls:=.type "list",dict:=none,data:=.seq acc c',slots:=#[] }:=by rw [<- hsz];exact hS
 refine ⟨.ref (s1.heap.objs.size+1),_,I1.laid (t':=tk) (o:=.lst (qe j.toNat)) (fun b o z=>k1 b o (Heap.get?_push_of_some _ z)) (Nat.le_succ _) (show ObjOk X.prog X.w _ _ _ (.lst _) from ⟨?_,acc.toList,c',vg hacc,by rw [Array.toArray_toList];exact hS'⟩),?_,q _ hn⟩
 ·simp only [qe,List.length_map,List.length_range]
  exact Nat.le_trans (by lia:j.toNat<=1000) (by decide)
 ·show Value.ref _=Value.ref _
  rw [<- hsz]
theorem jm{e:Expr}{t:eE}{p p2 pos pos2:Pos}(hc:X.calm=true)(hg:Gl X "range")(hm:X.mg "range"=none)(hg2:Gl X "list")(hm2:X.mg "list"=none)(ha:DA X B [e] t)
  (hs:starEach [e] X.env=[(false,eval e X.env)]:=by rfl) (hs3:starEach [Expr.Call (.Name "range" p2) [e] [] pos2] X.env=[(false,eval (.Call (.Name "range" p2) [e] [] pos2) X.env)]:=by rfl):
  DE X B (.Call (.Name "list" p) [.Call (.Name "range" p2) [e] [] pos2] [] pos) (jg t):=by
 refine bc (qp hc hg hm hg2 hm2 ha hs hs3) ?_
 rintro σ H Q ⟨δ,M,QQ,s,h,u⟩
 refine ⟨δ,M,_,s,h,fun ds M1 h1 vs H1 rh1 i1 r1=>?_⟩
 split at h1
 ·obtain ⟨v,rfl,rv⟩:=eI (ds:=[]) r1
  cases rv;refine ⟨_,rfl,h1.1,fun d hd=>?_⟩;exact u _ _ (h1.2 d (rh1.fresh hd)) _ _ (rh1.put (by rw [hd];trivial) ⟨_,upd_same,xC⟩) (i1.trans (Frm.put (.inl hd))) rfl
 ·exact h1.elim
end
end L3
namespace L3
open PySem L2 LS
inductive TabR(w:World)(K:W.Frag):List DictEntry->List (Str×D)->Prop
 |nil:TabR w K [] []
 |cons {e:DictEntry} {x:Str} {d:D} {es:List DictEntry} {tab:List (Str×D)}:e.hash=hashStr w x->(∃t,e.key=.str x t)->(∃v,RelV v e.val/\∀H,Rp K H d v)->TabR w K es tab->TabR w K (e::es) ((x,d)::tab)
structure ModTab(w:World)(K:W.Frag)(mg:Str->Option Value)(name:Str)(a:Addr)(tab:List (Str×D)):Prop where
 at_:mg name=some (.ref a)
 sys:(a==sysModules)=false
 nd:(tab.map (·.1)).Nodup
 ex:∃es ep,K.lookup a=some { cls:=.type "dict",dict:=none,data:=.dict es ep,slots:=#[] }/\TabR w K es.toList tab
def bN:List (Str×D)->Str->Option D
 |[],_=>none
 |(y,d)::t,x=>if y=x then some d else bN t x
theorem nX{P:Program}{w:World}{K:W.Frag}:∀{es:List DictEntry} {tab:List (Str×D)},TabR w K es tab->∃kvs:List (Str×Value),(∀e∈es,∃k,(strKind P w).is k e.key=true/\e.hash=(strKind P w).hash k)/\Pairs (strKind P w) es kvs/\kvs.map (·.1)=tab.map (·.1)/\∀x,match bN tab x with
  |some d=>∃u v,valueAt kvs x=some u/\RelV v u/\∀H,Rp K H d v
  |none=>valueAt kvs x=none
 |_,_,.nil=>⟨[],(fun e h=>by cases h),Pairs.nil,rfl,fun x=>rfl⟩
 |_,_,.cons (e:=e) (x:=x) (d:=d) (tab:=tab) h1 h2 h3 r=>by
  obtain ⟨kvs,q1,q2,q3,q4⟩:=nX (P:=P) r;obtain ⟨t,ht⟩:=h2;obtain ⟨v,hv,hr⟩:=h3;have hk:(strKind P w).is x e.key=true:=by rw [ht];simp [strKind,Value.isStrOf]
  refine ⟨(x,e.val)::kvs,fun e' he=>?_,.cons hk rfl q2,by simp [q3],fun y=>?_⟩
  ·rcases List.mem_cons.mp he with rfl|he
   ·exact ⟨x,hk,h1⟩
   ·exact q1 e' he
  ·unfold bN valueAt
   by_cases c:x=y
   ·rw [if_pos c]
    exact ⟨e.val,v,by simp [c],hv,hr⟩
   ·rw [if_neg c]
    have:=q4 y;unfold valueAt at this;simpa [c] using this
theorem ModTab.map{P:Program}{w:World}{K:W.Frag}{mg:Str->Option Value}{name:Str}{a:Addr}{tab:List (Str×D)}(T:ModTab w K mg name a tab){h:Heap}(kin:K.In h):∃kvs:List (Str×Value),h.DictOf (strKind P w) a kvs/\∀x,match bN tab x with
  |some d=>∃u v,valueAt kvs x=some u/\RelV v u/\∀H,Rp K H d v
  |none=>valueAt kvs x=none:=by
 obtain ⟨es,ep,h1,h2⟩:=T.ex;obtain ⟨kvs,q1,q2,q3,q4⟩:=nX (P:=P) h2;exact ⟨kvs,⟨_,es,ep,kin _ _ h1,⟨rfl,rfl,rfl⟩,rfl,fun e he=>q1 e (by simpa using he),q2,by rw [q3];exact T.nd⟩,q4⟩
section
variable {X:Cx}{B:Mem}{name:Str}{a:Addr}{tab:List (Str×D)}
def oInT(tab:List (Str×D))(a:Addr):dW:=fun x y M Q=>match x,y with
 |.str x,.ref b=>b=a/\Q (.bl (bN tab x).isSome) M
 |_,_=>False
def m7(tab:List (Str×D))(a:Addr):dW:=fun x y M Q=>match x,y with
 |.str x,.ref b=>b=a/\Q (.bl (!(bN tab x).isSome)) M
 |_,_=>False
def wj(tab:List (Str×D))(a:Addr):dW:=fun x y M Q=>match x,y with
 |.ref b,.str x=>b=a/\match bN tab x with
  |some d=>Q d M
  |none=>False
 |_,_=>False
theorem uw{kvs:List (Str×Value)}(q:match bN tab name with
  |some d=>∃u v,valueAt kvs name=some u/\RelV v u/\∀H,Rp X.K H d v
  |none=>valueAt kvs name=none):(valueAt kvs name).isSome=(bN tab name).isSome:=by
 cases e:bN tab name with
 |some d=>rw [e] at q;obtain ⟨u,v,h,_⟩:=q;rw [h];rfl
 |none=>rw [e] at q;rw [show valueAt kvs name=none from q];rfl
theorem sy(T:ModTab X.w X.K X.mg name a tab):cB X (compareOp .NotIn) (liftR2 X (m7 tab a)):=by
 intro pins s σ H x y v u Q I rx ry h;obtain ⟨d1,d2,M,QQ,rh,r1,r2,h,up⟩:=h;unfold m7 at h
 split at h
 ·rename_i z b
  cases r1;cases r2;cases ry;obtain ⟨rfl,h⟩:=h;obtain ⟨t,rfl⟩:=rx;obtain ⟨kvs,dd,q⟩:=T.map (P:=X.prog) I.kIn;refine wpAny_notIn_of (knd:=strKind X.prog X.w) (k:=z) (by simp [strKind,Value.isStrOf]) T.sys dd.mapOf ?_
  rw [uw (X:=X) (q z)];exact ⟨.bl _,H,I.tok _,rfl,up _ M h _ H rh Frm.refl rfl⟩
 ·exact h.elim
theorem Bf(T:ModTab X.w X.K X.mg name a tab):IxR X (liftR2 X (wj tab a)):=by
 intro value slice pins s σ H x y v u Q I rx ry h hs;obtain ⟨d1,d2,M,QQ,rh,r1,r2,h,up⟩:=h;unfold wj at h
 split at h
 ·rename_i b z
  cases r1;cases r2;cases rx;obtain ⟨rfl,h⟩:=h;obtain ⟨t,rfl⟩:=ry;obtain ⟨kvs,dd,q⟩:=T.map (P:=X.prog) I.kIn;have qz:=q z
  split at h
  ·rename_i d e
   rw [e] at qz;obtain ⟨u,v,h1,h2,h3⟩:=qz;refine PyProof.Rows.tail_any dd.typeIs PySem.F.slot_dict_getitem.lookup (wpAny_getItem_of (knd:=strKind X.prog X.w) (k:=z) (by simp [strKind,Value.isStrOf]) dd.mapOf h1 ⟨v,H,I.tok _,h2,up _ M h _ H rh Frm.refl (h3 H)⟩) hs
  ·exact h.elim
 ·exact h.elim
theorem fS{x:Str}{n:Int}{pos:Pos}(hg:Gl X x)(hm:∃t,X.mg x=some (.int n t))(hd:(x==("__debug__":Str))=false:=by decide):DE X B (.Name x pos) (dC (.int n)):=by
 obtain ⟨t,hm⟩:=hm;exact qU (v:=.int n) hg hm ⟨t,rfl⟩ (fun _=>rfl) hd
theorem lx{pos:Pos}(hg:Gl X name)(T:ModTab X.w X.K X.mg name a tab)(hd:(name==("__debug__":Str))=false:=by decide):DE X B (.Name name pos) (dC (.ref a)):=
 qU (v:=.ref a) hg T.at_ rfl (fun _=>rfl) hd
end
end L3
namespace LS
open PySem
section
variable {prog:Program}{w:World}{K:Type}[DecidableEq K]{A:Around}{E:Value->Shared->Prop}{s:Shared}{knd:KeyKind prog w K}
theorem tF{l:Addr}{items:Array Value}{ks:List K}{Q:Value->Shared->Prop}(hh:A.handled=none)(hl:s.heap.IsTuple l items)(hn:items.size=ks.length)
  (hk:∀(i:Nat) (v:Value),items[i]?=some v->∃k,ks[i]?=some k/\knd.is k v=true/\v.scannable=true) (few:ks.length+1<scanBound)
  (h:∀(h':Heap) (tk:Nat),Holds knd h' s.heap.objs.size (!aZ w) (cw [] ks)->(∀b o,s.heap.get? b=some o->h'.get? b=some o)->Q (.ref s.heap.objs.size) { s with heap:=h',toks:=tk }):
  wpAny (model prog w) A (call (.type "set") [.ref l]) Q E s:=by
 have ft:=F.called_set;obtain ⟨cc,tl,m1⟩:=ft.mro;have m2:=ft.made;have m3:=ft.sub;apply wpAny_call;apply codeAny_of_tree;refine wpAny_pure ⟨Code.quiet_builtin _ (by decide +kernel),codeAny_builtin F.entry_type_call ?_⟩
 rw [Around.under_plain (weight_type_call_type "set" [.ref l] []) (rfl)];have m4:=ft.notType;have m5:=ft.canCreate;have m6:=F.typeCall_set_1 (.ref l)
 repeat (any_goals (first|(assumption)|wp_step))
 refine codeAny_mono (rk (.ref l) (E:=E) (Z:=fun o s1=>o=.ref s.heap.objs.size/\s1={ s with heap:=s.heap.push (a_ (!aZ w)) }) ⟨rfl,rfl⟩) fun r s1 hr=>?_;cases r with
 |error e=>exact hr
 |ok fl=>
  cases fl with
  |ret obj=>
   obtain ⟨rfl,rfl⟩:=hr;have at0:(s.heap.push (a_ (!aZ w))).get? s.heap.objs.size=some (a_ (!aZ w)):=Heap.get?_push_size _ rfl;have ty0:Shared.TypeIs { s with heap:=s.heap.push (a_ (!aZ w)) } (.ref s.heap.objs.size) "set":=⟨_,at0,rfl⟩;have i1:=ft.init.lookup;have i2:=ft.init.bind (.ref s.heap.objs.size)
   repeat (any_goals (first|(assumption)|wp_step))
   refine codeAny_mono (codeAny_call_builtin (R:=wants (fun r s2=>r=.none/\∃h' tk,s2={ s with heap:=h',toks:=tk }/\Holds knd h' s.heap.objs.size (!aZ w) (cw [] ks)/\∀b o,s.heap.get? b=some o->h'.get? b=some o) E) ft.init.plain F.entry_set_init (check_set_init_1 ty0 ?_)) fun r2 s2 hr2=>?_
   ·have hl1:(s.heap.push (a_ (!aZ w))).IsTuple l items:=hl.push _
    obtain ⟨ol,g1,g2,nl,g3⟩:=id hl1;have lt:l<s.heap.objs.size:=let ⟨_,q,_⟩:=hl;Heap.lt_size q;obtain ⟨oc,od,oz,os⟩:=ol;dsimp only at g2 g3;subst g2;subst g3;have n1:=F.sub_tuple_set;have n2:=F.sub_tuple_frozenset;have n3:(Value.type "tuple"==Value.type "dict")=false:=rfl;have at1:=at0;unfold a_ at at1 g1 ⊢;unfold Builtin.«set.__init__» noKeywords Builtin.Frozenset.updateFrom;generalize ei:pyIter=it
    wp_walk
    subst ei;refine wpAny_pyIter_tuple hl1 (wpAny_bind (wpAny_runValue ?_));have hS:s.heap.objs.size∉[(s.heap.push (a_ (!aZ w))).objs.size,l]:=by
     rw [Heap.size_push];simp only [List.mem_cons,List.not_mem_nil,or_false,not_or];exact ⟨Nat.ne_of_lt (Nat.lt_succ_self _),Nat.ne_of_gt lt⟩
    have hI:l≠(s.heap.push (a_ (!aZ w))).objs.size:=by rw [Heap.size_push];exact Nat.ne_of_lt (Nat.lt_succ_of_lt lt)
    have at2:((s.heap.push (a_ (!aZ w))).push { cls:=.type "tuple_iterator",data:=.fields #[.ref l,.int 0 0] }).get? s.heap.objs.size=some (a_ (!aZ w)):=Heap.get?_push_of_some _ at0;have W:=Walks.tuple (prog:=prog) (w:=w) (A:=A.in1.in1.in1) (by simpa using hh) (s.heap.push (a_ (!aZ w))).objs.size l hI items
    rw [hn] at W;refine vn (knd:=knd) (led:=!aZ w) (ks:=ks) W hS (fun z=>hS (by rw [<- z];simp)) hk few ks.length 0 _ [] (by lia) ⟨⟨_,Heap.get?_push_size _ rfl,rfl,rfl⟩,hl1.push _⟩ (iy at2) (Nat.zero_le _) fun h' tk k H=>?_
    refine wpAny_pure (wpAny_pure ⟨rfl,h',tk,rfl,by rw [List.drop_zero] at H;exact H,fun b o q=>?_⟩)
    have lb:=Heap.lt_size q;exact k b o (Nat.ne_of_lt lb) (by rw [Heap.size_push];exact Nat.ne_of_lt (Nat.lt_succ_of_lt lb)) (Heap.get?_push_of_some _ (Heap.get?_push_of_some _ q))
   ·cases r2 with
    |error e=>exact hr2
    |ok f2=>
     cases f2 with
     |ret r=>
      obtain ⟨rfl,h',tk,rfl,H,k⟩:=hr2
      repeat (any_goals (first|(assumption)|wp_step))
      exact h _ _ H k
     |_=>exact hr2.elim
  |_=>exact hr.elim
end
end LS
namespace LS
open PySem
section
variable {prog:Program}{w:World}{K:Type}[DecidableEq K]{A:Around}{E:Value->Shared->Prop}{s:Shared}{knd:KeyKind prog w K}
theorem uT{a:Addr}{led:Bool}{l:List K}{Q:Value->Shared->Prop}(H:Holds knd s.heap a led l)(hQ:∀t tk,Q (.int (l.length:Nat) t) { s with toks:=tk }):wpAny (model prog w) A (call (.builtin "len") [.ref a]) Q E s:=by
 obtain ⟨⟨o,es,ep,t,ho,hx,hd,_,_,hsz,hf,_⟩,_,few⟩:=H;refine call_len_set ho hx hd hf ?_ ?_
 ·have:es.size<scanBound:=by rw [hsz];exact few
  have:scanBound<=2 ^ 30:=by decide
  lia
 ·rw [hsz];exact hQ _ _
end
end LS
namespace L2
open PySem PySem.Spec
def Its(x:Str):It:=⟨fun i _=>i<x.cps.size,fun i H v H'=>H'=H/\∃c,x.cps[i]?=some c/\v=.str ⟨#[c]⟩,fun i _=>x.cps.size<=i⟩
theorem uy{P:Program}{w:World}{K:W.Frag}{tg:Expr}(it:Addr)(x:Str)(t:Tok):Turn P w K tg (Its x) [it] it (fun i h=>h.IsStrIter it "str_ascii_iterator" x t i) where
 mem:=by simp
 obj:=fun i h st b hb=>by
  have e:b=it:=by simpa using hb
  subst e;obtain ⟨o,e,_,d⟩:=st;exact ⟨o,e,fun v z=>by rw [d] at z;cases z⟩
 keep:=fun i h h' st k=>by
  obtain ⟨o,e,r⟩:=st;exact ⟨o,k it (by simp) o e,r⟩
 item:=by
  intro X hP hw hK hc i pins s σ H E I hf st hg;subst hP hw hK;obtain ⟨f0,f1,f2,f3,f4,f5⟩:=hf it (by simp)
  have hi:i<x.cps.size:=hg;refine wpAny_pyNext_ascii_item st (c:=x.cps[i]) (by simp [hi]) fun h' st' sb=>?_
  have I1:Inv X pins σ H { s with heap:=h',toks:=s.toks+1 }:=I.turned (fun b o hb e=>(sb.2 b hb).trans e) f0 f1 f3 f4 f5;obtain ⟨o,e,c,d⟩:=id st';exact ⟨_,rfl,qy (s:={ s with heap:=h',toks:=s.toks+1 }) e c d (by decide) ⟨.str ⟨#[x.cps[i]]⟩,H,I1,⟨_,rfl⟩,⟨rfl,_,by simp [hi],rfl⟩,st',fun b hb=>(hf b hb).1⟩⟩
 done:=by
  intro X hP hw hK hc i pins s σ H E I hf st hg;subst hP hw hK;obtain ⟨f0,f1,f2,f3,f4,f5⟩:=hf it (by simp)
  have hi:x.cps.size<=i:=hg;exact wpAny_pyNext_ascii_end (I.ok.hd hc) st (by simp [hi]) fun h' eb=>⟨rfl,I.turned (t':=s.toks) (fun b o hb e=>eb b o hb e) f0 f1 f3 f4 f5⟩
 self:=fun _ _ _ _ _ st h=>wpAny_pyIter_striter_ascii st h
section
variable {X:Cx}{tg:Expr}
def iStr(tl:TE):TI:=fun σ H R=>tl σ H fun x H1=>∃z:Str,x=.str z/\z.cps.all (· < 128)=true/\R (Its z) H1
theorem CU{l:Expr}{tl:TE}(hl:PE X l tl):PI X tg l (iStr tl):=by
 intro pins s σ H R I h;refine thn (hl pins s σ H _ I h) fun v s1 ⟨x,H1,I1,r1,q1⟩=>?_;obtain ⟨z,rfl,ha,q⟩:=q1;obtain ⟨t,rfl⟩:=r1;refine wpAny_pyIter_ascii ha ?_;refine ⟨s1.heap.objs.size,[s1.heap.objs.size],_,_,H1,rfl,I1.kept (t':=s1.toks) fun b o e=>Heap.get?_push_of_some _ e,uy _ z t,⟨_,Heap.get?_push_size _ rfl,rfl,rfl⟩,fun b hb=>?_,q⟩;have e:b=s1.heap.objs.size:=by simpa using hb
 subst e;exact I1.fpOk (Nat.le_refl _) (I1.hok.fresh (Nat.le_refl _))
end
end L2
namespace L3
open PySem L2 LS
section
variable {X:Cx}{B:Mem}{tg:Expr}{K:W.Frag}{H:Hp}{M:Mem}
def jU(z:Str):List D:=z.cps.toList.map fun c=>D.str ⟨#[c]⟩
def Ex(te:bL):wk:=fun δ M R=>te δ M fun d M1=>match d with
 |.str z=>z.cps.all (· < 128)=true/\R ⟨jU z,[]⟩ M1
 |_=>False
theorem BC{z:Str}:Bq K H ⟨jU z,[]⟩ (Its z):=fun i H2 M2 i2 rh2 _=>by
 have hlen:(jU z).length=z.cps.size:=by simp [jU]
 refine ⟨fun d hd=>?_,fun hle=>by rw [hlen] at hle;exact hle⟩
 have hi:i<z.cps.size:=by
  rcases Nat.lt_or_ge i z.cps.size with h|h
  ·exact h
  ·rw [List.getElem?_eq_none (by rw [hlen];exact h)] at hd;cases hd
 refine ⟨hi,?_⟩
 rintro x H3 ⟨rfl,c,hc,rfl⟩
 have ed:d=.str ⟨#[c]⟩:=by
  simp only [jU,List.getElem?_map,Array.getElem?_toList,hc] at hd;exact (Option.some.inj hd).symm
 subst ed;exact ⟨Frm.refl,rh2,rfl⟩
theorem DU{l:Expr}{tl:bL}(hl:DE X B l tl):DI X B tg l (Ex tl):=by
 refine fX (CU hl) ?_
 rintro σ H R ⟨δ,M,RR,s,h,up⟩
 refine ⟨δ,M,_,s,h,fun d M1 h1 v H1 rh1 i1 r1=>?_⟩
 split at h1
 ·cases r1
  exact ⟨_,rfl,h1.1,up _ M1 h1.2 _ H1 rh1 i1 BC⟩
 ·exact h1.elim
def xu:dW:=fun x y M Q=>match x,y with
 |.str a,.str b=>Q (.bl (!decide (b.cps.toList<a.cps.toList))) M
 |_,_=>False
theorem uJ:cB X (compareOp .LtE) (liftR2 X xu):=by
 intro pins s σ H x y v u Q I rx ry h;obtain ⟨d1,d2,M,QQ,rh,r1,r2,h,up⟩:=h;unfold xu at h
 split at h
 ·cases r1;cases r2
  obtain ⟨t,rfl⟩:=rx;obtain ⟨t2,rfl⟩:=ry
  rename_i a b
  have g:=gives_str_le a b t t2;refine compareOp_gives (op:=.LtE) ?_ ?_ F.slot_str_le ?_ ?_ g (fun q=>by cases q) ⟨.bl _,H,I,rfl,up _ M h _ H rh Frm.refl rfl⟩
  ·exact typeIs_str ..
  ·exact typeIs_str ..
  ·exact F.entry_str_le
  ·exact F.args_str_le_2 ..
 ·exact h.elim
def rf(t:eE):bL:=fun δ M Q=>t δ M fun ds M1=>match ds with
 |[.tup xs]=>match dQ xs with
  |some ss=>ss.length<64/\Q (.int ((cw [] ss).length:Nat)) M1
  |none=>False
 |_=>False
def yV(K:W.Frag)(t:TA):TE:=fun σ H Q=>t σ H fun vs H1=>∃(l:Addr) (ss:List Str),vs=[.ref l]/\gG K H1 l (ss.map V.str)/\ss.length<64/\Q (.int ((cw [] ss).length:Nat)) H1
theorem bt_len2:bootBuiltins "len"=some (.builtin "len"):=by decide +kernel
theorem sJ{e:Expr}{t:TA}{p p2 pos pos2:Pos}(hc:X.calm=true)(hg:Gl X "set")(hm:X.mg "set"=none)(hg2:Gl X "len")(hm2:X.mg "len"=none)(ha:PA X [e] t)
  (hs:starEach [e] X.env=[(false,eval e X.env)]:=by rfl) (hs3:starEach [Expr.Call (.Name "set" p2) [e] [] pos2] X.env=[(false,eval (.Call (.Name "set" p2) [e] [] pos2) X.env)]:=by rfl):
  PE X (.Call (.Name "len" p) [.Call (.Name "set" p2) [e] [] pos2] [] pos) (yV X.K t):=by
 intro pins s σ H Q I h;refine wpAny_Call_Name_kw (ld_blt I hg2 hm2 bt_len2 (PyProof.Rows.callWith_builtin1 ?_ hs3 rfl));rw [hs3];show wpAny _ _ (spliced ((false,_)::backTo pos [])) _ _ s;refine Calls.spliced_cons ?_;refine wpAny_Call_Name_kw (ld_blt I hg hm l_ (PyProof.Rows.callWith_type1 (thn (ha pos2 pins s σ H _ I h) fun us s1 ⟨vs,H1,I1,r1,q1⟩=>?_) hs rfl));obtain ⟨l,ss,rfl,hq,h64,q⟩:=q1;obtain ⟨u,rfl,ru⟩:=fJ r1;cases ru;obtain ⟨its,rv,pl,hz⟩:=I1.tuple hq;have hlen:=rv.length;rw [List.length_map] at hlen;have sa:=g6 rv;have hh:=I1.ok.hd hc;refine tF (knd:=strKind X.prog X.w) (ks:=ss) hh (show s1.heap.IsTuple l its.toArray from pl) (by simp;lia) (fun i v hv=>?_) (Nat.lt_of_le_of_lt (Nat.succ_le_of_lt h64) (by decide)) fun h2 tk H2 k2=>?_
 ·rw [List.getElem?_toArray] at hv
  obtain ⟨x,t',e1,e2⟩:=p9 sa i v hv;subst e2;exact ⟨x,e1,by simp [strKind,Value.isStrOf],rfl⟩
 refine Calls.spliced_nil ?_;refine uT (s:={ s1 with heap:=h2,toks:=tk }) H2 fun t2 tk2=>?_;exact ⟨.int _,H1,I1.kept (t':=tk2) k2,⟨_,rfl⟩,q⟩
theorem tB{e:Expr}{t:eE}{p p2 pos pos2:Pos}(hc:X.calm=true)(hg:Gl X "set")(hm:X.mg "set"=none)(hg2:Gl X "len")(hm2:X.mg "len"=none)(ha:DA X B [e] t)
  (hs:starEach [e] X.env=[(false,eval e X.env)]:=by rfl) (hs3:starEach [Expr.Call (.Name "set" p2) [e] [] pos2] X.env=[(false,eval (.Call (.Name "set" p2) [e] [] pos2) X.env)]:=by rfl):
  DE X B (.Call (.Name "len" p) [.Call (.Name "set" p2) [e] [] pos2] [] pos) (rf t):=by
 refine bc (sJ hc hg hm hg2 hm2 ha hs hs3) ?_
 rintro σ H Q ⟨δ,M,QQ,s,h,u⟩
 refine ⟨δ,M,_,s,h,fun ds M1 h1 vs H1 rh1 i1 r1=>?_⟩
 split at h1
 ·obtain ⟨v,rfl,p,vs,rfl,hq,rr⟩:=eI (ds:=[]) r1
  split at h1
  ·rename_i ss es
   have:=eY rr es;subst this;exact ⟨p,ss,rfl,hq.sq,h1.1,u _ _ h1.2 _ H1 rh1 i1 rfl⟩
  ·exact h1.elim
 ·exact h1.elim
theorem cS{a:Addr}{ss:List Str}{us:Array Value}{n:Nat}(h:K.lookup a=some { cls:=.type "tuple",dict:=none,data:=.seq us n,slots:=#[] })(hv:Vals (ss.map V.str) us.toList)(hz:us.size<=sizeLine):∃v,RelV v (.ref a)/\∀H,Rp K H (.mt (ss.map D.str)) v:=
 ⟨.ref a,rfl,fun _=>⟨a,_,rfl,⟨_,us,n,h,rfl,rfl,hz,hv⟩,gy ss⟩⟩
end
end L3
namespace L3
open PySem L2
section
variable {X:Cx}{B:Mem}{pos:Pos}
theorem pT{ta tb tc:bL}{r r':dW}{σ:List (Option V)}{H:Hp}{Q:VK}(h:liftE X B (eV r r' ta tb tc) σ H Q):qf (liftR2 X r) (liftR2 X r') (liftE X B ta) (liftE X B tb) (liftE X B tc) σ H Q:=by
 obtain ⟨δ,M,QQ,s,h,u⟩:=h;refine ⟨δ,M,_,s,h,fun x M1 h1 v1 H1 rh1 i1 r1=>?_⟩;refine ⟨δ,M1,_,s.go rh1 i1,h1,fun y M2 h2 v2 H2 rh2 i2 r2=>?_⟩;refine ⟨x,y,M2,_,rh2,r1.mf rh1 i2,r2,h2,fun z M3 h3 v3 H3 rh3 i3 r3=>?_⟩;cases z with
 |bl k=>
  cases r3;cases k with
  |true=>
   refine ⟨true,rfl,?_⟩;rw [if_pos rfl];refine ⟨δ,M3,_,s.go rh3 ((i1.trans i2).trans i3),h3,fun w M4 h4 v4 H4 rh4 i4 r4=>?_⟩;exact ⟨y,w,M4,QQ,rh4,(r2.mf rh2 (i3.trans i4)),r4,h4,u.go (((i1.trans i2).trans i3).trans i4)⟩
  |false=>
   refine ⟨false,rfl,?_⟩;rw [if_neg Bool.false_ne_true];exact u _ M3 h3 _ H3 rh3 ((i1.trans i2).trans i3) rfl
 |_=>exact (show False from h3).elim
theorem nP{a b c:Expr}{ta tb tc:bL}{op op':CmpOp}{r r':dW}(ho:cB X (compareOp op) (liftR2 X r))(ho':cB X (compareOp op') (liftR2 X r'))(ha:DE X B a ta)(hb:DE X B b tb)(hc:DE X B c tc)(hm:lastMarks [op,op'] [b,c]=false:=by with_unfolding_all rfl):
  DT X B (.Compare a [op,op'] [b,c] pos) (aI (eV r r' ta tb tc)):=by
 refine gF (ug ho ho' ha hb hc hm) ?_
 rintro σ H Q ⟨δ,M,QQ,s,h,u⟩
 have h':liftE X B (eV r r' ta tb tc) σ H (fun x H'=>∃k,x=.bl k/\Q k H'):=by
  refine ⟨δ,M,_,s,h,fun d M' q v H' rh i rp=>?_⟩;cases d with
  |bl k=>exact ⟨k,rp,u k M' q H' rh i⟩
  |_=>exact (show False from q).elim
 exact pT h'
end
end L3
namespace L3
open PySem L2
section
variable {X:Cx}{B:Mem}
end
end L3
namespace L3
open PySem L2 LS
section
variable {X:Cx}{B:Mem}
end
end L3
namespace LS
open PySem PySem.W PySem.Calls PyProof.Rows PyProof.V PySem.Spec
section
variable {prog:Program}{w:World}{K:Type}[DecidableEq K]{knd:KeyKind prog w K}{A:Around}{E:Value->Shared->Prop}{s:Shared}{v d:Addr}{ep:Nat}{kvs:List (K×Value)}
end
end LS
namespace L3
open PySem L2 LS
section
variable {X:Cx}{B:Mem}{pos:Pos}
end
end L3
namespace LX
open PySem PySem.W PySem.Spec PySem.Calls PyProof.Rows Builtin Builtin.ObjectAttr Builtin.Getset_descriptor
section
variable {K:Frag}{prog:Program}{w:World}{A:Around}{E:Value->Shared->Prop}{s:Shared}
end
end LX
namespace LX
open PySem PySem.W PySem.Spec PySem.Calls PyProof.Rows
end LX
namespace L2
open PySem PySem.Spec PyProof.Rows
section
variable {X:Cx}{pins:List (Addr×Obj)}{σ:St}{H:Hp}{s:Shared}{e:Value}
end
end L2
namespace L2
open PySem PySem.Spec PyProof.Rows
end L2
namespace L2
open PySem
end L2
namespace L3
open PySem L2
section
variable {X:Cx}{B:Mem}{K:W.Frag}{H H':Hp}{M M1 M':Mem}
end
section
variable {P:Program}{w:World}{K:W.Frag}{mg:Str->Option Value}{base:Heap}{f:Addr}{fd:FuncData}
end
section
variable {X:Cx}{B:Mem}{K:W.Frag}{H H':Hp}{M M1 M':Mem}
end
end L3
namespace L3
open PySem L2 LS
section
variable {X:Cx}{B:Mem}
end
end L3
namespace L3
open PySem L2
end L3
namespace L3
open PySem L2
section
variable {X:Cx}{B:Mem}
def oIsB:dW:=fun x y M Q=>match x,y with
 |.bl c,.bl d=>Q (.bl (c==d)) M
 |_,_=>False
def vc:dW:=fun x y M Q=>match x,y with
 |.bl c,.bl d=>Q (.bl (c != d)) M
 |_,_=>False
theorem vC:cB X (compareOp .IsNot) (liftR2 X vc):=by
 intro pins s σ H x y v u Q I rx ry h;obtain ⟨d1,d2,M,QQ,rh,r1,r2,h,up⟩:=h;unfold vc at h
 split at h
 ·cases r1;cases r2;cases rx;cases ry
  exact PyProof.Rows.isnot_bool (pJ I (up _ M h _ H rh Frm.refl rfl) rfl)
 ·exact h.elim
end
end L3
namespace L3
open PySem L2
section
variable {X:Cx}{B:Mem}
variable {C:Addr}{f:Str}{o value:Expr}{ta tv:bL}{pos tpos:Pos}
end
section
variable {X:Cx}{B:Mem}{CX:mK}{k n:Nat}{f C:Addr}{fd:FuncData}{ps:List Str}{T:Sd}{E:XK}{EE:DX}{x:Str}{p pos:Pos}
end
end L3
namespace Tw
open PySem L2 L3
def eF(i:Nat):Stmt:=PySem.Challenge.pw_twinstride_k13_whole_names_and_numbers_o.main.body.getD i (.Pass ⟨0,0,0,0⟩)
abbrev Cl:Stmt:=lA (eF 4) 0
abbrev E7:Stmt:=lA (eF 4) 1
abbrev u8:Stmt:=lA (eF 4) 2
abbrev u3:Stmt:=eF 5
abbrev wS:Stmt:=eF 6
abbrev tO:Stmt:=eF 7
abbrev w8:Stmt:=eF 8
abbrev vN:Stmt:=eF 9
abbrev uz:Stmt:=eF 10
abbrev wc:Stmt:=eF 11
abbrev uD:Stmt:=eF 12
abbrev vh:Stmt:=eF 13
abbrev wA:Stmt:=eF 23
abbrev vt:Stmt:=eF 24
abbrev uH:Stmt:=eF 25
abbrev wb:Stmt:=eF 26
abbrev Dm:Stmt:=eF 27
abbrev wn:Stmt:=eF 28
abbrev wB:Stmt:=eF 29
abbrev wy:Stmt:=eF 30
abbrev CP:Stmt:=eF 31
abbrev BW:Stmt:=eF 32
abbrev vU:Stmt:=eF 33
abbrev wW:Stmt:=eF 34
abbrev Cj:Stmt:=eF 36
abbrev vP:Stmt:=eF 37
abbrev vZ:Stmt:=eF 38
abbrev BR:Stmt:=eF 39
abbrev uA:Stmt:=eF 40
abbrev E1:Stmt:=eF 41
abbrev wl:Stmt:=eF 42
abbrev wa:Stmt:=eF 43
abbrev C5:Stmt:=eF 44
abbrev uF:Stmt:=eF 45
abbrev BA:Stmt:=eF 46
abbrev gh:Stmt:=eF 47
theorem FU:FnScope ["self","plan","stand","most"] ["self","plan","stand","most"] (aC Cl):=⟨rfl,rfl,rfl,by decide +kernel,rfl,by decide +kernel,by decide +kernel⟩
theorem Fp:FnScope ["self","place","number"] ["self","place","number"] (aC E7):=⟨rfl,rfl,rfl,by decide +kernel,rfl,by decide +kernel,by decide +kernel⟩
theorem sc_q12:FnScope ["self","place","name","seen"] ["self","place","name"] (aC u8):=⟨rfl,rfl,rfl,by decide +kernel,rfl,by decide +kernel,by decide +kernel⟩
theorem sc_q34:FnScope ["plan","stand","most","walk"] ["plan","stand","most"] (aC u3):=⟨rfl,rfl,rfl,by decide +kernel,rfl,by decide +kernel,by decide +kernel⟩
theorem sc_q32:FnScope ["plan","stand","most","end"] ["plan","stand","most"] (aC wS):=⟨rfl,rfl,rfl,by decide +kernel,rfl,by decide +kernel,by decide +kernel⟩
theorem sc_q25:FnScope ["walk","rows","place","j","row"] ["walk","rows","place"] (aC tO):=⟨rfl,rfl,rfl,by decide +kernel,rfl,by decide +kernel,by decide +kernel⟩
theorem sc_q28:FnScope ["walk","row","place","number"] ["walk","row","place"] (aC w8):=⟨rfl,rfl,rfl,by decide +kernel,rfl,by decide +kernel,by decide +kernel⟩
theorem sc_q31:FnScope ["walk","row","place","seen"] ["walk","row","place"] (aC vN):=⟨rfl,rfl,rfl,by decide +kernel,rfl,by decide +kernel,by decide +kernel⟩
theorem sc_q20:FnScope ["walk","row","place","turn"] ["walk","row","place"] (aC uz):=⟨rfl,rfl,rfl,by decide +kernel,rfl,by decide +kernel,by decide +kernel⟩
theorem sc_q13:FnScope ["plan","numbers","pieces","row","piece"] ["plan","numbers","pieces","row"] (aC wc):=⟨rfl,rfl,rfl,by decide +kernel,rfl,by decide +kernel,by decide +kernel⟩
theorem Dh:FnScope ["plan","numbers","row"] ["plan","numbers","row"] (aC uD):=⟨rfl,rfl,rfl,by decide +kernel,rfl,by decide +kernel,by decide +kernel⟩
theorem Bp:FnScope ["word","y","z","wheel"] ["word","y","z","wheel"] (aC vh):=⟨rfl,rfl,rfl,by decide +kernel,rfl,by decide +kernel,by decide +kernel⟩
theorem BK:FnScope ["thing"] ["thing"] (aC wA):=⟨rfl,rfl,rfl,by decide +kernel,rfl,by decide +kernel,by decide +kernel⟩
theorem DY:FnScope ["thing","least","most"] ["thing","least","most"] (aC vt):=⟨rfl,rfl,rfl,by decide +kernel,rfl,by decide +kernel,by decide +kernel⟩
theorem E5:FnScope ["thing"] ["thing"] (aC uH):=⟨rfl,rfl,rfl,by decide +kernel,rfl,by decide +kernel,by decide +kernel⟩
theorem Dd:FnScope ["thing"] ["thing"] (aC wb):=⟨rfl,rfl,rfl,by decide +kernel,rfl,by decide +kernel,by decide +kernel⟩
theorem F1:FnScope ["plan","thing"] ["plan","thing"] (aC Dm):=⟨rfl,rfl,rfl,by decide +kernel,rfl,by decide +kernel,by decide +kernel⟩
theorem sc_q21:FnScope ["plan","count","waiting","rows_and_depth","rows","depth","row"] ["plan"] (aC wn):=⟨rfl,rfl,rfl,by decide +kernel,rfl,by decide +kernel,by decide +kernel⟩
theorem sc_q30:FnScope ["plan","thing","depth","word"] ["plan","thing","depth"] (aC wB):=⟨rfl,rfl,rfl,by decide +kernel,rfl,by decide +kernel,by decide +kernel⟩
theorem BG:FnScope ["plan","kind","thing"] ["plan","kind","thing"] (aC wy):=⟨rfl,rfl,rfl,by decide +kernel,rfl,by decide +kernel,by decide +kernel⟩
theorem FC:FnScope ["row"] ["row"] (aC CP):=⟨rfl,rfl,rfl,by decide +kernel,rfl,by decide +kernel,by decide +kernel⟩
theorem sc_q2:FnScope ["rows","found","row","part"] ["rows"] (aC BW):=⟨rfl,rfl,rfl,by decide +kernel,rfl,by decide +kernel,by decide +kernel⟩
theorem Ec:FnScope ["rows"] ["rows"] (aC vU):=⟨rfl,rfl,rfl,by decide +kernel,rfl,by decide +kernel,by decide +kernel⟩
theorem sc_q18:FnScope ["plan","rows","found"] ["plan","rows"] (aC wW):=⟨rfl,rfl,rfl,by decide +kernel,rfl,by decide +kernel,by decide +kernel⟩
theorem sc_q4:FnScope ["cell","turn","one"] ["cell","turn"] (aC Cj):=⟨rfl,rfl,rfl,by decide +kernel,rfl,by decide +kernel,by decide +kernel⟩
theorem sc_q22:FnScope ["script","seed","cell"] ["script"] (aC vP):=⟨rfl,rfl,rfl,by decide +kernel,rfl,by decide +kernel,by decide +kernel⟩
theorem sc_q15:FnScope ["pot","many","cell","found"] ["pot","many"] (aC vZ):=⟨rfl,rfl,rfl,by decide +kernel,rfl,by decide +kernel,by decide +kernel⟩
theorem sc_q6:FnScope ["pot","many","turn","names","k","sign"] ["pot","many"] (aC BR):=⟨rfl,rfl,rfl,by decide +kernel,rfl,by decide +kernel,by decide +kernel⟩
theorem sc_q23:FnScope ["pot","told","m","names","many","ways","way","x","y"] ["pot","told"] (aC uA):=⟨rfl,rfl,rfl,by decide +kernel,rfl,by decide +kernel,by decide +kernel⟩
theorem sc_q7:FnScope ["pot","told","room","deep","m","names","many","x","first","way","y"] ["pot","told","room","deep"] (aC E1):=⟨rfl,rfl,rfl,by decide +kernel,rfl,by decide +kernel,by decide +kernel⟩
theorem sc_q14:FnScope ["pot","told","room","deep","most","rows","k"] ["pot","told","room","deep","most"] (aC wl):=⟨rfl,rfl,rfl,by decide +kernel,rfl,by decide +kernel,by decide +kernel⟩
theorem sc_q17:FnScope ["pot","most","m","names","many","rows"] ["pot","most"] (aC wa):=⟨rfl,rfl,rfl,by decide +kernel,rfl,by decide +kernel,by decide +kernel⟩
theorem sc_q8:FnScope ["pot","plan","numbers"] ["pot","plan"] (aC C5):=⟨rfl,rfl,rfl,by decide +kernel,rfl,by decide +kernel,by decide +kernel⟩
theorem CY:FnScope ["found","due"] ["found","due"] (aC uF):=⟨rfl,rfl,rfl,by decide +kernel,rfl,by decide +kernel,by decide +kernel⟩
theorem sc_q3:FnScope ["rows","names","made","row"] ["rows","names"] (aC BA):=⟨rfl,rfl,rfl,by decide +kernel,rfl,by decide +kernel,by decide +kernel⟩
theorem sc_law:FnScope ["script","pot","plan","stand","most","fresh","names","left","order","rows","other","there","steps","end"] ["script"] (aC gh):=⟨rfl,rfl,rfl,by decide +kernel,rfl,by decide +kernel,by decide +kernel⟩
end Tw
namespace Tw
open PySem L2 L3
set_option genInjectivity false in
structure Ad where
 C_Walk:Addr
 C_Dry:Addr
 a_q1:Addr
 d_q1:FuncData
 a_q0:Addr
 d_q0:FuncData
 a_q12:Addr
 d_q12:FuncData
 a_q34:Addr
 d_q34:FuncData
 a_q32:Addr
 d_q32:FuncData
 a_q25:Addr
 d_q25:FuncData
 a_q28:Addr
 d_q28:FuncData
 a_q31:Addr
 d_q31:FuncData
 a_q20:Addr
 d_q20:FuncData
 a_q13:Addr
 d_q13:FuncData
 a_q10:Addr
 d_q10:FuncData
 a_q29:Addr
 d_q29:FuncData
 a_q24:Addr
 d_q24:FuncData
 a_q19:Addr
 d_q19:FuncData
 a_q26:Addr
 d_q26:FuncData
 a_q16:Addr
 d_q16:FuncData
 a_q9:Addr
 d_q9:FuncData
 a_q21:Addr
 d_q21:FuncData
 a_q30:Addr
 d_q30:FuncData
 a_q27:Addr
 d_q27:FuncData
 a_q5:Addr
 d_q5:FuncData
 a_q2:Addr
 d_q2:FuncData
 a_q33:Addr
 d_q33:FuncData
 a_q18:Addr
 d_q18:FuncData
 a_q4:Addr
 d_q4:FuncData
 a_q22:Addr
 d_q22:FuncData
 a_q15:Addr
 d_q15:FuncData
 a_q6:Addr
 d_q6:FuncData
 a_q23:Addr
 d_q23:FuncData
 a_q7:Addr
 d_q7:FuncData
 a_q14:Addr
 d_q14:FuncData
 a_q17:Addr
 d_q17:FuncData
 a_q8:Addr
 d_q8:FuncData
 a_q11:Addr
 d_q11:FuncData
 a_q3:Addr
 d_q3:FuncData
 a_law:Addr
 d_law:FuncData
 g_PARTS:Addr
def aS:List (Str×D):=[("put",.mt [.str "name",.str "number"]),("take",.mt [.str "name",.str "piece"]),("pick",.mt [.str "name",.str "name"]),("sum",.mt [.str "name",.str "name",.str "name"]),("by",.mt [.str "name",.str "name",.str "name"]),("less",.mt [.str "name",.str "name",.str "name"]),("same",.mt [.str "name",.str "name",.str "name"]),("if",.mt [.str "name",.str "rows",.str "rows"]),("again",.mt [.str "name",.str "rows"])]
def D1(ad:Ad)(EE:DX):aM:=
 (aE (kA ad.C_Walk (ae 0) (ae 3) "most")
  (kA ad.C_Walk (ae 0) (cC ak) "steps"))
def CL(ad:Ad)(EE:DX):aM:=
 (aE (kA ad.C_Walk (ae 0) (aB bd (ae 2) (dC (.int 1))) "pieces")
  (D1 ad EE))
def DP(ad:Ad)(EE:DX):aM:=
 (aE (kA ad.C_Walk (ae 0) (jd (ac (aB bd (ae 1) (dC (.int 1))) (ac (aB bd (ae 2) (dC (.int 0))) ak))) "numbers")
  (CL ad EE))
def wC(ad:Ad)(EE:DX):aM:=
 (aE (kA ad.C_Walk (ae 0) (ae 1) "plan")
  (DP ad EE))
def y3(ad:Ad):Sd:=bu ["self","plan","stand","most"] (wC ad)
theorem u_q1{ad:Ad}{n:Nat}{x0 x1 x2 x3:D}{M:Mem}{Q:DK}{E:DX}:y3 ad [x0,x1,x2,x3] M Q E=wC ad (drpX E) { nx:=fun _ M'=>drp Q .non M',rt:=drp Q } [some x0,some x1,some x2,some x3] M:=rfl
def Dv(ad:Ad)(EE:DX):aM:=
 (cf (oq "list" cH (gH ad.C_Walk (ae 0) "steps") (ac (bX (ac (ae 1) (ac (ae 2) ak))) ak)))
def uk(ad:Ad)(EE:DX):aM:=
 (aE (bi (aI (aB oGe (c9 cV (ac (gH ad.C_Walk (ae 0) "steps") ak)) (gH ad.C_Walk (ae 0) "most"))) (wJ ad.C_Dry EE) aQ)
  (Dv ad EE))
def qm(ad:Ad):Sd:=bu ["self","place","number"] (uk ad)
theorem u_q0{ad:Ad}{n:Nat}{x0 x1 x2:D}{M:Mem}{Q:DK}{E:DX}:qm ad [x0,x1,x2] M Q E=uk ad (drpX E) { nx:=fun _ M'=>drp Q .non M',rt:=drp Q } [some x0,some x1,some x2] M:=rfl
def A7(ad:Ad)(EE:DX):aM:=
 (aE (cf (k8 ad.C_Walk "note_step" (qm ad) EE 3 (ae 0) (ac (ae 1) (ac (ae 3) ak))))
  (aT (ae 3)))
def mS(ad:Ad)(EE:DX):aM:=
 (aE (b0 (vJ (aI (aB dh (aB bd (gH ad.C_Walk (ae 0) "numbers") (ae 2)) (dC (.int 0)))) (dC (.int 0)) (dC (.int 1))) (au 3))
  (A7 ad EE))
def kS(ad:Ad):Sd:=bu ["self","place","name","seen"] (mS ad)
theorem F9{ad:Ad}{n:Nat}{x0 x1 x2:D}{M:Mem}{Q:DK}{E:DX}:kS ad [x0,x1,x2] M Q E=mS ad (drpX E) { nx:=fun _ M'=>drp Q .non M',rt:=drp Q } [some x0,some x1,some x2,none] M:=rfl
def z9(ad:Ad)(EE:DX):aM:=
 (aT (aB g9 (aF (aB cr (ae 1) (ae 2))) (ae 3)))
def yb(ad:Ad)(EE:DX):aM:=
 (aT (vJ (aI (aB Ci (ae 1) (ae 2))) (dC (.int 1)) (dC (.int 0))))
def xZ(ad:Ad)(EE:DX):aM:=
 (aT (vJ (aI (aB dh (ae 1) (ae 2))) (dC (.int 1)) (dC (.int 0))))
def zK(ad:Ad)(EE:DX):aM:=
 (aE (bi (aI (aB dh (ae 0) (dC (.str "less")))) (yb ad EE) aQ)
  (xZ ad EE))
def yd(ad:Ad)(EE:DX):aM:=
 (aE (bi (aI (aB dh (ae 0) (dC (.str "by")))) (aT (aB g9 (aB lR (ae 1) (ae 2)) (ae 3))) aQ)
  (zK ad EE))
def nL(ad:Ad)(EE:DX):aM:=
 (aE (bi (aI (aB dh (ae 0) (dC (.str "sum")))) (z9 ad EE) aQ)
  (yd ad EE))
def rG(ad:Ad):Sd:=bu ["word","y","z","wheel"] (nL ad)
theorem EH{ad:Ad}{n:Nat}{x0 x1 x2 x3:D}{M:Mem}{Q:DK}{E:DX}:rG ad [x0,x1,x2,x3] M Q E=nL ad (drpX E) { nx:=fun _ M'=>drp Q .non M',rt:=drp Q } [some x0,some x1,some x2,some x3] M:=rfl
def yi(ad:Ad)(EE:DX):aM:=
 (aT (aB g9 (aB bd (ae 1) (aB bd (ae 2) (dC (.int 2)))) (aB bd (ae 0) (dC (.int 2)))))
def yH(ad:Ad)(EE:DX):aM:=
 (aE (bi (aI (aB dh (aB bd (ae 2) (dC (.int 0))) (dC (.str "pick")))) (yi ad EE) aQ)
  (aT (dC .non)))
def ig(ad:Ad)(EE:DX):aM:=
 (aE (bi (aI (aB dh (aB bd (ae 2) (dC (.int 0))) (dC (.str "take")))) (aT (aB bd (ae 2) (dC (.int 2)))) aQ)
  (yH ad EE))
def r8(ad:Ad):Sd:=bu ["plan","numbers","row"] (ig ad)
theorem qI{ad:Ad}{n:Nat}{x0 x1 x2:D}{M:Mem}{Q:DK}{E:DX}:r8 ad [x0,x1,x2] M Q E=ig ad (drpX E) { nx:=fun _ M'=>drp Q .non M',rt:=drp Q } [some x0,some x1,some x2] M:=rfl
def xE(ad:Ad)(EE:DX):aM:=
 (aT (ax (rG ad) EE 4 (ac (aB bd (ae 3) (dC (.int 0))) (ac (aB bd (ae 1) (aB bd (ae 3) (dC (.int 2)))) (ac (aB bd (ae 1) (aB bd (ae 3) (dC (.int 3)))) (ac (aB bd (ae 0) (dC (.int 0))) ak))))))
def z6(ad:Ad)(EE:DX):aM:=
 (aE (bi (aI (aB kU (ae 4) (dC .non))) (aT (aB bd (ae 2) (ae 4))) aQ)
  (xE ad EE))
def yX(ad:Ad)(EE:DX):aM:=
 (aE (b0 (aF (ax (r8 ad) EE 3 (ac (ae 0) (ac (ae 1) (ac (ae 3) ak))))) (au 4))
  (z6 ad EE))
def ik(ad:Ad)(EE:DX):aM:=
 (aE (bi (aI (aB dh (aB bd (ae 3) (dC (.int 0))) (dC (.str "put")))) (aT (aB bd (ae 3) (dC (.int 2)))) aQ)
  (yX ad EE))
def mn(ad:Ad):Sd:=bu ["plan","numbers","pieces","row","piece"] (ik ad)
theorem qA{ad:Ad}{n:Nat}{x0 x1 x2 x3:D}{M:Mem}{Q:DK}{E:DX}:mn ad [x0,x1,x2,x3] M Q E=ik ad (drpX E) { nx:=fun _ M'=>drp Q .non M',rt:=drp Q } [some x0,some x1,some x2,some x3,none] M:=rfl
def zT(ad:Ad)(S_q25 S_q28 S_q31 S_q20:Sd)(EE:DX):aM:=
 (cf (ax S_q28 EE 3 (ac (ae 0) (ac (ae 4) (ac (aB cr (ae 2) (bX (ac (ae 3) ak))) ak)))))
def T_q25(ad:Ad)(S_q25 S_q28 S_q31 S_q20:Sd)(EE:DX):aM:=
 (dFor (B2 (ac (ae 1) ak)) (kf 2 (c8 (au 3) (c8 (au 4) ki))) (zT ad S_q25 S_q28 S_q31 S_q20 EE))
def zf(ad:Ad)(S_q25 S_q28 S_q31 S_q20:Sd)(EE:DX):aM:=
 (cf (ax S_q31 EE 3 (ac (ae 0) (ac (ae 1) (ac (ae 2) ak)))))
def yt(ad:Ad)(S_q25 S_q28 S_q31 S_q20:Sd)(EE:DX):aM:=
 (cf (ax S_q20 EE 3 (ac (ae 0) (ac (ae 1) (ac (ae 2) ak)))))
def zd(ad:Ad)(S_q25 S_q28 S_q31 S_q20:Sd)(EE:DX):aM:=
 (b0 (ae 3) (iD (gH ad.C_Walk (ae 0) "numbers") (aB bd (ae 1) (dC (.int 1)))))
def ze(ad:Ad)(S_q25 S_q28 S_q31 S_q20:Sd)(EE:DX):aM:=
 (aE (cf (k8 ad.C_Walk "note_step" (qm ad) EE 3 (ae 0) (ac (ae 2) (ac (ae 3) ak))))
    (zd ad S_q25 S_q28 S_q31 S_q20 EE))
def xG(ad:Ad)(S_q25 S_q28 S_q31 S_q20:Sd)(EE:DX):aM:=
 (aE (b0 (aF (ax (mn ad) EE 4 (ac (gH ad.C_Walk (ae 0) "plan") (ac (gH ad.C_Walk (ae 0) "numbers") (ac (gH ad.C_Walk (ae 0) "pieces") (ac (ae 1) ak)))))) (au 3))
    (ze ad S_q25 S_q28 S_q31 S_q20 EE))
def yc(ad:Ad)(S_q25 S_q28 S_q31 S_q20:Sd)(EE:DX):aM:=
 (bi (aI (aB dh (aB bd (ae 1) (dC (.int 0))) (dC (.str "again")))) (yt ad S_q25 S_q28 S_q31 S_q20 EE) (xG ad S_q25 S_q28 S_q31 S_q20 EE))
def fF(ad:Ad)(S_q25 S_q28 S_q31 S_q20:Sd)(EE:DX):aM:=
 (bi (aI (aB dh (aB bd (ae 1) (dC (.int 0))) (dC (.str "if")))) (zf ad S_q25 S_q28 S_q31 S_q20 EE) (yc ad S_q25 S_q28 S_q31 S_q20 EE))
def xN(ad:Ad)(S_q25 S_q28 S_q31 S_q20:Sd)(EE:DX):aM:=
 (cf (ax S_q25 EE 3 (ac (ae 0) (ac (vJ (aI (aB dh (ae 3) (dC (.int 1)))) (aB bd (ae 1) (dC (.int 2))) (aB bd (ae 1) (dC (.int 3)))) (ac (aB cr (ae 2) (bX (ac (ae 3) ak))) ak)))))
def T_q31(ad:Ad)(S_q25 S_q28 S_q31 S_q20:Sd)(EE:DX):aM:=
 (aE (b0 (aF (k8 ad.C_Walk "look" (kS ad) EE 3 (ae 0) (ac (ae 2) (ac (aB bd (ae 1) (dC (.int 1))) ak)))) (au 3))
  (xN ad S_q25 S_q28 S_q31 S_q20 EE))
def AA(ad:Ad)(S_q25 S_q28 S_q31 S_q20:Sd)(EE:DX):aM:=
 (aE (cf (ax S_q25 EE 3 (ac (ae 0) (ac (aB bd (ae 1) (dC (.int 2))) (ac (aB cr (ae 2) (bX (ac (ae 3) ak))) ak)))))
   (u0 3 (dC (.int 1)) qS))
def zU(ad:Ad)(S_q25 S_q28 S_q31 S_q20:Sd)(EE:DX):aM:=
 (dWhile (aI (aB dh (aF (k8 ad.C_Walk "look" (kS ad) EE 3 (ae 0) (ac (aB cr (ae 2) (bX (ac (ae 3) ak))) (ac (aB bd (ae 1) (dC (.int 1))) ak)))) (dC (.int 1)))) (AA ad S_q25 S_q28 S_q31 S_q20 EE))
def T_q20(ad:Ad)(S_q25 S_q28 S_q31 S_q20:Sd)(EE:DX):aM:=
 (aE (b0 (dC (.int 0)) (au 3))
  (zU ad S_q25 S_q28 S_q31 S_q20 EE))
mutual
def S_q25(ad:Ad):Nat->Sd
 |0=>fun _ _ _ _=>False
 |n+1=>bu ["walk","rows","place","j","row"] (T_q25 ad (S_q25 ad n) (S_q28 ad n) (S_q31 ad n) (S_q20 ad n))
def S_q28(ad:Ad):Nat->Sd
 |0=>fun _ _ _ _=>False
 |n+1=>bu ["walk","row","place","number"] (fF ad (S_q25 ad n) (S_q28 ad n) (S_q31 ad n) (S_q20 ad n))
def S_q31(ad:Ad):Nat->Sd
 |0=>fun _ _ _ _=>False
 |n+1=>bu ["walk","row","place","seen"] (T_q31 ad (S_q25 ad n) (S_q28 ad n) (S_q31 ad n) (S_q20 ad n))
def S_q20(ad:Ad):Nat->Sd
 |0=>fun _ _ _ _=>False
 |n+1=>bu ["walk","row","place","turn"] (T_q20 ad (S_q25 ad n) (S_q28 ad n) (S_q31 ad n) (S_q20 ad n))
end
theorem u_q25{ad:Ad}{n:Nat}{x0 x1 x2:D}{M:Mem}{Q:DK}{E:DX}:S_q25 ad (n+1) [x0,x1,x2] M Q E=T_q25 ad (S_q25 ad n) (S_q28 ad n) (S_q31 ad n) (S_q20 ad n) (drpX E) { nx:=fun _ M'=>drp Q .non M',rt:=drp Q } [some x0,some x1,some x2,none,none] M:=rfl
theorem kF{ad:Ad}{n:Nat}{x0 x1 x2:D}{M:Mem}{Q:DK}{E:DX}:S_q28 ad (n+1) [x0,x1,x2] M Q E=fF ad (S_q25 ad n) (S_q28 ad n) (S_q31 ad n) (S_q20 ad n) (drpX E) { nx:=fun _ M'=>drp Q .non M',rt:=drp Q } [some x0,some x1,some x2,none] M:=rfl
theorem u_q31{ad:Ad}{n:Nat}{x0 x1 x2:D}{M:Mem}{Q:DK}{E:DX}:S_q31 ad (n+1) [x0,x1,x2] M Q E=T_q31 ad (S_q25 ad n) (S_q28 ad n) (S_q31 ad n) (S_q20 ad n) (drpX E) { nx:=fun _ M'=>drp Q .non M',rt:=drp Q } [some x0,some x1,some x2,none] M:=rfl
theorem u_q20{ad:Ad}{n:Nat}{x0 x1 x2:D}{M:Mem}{Q:DK}{E:DX}:S_q20 ad (n+1) [x0,x1,x2] M Q E=T_q20 ad (S_q25 ad n) (S_q28 ad n) (S_q31 ad n) (S_q20 ad n) (drpX E) { nx:=fun _ M'=>drp Q .non M',rt:=drp Q } [some x0,some x1,some x2,none] M:=rfl
def zk(ad:Ad)(EE:DX):aM:=
 (aT (bX (ac (gH ad.C_Walk (ae 3) "steps") (ac (c9 cG (ac (aF (aP (dw (aB bd (ae 0) (dC (.int 1)))) ["name"] [3] (au 0) cg (aB bd (gH ad.C_Walk (ae 1) "numbers") (ae 0)))) ak)) ak))))
def As(ad:Ad)(EE:DX):aM:=
 (aE (EZ ad.C_Dry (S_q25 ad 24) 3 (ac (ae 3) (ac (aB bd (ae 0) (dC (.int 3))) (ac (bX ak) ak))) (aT (bX (ac (gH ad.C_Walk (ae 3) "steps") (ac (dC .non) ak)))))
  (zk ad EE))
def mI(ad:Ad)(EE:DX):aM:=
 (aE (b0 (AV ad.C_Walk (y3 ad) EE 4 (ac (ae 0) (ac (ae 1) (ac (ae 2) ak)))) (au 3))
  (As ad EE))
def jo(ad:Ad):Sd:=bu ["plan","stand","most","walk"] (mI ad)
theorem FH{ad:Ad}{n:Nat}{x0 x1 x2:D}{M:Mem}{Q:DK}{E:DX}:jo ad [x0,x1,x2] M Q E=mI ad (drpX E) { nx:=fun _ M'=>drp Q .non M',rt:=drp Q } [some x0,some x1,some x2,none] M:=rfl
def xr(ad:Ad)(EE:DX):aM:=
 (aT (aB bd (ae 3) (dTM pH (aB bd (ae 0) (dC (.int 1))) (ac (aB bd (ae 0) (dC (.int 4))) ak))))
def yE(ad:Ad)(EE:DX):aM:=
 (aE (bi (aI (aB wI (ae 3) (dC .non))) (aT (dC .non)) aQ)
  (xr ad EE))
def nR(ad:Ad)(EE:DX):aM:=
 (aE (b0 (aB bd (qY (ax (jo ad) EE 3 (ac (ae 0) (ac (ae 1) (ac (ae 2) ak))))) (dC (.int 1))) (au 3))
  (yE ad EE))
def mq(ad:Ad):Sd:=bu ["plan","stand","most","end"] (nR ad)
theorem Fd{ad:Ad}{n:Nat}{x0 x1 x2:D}{M:Mem}{Q:DK}{E:DX}:mq ad [x0,x1,x2] M Q E=nR ad (drpX E) { nx:=fun _ M'=>drp Q .non M',rt:=drp Q } [some x0,some x1,some x2,none] M:=rfl
def A5(ad:Ad)(EE:DX):aM:=
 (aT (c9 pS (ac (aF (aP (Ex (ae 0)) ["sign"] [] (au 0) cg (eV xu xu (dC (.str "a")) (ae 0) (dC (.str "z"))))) ak)))
def n_(ad:Ad)(EE:DX):aM:=
 (aE (bi (xg (fC (cY (c9 bY (ac (ae 0) (ac (dC (.ty "str")) ak))))) (fC (aI (eV Ds Ds (dC (.int 1)) (c9 cV (ac (ae 0) ak)) (dC (.int 8)))))) (aT (dC (.bl false))) aQ)
  (A5 ad EE))
def rA(ad:Ad):Sd:=bu ["thing"] (n_ ad)
theorem EM{ad:Ad}{n:Nat}{x0:D}{M:Mem}{Q:DK}{E:DX}:rA ad [x0] M Q E=n_ ad (drpX E) { nx:=fun _ M'=>drp Q .non M',rt:=drp Q } [some x0] M:=rfl
def zG(ad:Ad)(EE:DX):aM:=
 (aT (f_ (c9 pS (ac (aF (aP (dw (ae 0)) ["part"] [] (au 0) cg (aF (ax (rA ad) NoX 1 (ac (ae 0) ak))))) ak)) (aB dh (rf (ac (ae 0) ak)) (c9 cV (ac (ae 0) ak)))))
def nK(ad:Ad)(EE:DX):aM:=
 (aE (bi (xg (fC (cY (c9 bY (ac (ae 0) (ac (dC (.ty "tuple")) ak))))) (fC (aI (eV Ds Ds (dC (.int 1)) (c9 cV (ac (ae 0) ak)) (dC (.int 12)))))) (aT (dC (.bl false))) aQ)
  (zG ad EE))
def rB(ad:Ad):Sd:=bu ["thing"] (nK ad)
theorem G1{ad:Ad}{n:Nat}{x0:D}{M:Mem}{Q:DK}{E:DX}:rB ad [x0] M Q E=nK ad (drpX E) { nx:=fun _ M'=>drp Q .non M',rt:=drp Q } [some x0] M:=rfl
def nj(ad:Ad)(EE:DX):aM:=
 (aT (f_ (c9 bY (ac (ae 1) (ac (dC (.ty "str")) ak))) (aB F5 (ae 1) (aB bd (ae 0) (dC (.int 1))))))
def uB(ad:Ad):Sd:=bu ["plan","thing"] (nj ad)
theorem Ax{ad:Ad}{n:Nat}{x0 x1:D}{M:Mem}{Q:DK}{E:DX}:uB ad [x0,x1] M Q E=nj ad (drpX E) { nx:=fun _ M'=>drp Q .non M',rt:=drp Q } [some x0,some x1] M:=rfl
def mQ(ad:Ad)(EE:DX):aM:=
 (aE (bi (xg (fC (cY (c9 bY (ac (ae 0) (ac (dC (.ty "int")) ak))))) (cY (c9 bY (ac (ae 0) (ac (dC (.ty "bool")) ak))))) (aT (dC (.bl false))) aQ)
  (aT (eV Ds Ds (ae 1) (ae 0) (ae 2))))
def jV(ad:Ad):Sd:=bu ["thing","least","most"] (mQ ad)
theorem Fu{ad:Ad}{n:Nat}{x0 x1 x2:D}{M:Mem}{Q:DK}{E:DX}:jV ad [x0,x1,x2] M Q E=mQ ad (drpX E) { nx:=fun _ M'=>drp Q .non M',rt:=drp Q } [some x0,some x1,some x2] M:=rfl
def xM(ad:Ad)(EE:DX):aM:=
 (aT (ax (uB ad) EE 2 (ac (ae 0) (ac (ae 2) ak))))
def A4(ad:Ad)(EE:DX):aM:=
 (aT (ax (jV ad) EE 3 (ac (ae 2) (ac (dC (.int 0)) (ac (aB oZ (aB bd (ae 0) (dC (.int 0))) (dC (.int 1))) ak)))))
def zh(ad:Ad)(EE:DX):aM:=
 (aT (ax (jV ad) EE 3 (ac (ae 2) (ac (dC (.int 0)) (ac (aB oZ (aB bd (ae 0) (dC (.int 2))) (dC (.int 1))) ak)))))
def xq(ad:Ad)(EE:DX):aM:=
 (aE (bi (aI (aB dh (ae 1) (dC (.str "piece")))) (zh ad EE) aQ)
  (aT (dC (.bl true))))
def ya(ad:Ad)(EE:DX):aM:=
 (aE (bi (aI (aB dh (ae 1) (dC (.str "number")))) (A4 ad EE) aQ)
  (xq ad EE))
def il(ad:Ad)(EE:DX):aM:=
 (aE (bi (aI (aB dh (ae 1) (dC (.str "name")))) (xM ad EE) aQ)
  (ya ad EE))
def fH(ad:Ad):Sd:=bu ["plan","kind","thing"] (il ad)
theorem qL{ad:Ad}{n:Nat}{x0 x1 x2:D}{M:Mem}{Q:DK}{E:DX}:fH ad [x0,x1,x2] M Q E=il ad (drpX E) { nx:=fun _ M'=>drp Q .non M',rt:=drp Q } [some x0,some x1,some x2] M:=rfl
def y2(ad:Ad)(EE:DX):aM:=
 (aT (c9 pS (ac (aF (aP (Cn (ac (aB (wj aS ad.g_PARTS) (dC (.ref ad.g_PARTS)) (ae 3)) (ac (aF (Ei (ae 1) (kz (dC (.int 1))) fc)) ak))) ["kind","part"] [0] (kf 2 (c8 (au 0) (c8 (au 1) ki))) cg (aF (ax (fH ad) NoX 3 (ac (ae 2) (ac (ae 0) (ac (ae 1) ak))))))) ak)))
def yB(ad:Ad)(EE:DX):aM:=
 (aE (bi (kh (aI (aB F5 (dC (.str "rows")) (aB (wj aS ad.g_PARTS) (dC (.ref ad.g_PARTS)) (ae 3)))) (aI (aB dh (ae 2) (dC (.int 4))))) (aT (dC (.bl false))) aQ)
  (y2 ad EE))
def zZ(ad:Ad)(EE:DX):aM:=
 (aE (bi (kh (aI (aB dh (ae 3) (dC (.str "pick")))) (aI (aB dh (aB bd (ae 0) (dC (.int 2))) (dC (.int 0))))) (aT (dC (.bl false))) aQ)
  (yB ad EE))
def zX(ad:Ad)(EE:DX):aM:=
 (aE (bi (xg (aI (aB (m7 aS ad.g_PARTS) (ae 3) (dC (.ref ad.g_PARTS)))) (aI (aB tJ (c9 cV (ac (ae 1) ak)) (aB cr (c9 cV (ac (aB (wj aS ad.g_PARTS) (dC (.ref ad.g_PARTS)) (ae 3)) ak)) (dC (.int 1)))))) (aT (dC (.bl false))) aQ)
  (zZ ad EE))
def xn(ad:Ad)(EE:DX):aM:=
 (aE (b0 (aB bd (ae 1) (dC (.int 0))) (au 3))
  (zX ad EE))
def cQ(ad:Ad)(EE:DX):aM:=
 (aE (bi (xg (fC (cY (c9 bY (ac (ae 1) (ac (dC (.ty "tuple")) ak))))) (xg (aI (aB dh (c9 cV (ac (ae 1) ak)) (dC (.int 0)))) (fC (cY (c9 bY (ac (aB bd (ae 1) (dC (.int 0))) (ac (dC (.ty "str")) ak))))))) (aT (dC (.bl false))) aQ)
  (xn ad EE))
def kP(ad:Ad):Sd:=bu ["plan","thing","depth","word"] (cQ ad)
theorem el{ad:Ad}{n:Nat}{x0 x1 x2:D}{M:Mem}{Q:DK}{E:DX}:kP ad [x0,x1,x2] M Q E=cQ ad (drpX E) { nx:=fun _ M'=>drp Q .non M',rt:=drp Q } [some x0,some x1,some x2,none] M:=rfl
def C_(ad:Ad)(EE:DX):aM:=
 (aT (cC (ac (aB bd (ae 0) (dC (.int 2))) (ac (aB bd (ae 0) (dC (.int 3))) ak))))
def Bj(ad:Ad)(EE:DX):aM:=
 (aE (bi (aI (aB dh (aB bd (ae 0) (dC (.int 0))) (dC (.str "again")))) (aT (cC (ac (aB bd (ae 0) (dC (.int 2))) ak))) aQ)
  (aT (cC ak)))
def iE(ad:Ad)(EE:DX):aM:=
 (aE (bi (aI (aB dh (aB bd (ae 0) (dC (.int 0))) (dC (.str "if")))) (C_ ad EE) aQ)
  (Bj ad EE))
def qi(ad:Ad):Sd:=bu ["row"] (iE ad)
theorem mP{ad:Ad}{n:Nat}{x0:D}{M:Mem}{Q:DK}{E:DX}:qi ad [x0] M Q E=iE ad (drpX E) { nx:=fun _ M'=>drp Q .non M',rt:=drp Q } [some x0] M:=rfl
def zW(ad:Ad)(EE:DX):aM:=
 (cf (oq "list" gp (ae 2) (ac (aF (aP (dw (aF (ax (qi ad) EE 1 (ac (ae 6) ak)))) ["part"] [5] (au 0) cg (bX (ac (ae 0) (ac (aB cr (ae 1) (dC (.int 1))) ak))))) ak)))
def y6(ad:Ad)(EE:DX):aM:=
 (aE (bi (fC (cY (c9 pS (ac (aF (aP (dw (ae 4)) ["row"] [0,5] (au 0) cg (aF (ax (kP ad) NoX 3 (ac (ae 1) (ac (ae 0) (ac (ae 2) ak))))))) ak)))) (aT (dC (.bl false))) aQ)
   (dFor (dw (ae 4)) (au 6) (zW ad EE)))
def z0(ad:Ad)(EE:DX):aM:=
 (aE (bi (aI (aB AD (ae 1) (dC (.int 60)))) (aT (dC (.bl false))) aQ)
   (y6 ad EE))
def Ae(ad:Ad)(EE:DX):aM:=
 (aE (u0 1 (c9 cV (ac (ae 4) ak)) qS)
   (z0 ad EE))
def Av(ad:Ad)(EE:DX):aM:=
 (aE (bi (fC (cY (c9 bY (ac (ae 4) (ac (dC (.ty "tuple")) ak))))) (aT (dC (.bl false))) aQ)
   (Ae ad EE))
def zc(ad:Ad)(EE:DX):aM:=
 (aE (b0 (aB bd (ae 3) (dC (.int 1))) (au 5))
   (Av ad EE))
def y8(ad:Ad)(EE:DX):aM:=
 (aE (b0 (aB bd (ae 3) (dC (.int 0))) (au 4))
   (zc ad EE))
def Aj(ad:Ad)(EE:DX):aM:=
 (aE (b0 (oq "list" sj (ae 2) ak) (au 3))
   (y8 ad EE))
def At(ad:Ad)(EE:DX):aM:=
 (aE (dWhile (cY (ae 2)) (Aj ad EE))
  (aT (dC (.bl true))))
def t_(ad:Ad)(EE:DX):aM:=
 (aE (b0 (cC (ac (bX (ac (aB bd (ae 0) (dC (.int 3))) (ac (dC (.int 0)) ak))) ak)) (au 2))
  (At ad EE))
def mD(ad:Ad)(EE:DX):aM:=
 (aE (b0 (dC (.int 0)) (au 1))
  (t_ ad EE))
def rj(ad:Ad):Sd:=bu ["plan","count","waiting","rows_and_depth","rows","depth","row"] (mD ad)
theorem Em{ad:Ad}{n:Nat}{x0:D}{M:Mem}{Q:DK}{E:DX}:rj ad [x0] M Q E=mD ad (drpX E) { nx:=fun _ M'=>drp Q .non M',rt:=drp Q } [some x0,none,none,none,none,none,none] M:=rfl
def zO(ad:Ad)(EE:DX):aM:=
 (aT (f_ (aF (ax (rB ad) EE 1 (ac (aB bd (ae 0) (dC (.int 1))) ak))) (f_ (aF (ax (uB ad) EE 2 (ac (ae 0) (ac (aB bd (ae 0) (dC (.int 4))) ak)))) (aF (ax (rj ad) EE 1 (ac (ae 0) ak))))))
def zb(ad:Ad)(EE:DX):aM:=
 (aE (bi (xg (fC (cY (aF (ax (jV ad) EE 3 (ac (aB bd (ae 0) (dC (.int 0))) (ac (dC (.int 2)) (ac (dC (.int 997)) ak))))))) (fC (cY (aF (ax (jV ad) EE 3 (ac (aB bd (ae 0) (dC (.int 2))) (ac (dC (.int 0)) (ac (dC (.int 40)) ak)))))))) (aT (dC (.bl false))) aQ)
  (zO ad EE))
def mU(ad:Ad)(EE:DX):aM:=
 (aE (bi (xg (fC (cY (c9 bY (ac (ae 0) (ac (dC (.ty "tuple")) ak))))) (aI (aB tJ (c9 cV (ac (ae 0) ak)) (dC (.int 5))))) (aT (dC (.bl false))) aQ)
  (zb ad EE))
def nB(ad:Ad):Sd:=bu ["thing"] (mU ad)
theorem Ez{ad:Ad}{n:Nat}{x0:D}{M:Mem}{Q:DK}{E:DX}:nB ad [x0] M Q E=mU ad (drpX E) { nx:=fun _ M'=>drp Q .non M',rt:=drp Q } [some x0] M:=rfl
def DF(ad:Ad)(S_q2:Sd)(EE:DX):aM:=
 (cf (oq "list" gp (ae 1) (ac (aF (ax S_q2 EE 1 (ac (ae 3) ak))) ak)))
def DM(ad:Ad)(S_q2:Sd)(EE:DX):aM:=
 (dFor (dw (aF (ax (qi ad) EE 1 (ac (ae 2) ak)))) (au 3) (DF ad S_q2 EE))
def CS(ad:Ad)(S_q2:Sd)(EE:DX):aM:=
 (aE (bi (kh (aI (aB tJ (aB bd (ae 2) (dC (.int 0))) (dC (.str "if")))) (aI (aB tJ (aB bd (ae 2) (dC (.int 0))) (dC (.str "again"))))) (cf (oq "list" cH (ae 1) (ac (ae 2) ak))) aQ)
   (DM ad S_q2 EE))
def Dk(ad:Ad)(S_q2:Sd)(EE:DX):aM:=
 (aE (dFor (dw (ae 0)) (au 2) (CS ad S_q2 EE))
  (aT (ae 1)))
def wQ(ad:Ad)(S_q2:Sd)(EE:DX):aM:=
 (aE (b0 (cC ak) (au 1))
  (Dk ad S_q2 EE))
def S_q2(ad:Ad):Nat->Sd
 |0=>fun _ _ _ _=>False
 |n+1=>bu ["rows","found","row","part"] (wQ ad (S_q2 ad n))
theorem u_q2{ad:Ad}{n:Nat}{x0:D}{M:Mem}{Q:DK}{E:DX}:S_q2 ad (n+1) [x0] M Q E=wQ ad (S_q2 ad n) (drpX E) { nx:=fun _ M'=>drp Q .non M',rt:=drp Q } [some x0,none,none,none] M:=rfl
def nT(ad:Ad)(EE:DX):aM:=
 (aT (o9 (ac (aF (aP (dw (aF (ax (S_q2 ad 24) EE 1 (ac (ae 0) ak)))) ["row"] [] (au 0) cg (aB bd (ae 0) (dC (.int 1))))) ak)))
def mB(ad:Ad):Sd:=bu ["rows"] (nT ad)
theorem Es{ad:Ad}{n:Nat}{x0:D}{M:Mem}{Q:DK}{E:DX}:mB ad [x0] M Q E=nT ad (drpX E) { nx:=fun _ M'=>drp Q .non M',rt:=drp Q } [some x0] M:=rfl
def A2(ad:Ad)(EE:DX):aM:=
 (aT (jg (ac (aB bd (ae 0) (dC (.int 2))) ak)))
def Az(ad:Ad)(EE:DX):aM:=
 (aT (kH (ac (aF (aP (dw (ae 2)) ["row"] [] (au 0) (aI (aB dh (aB bd (ae 0) (dC (.int 0))) (dC (.str "take")))) (aB bd (ae 0) (dC (.int 2))))) ak)))
def zn(ad:Ad)(EE:DX):aM:=
 (aE (bi (cY (c9 Dp (ac (aF (aP (dw (ae 2)) ["row"] [] (au 0) cg (aB dh (aB bd (ae 0) (dC (.int 0))) (dC (.str "pick"))))) ak))) (A2 ad EE) aQ)
  (Az ad EE))
def mm(ad:Ad)(EE:DX):aM:=
 (aE (b0 (aF (ax (S_q2 ad 24) EE 1 (ac (ae 1) ak))) (au 2))
  (zn ad EE))
def nA(ad:Ad):Sd:=bu ["plan","rows","found"] (mm ad)
theorem Fl{ad:Ad}{n:Nat}{x0 x1:D}{M:Mem}{Q:DK}{E:DX}:nA ad [x0,x1] M Q E=mm ad (drpX E) { nx:=fun _ M'=>drp Q .non M',rt:=drp Q } [some x0,some x1,none] M:=rfl
def CK(ad:Ad)(EE:DX):aM:=
 (aE (b0 (aB g9 (aB lR (aB EB (ae 2) (aB nF (ae 2) (dC (.int 2147483648)))) (dC (.int 2685821657736338717))) (dC (.int 18446744073709551616))) (au 2))
  (aT (aB nF (ae 2) (dC (.int 1048576)))))
def uN(ad:Ad)(EE:DX):aM:=
 (aE (b0 (aB g9 (aB cr (aB cr (aB lR (ae 0) (dC (.int 6364136223846793005))) (aB lR (ae 1) (dC (.int 1442695040888963407)))) (dC (.int 97))) (dC (.int 18446744073709551616))) (au 2))
  (CK ad EE))
def qc(ad:Ad):Sd:=bu ["cell","turn","one"] (uN ad)
theorem u_q4{ad:Ad}{n:Nat}{x0 x1:D}{M:Mem}{Q:DK}{E:DX}:qc ad [x0,x1] M Q E=uN ad (drpX E) { nx:=fun _ M'=>drp Q .non M',rt:=drp Q } [some x0,some x1,none] M:=rfl
def xz(ad:Ad)(EE:DX):aM:=
 (b0 (aB g9 (aB cr (aB lR (ae 1) (dC (.int 1000003))) (ae 2)) (dC (.int 18446744073709551616))) (au 1))
def zo(ad:Ad)(EE:DX):aM:=
 (aT (cC (ac (c9 wE (ac (aF (Ei (ae 0) fc (kz (dC (.int 63))))) ak)) (ac (dC (.int 0)) (ac (dC (.int 0)) (ac (ae 1) ak))))))
def yp(ad:Ad)(EE:DX):aM:=
 (aE (dFor (dw (aF (Ei (ae 0) fc (kz (dC (.int 63)))))) (au 2) (xz ad EE))
  (zo ad EE))
def nz(ad:Ad)(EE:DX):aM:=
 (aE (b0 (dC (.int 7)) (au 1))
  (yp ad EE))
def oK(ad:Ad):Sd:=bu ["script","seed","cell"] (nz ad)
theorem Ep{ad:Ad}{n:Nat}{x0:D}{M:Mem}{Q:DK}{E:DX}:oK ad [x0] M Q E=nz ad (drpX E) { nx:=fun _ M'=>drp Q .non M',rt:=drp Q } [some x0,none,none] M:=rfl
def yx(ad:Ad)(EE:DX):aM:=
 (aT (aB g9 (aF (ax (qc ad) EE 2 (ac (ae 2) (ac (aB bd (ae 0) (dC (.int 1))) ak)))) (ae 1)))
def yh(ad:Ad)(EE:DX):aM:=
 (aE (bi (aI (aB Ci (ae 2) (aB BF (dC (.int 10)) (dC (.int 18))))) (yx ad EE) aQ)
   (b0 (ae 2) (iD (ae 0) (dC (.int 2)))))
def zg(ad:Ad)(EE:DX):aM:=
 (aE (b0 (oq "list" sj (aB bd (ae 0) (dC (.int 0))) (ac (dC (.int 0)) ak)) (au 2))
   (yh ad EE))
def zp(ad:Ad)(EE:DX):aM:=
 (aT (aB g9 (aF (ax (qc ad) EE 2 (ac (aB bd (ae 0) (dC (.int 3))) (ac (aB bd (ae 0) (dC (.int 1))) ak)))) (ae 1)))
def yL(ad:Ad)(EE:DX):aM:=
 (aE (b0 (aB nF (aB bd (ae 0) (dC (.int 2))) (ae 1)) (iD (ae 0) (dC (.int 2))))
  (aT (ae 3)))
def yj(ad:Ad)(EE:DX):aM:=
 (aE (b0 (aB g9 (aB bd (ae 0) (dC (.int 2))) (ae 1)) (au 3))
  (yL ad EE))
def zu(ad:Ad)(EE:DX):aM:=
 (aE (bi (aI (aB dh (aB bd (ae 0) (dC (.int 2))) (dC (.int 0)))) (zp ad EE) aQ)
  (yj ad EE))
def xm(ad:Ad)(EE:DX):aM:=
 (aE (bi (kh (aI (aB dh (aB bd (ae 0) (dC (.int 2))) (dC (.int 0)))) (aI (aB tJ (aB bd (ae 0) (dC (.int 0))) (aF (cC ak))))) (zg ad EE) aQ)
  (zu ad EE))
def ou(ad:Ad)(EE:DX):aM:=
 (aE (b0 (aB cr (aB bd (ae 0) (dC (.int 1))) (dC (.int 1))) (iD (ae 0) (dC (.int 1))))
  (xm ad EE))
def bt(ad:Ad):Sd:=bu ["pot","many","cell","found"] (ou ad)
theorem Ev{ad:Ad}{n:Nat}{x0 x1:D}{M:Mem}{Q:DK}{E:DX}:bt ad [x0,x1] M Q E=ou ad (drpX E) { nx:=fun _ M'=>drp Q .non M',rt:=drp Q } [some x0,some x1,none,none] M:=rfl
def CM(ad:Ad)(EE:DX):aM:=
 (cf (oq "list" cH (ae 3) (ac (aB lR (ae 5) (aB cr (dC (.int 1)) (aF (ax (bt ad) EE 2 (ac (ae 0) (ac (dC (.int 8)) ak)))))) ak)))
def CO(ad:Ad)(EE:DX):aM:=
 (aE (b0 (aB bd (dC (.str "abcdefghijklmnopqrstuvwxyz")) (aB g9 (aB cr (ae 2) (aB lR (dC (.int 7)) (ae 4))) (dC (.int 26)))) (au 5))
   (CM ad EE))
def Bo(ad:Ad)(EE:DX):aM:=
 (aE (dFor (rg (ac (ae 1) ak)) (au 4) (CO ad EE))
  (aT (c9 cG (ac (ae 3) ak))))
def v8(ad:Ad)(EE:DX):aM:=
 (aE (b0 (aF (ax (bt ad) EE 2 (ac (ae 0) (ac (dC (.int 26)) ak)))) (au 2))
  (aE (b0 (cC ak) (au 3))
  (Bo ad EE)))
def vR(ad:Ad):Sd:=bu ["pot","many","turn","names","k","sign"] (v8 ad)
theorem u_q6{ad:Ad}{n:Nat}{x0 x1:D}{M:Mem}{Q:DK}{E:DX}:vR ad [x0,x1] M Q E=v8 ad (drpX E) { nx:=fun _ M'=>drp Q .non M',rt:=drp Q } [some x0,some x1,none,none,none,none] M:=rfl
def yl(ad:Ad)(EE:DX):aM:=
 (aT (bX (ac (ae 6) (ac (ae 7) (ac (ax (bt ad) EE 2 (ac (ae 0) (ac (ae 2) ak))) ak)))))
def yq(ad:Ad)(EE:DX):aM:=
 (aT (bX (ac (ae 6) (ac (ae 7) (ac (ax (bt ad) EE 2 (ac (ae 0) (ac (ae 4) ak))) ak)))))
def xK(ad:Ad)(EE:DX):aM:=
 (aT (bX (ac (ae 6) (ac (ae 7) (ac (ae 8) ak)))))
def Aq(ad:Ad)(EE:DX):aM:=
 (aT (bX (ac (ae 6) (ac (ae 7) (ac (ae 8) (ac (aB bd (ae 3) (aF (ax (bt ad) EE 2 (ac (ae 0) (ac (c9 cV (ac (ae 3) ak)) ak))))) ak))))))
def Ag(ad:Ad)(EE:DX):aM:=
 (aE (bi (aI (aB dh (ae 6) (dC (.str "pick")))) (xK ad EE) aQ)
  (Aq ad EE))
def zV(ad:Ad)(EE:DX):aM:=
 (aE (b0 (aB bd (ae 3) (aF (ax (bt ad) EE 2 (ac (ae 0) (ac (c9 cV (ac (ae 3) ak)) ak))))) (au 8))
  (Ag ad EE))
def xF(ad:Ad)(EE:DX):aM:=
 (aE (bi (aI (aB dh (ae 6) (dC (.str "take")))) (yq ad EE) aQ)
  (zV ad EE))
def xt(ad:Ad)(EE:DX):aM:=
 (aE (bi (aI (aB dh (ae 6) (dC (.str "put")))) (yl ad EE) aQ)
  (xF ad EE))
def zx(ad:Ad)(EE:DX):aM:=
 (aE (b0 (aB bd (ae 3) (aF (ax (bt ad) EE 2 (ac (ae 0) (ac (c9 cV (ac (ae 3) ak)) ak))))) (au 7))
  (xt ad EE))
def uX(ad:Ad)(EE:DX):aM:=
 (aE (b0 (aB bd (ae 5) (aF (ax (bt ad) EE 2 (ac (ae 0) (ac (vJ (aI (aB AD (ae 4) (dC (.int 0)))) (dC (.int 9)) (dC (.int 7))) ak))))) (au 6))
  (zx ad EE))
def ur(ad:Ad)(EE:DX):aM:=
 (aE (b0 (aF (cC (ac (dC (.str "put")) (ac (dC (.str "sum")) (ac (dC (.str "by")) (ac (dC (.str "less")) (ac (dC (.str "same")) (ac (dC (.str "sum")) (ac (dC (.str "put")) (ac (dC (.str "take")) (ac (dC (.str "pick")) ak))))))))))) (au 5))
  (uX ad EE))
def mY(ad:Ad)(EE:DX):aM:=
 (aE (b0 (ae 1) (kf 3 (c8 (au 2) (c8 (au 3) (c8 (au 4) ki)))))
  (ur ad EE))
def mJ(ad:Ad):Sd:=bu ["pot","told","m","names","many","ways","way","x","y"] (mY ad)
theorem Ek{ad:Ad}{n:Nat}{x0 x1:D}{M:Mem}{Q:DK}{E:DX}:mJ ad [x0,x1] M Q E=mY ad (drpX E) { nx:=fun _ M'=>drp Q .non M',rt:=drp Q } [some x0,some x1,none,none,none,none,none,none,none] M:=rfl
def C6(ad:Ad)(S_q7 S_q14:Sd)(EE:DX):aM:=
 (aT (cC (ac (bX (ac (dC (.str "if")) (ac (ae 7) (ac (ae 8) (ac (ax S_q14 EE 5 (ac (ae 0) (ac (ae 1) (ac (ae 2) (ac (aB cr (ae 3) (dC (.int 1))) (ac (dC (.int 5)) ak)))))) ak))))) ak)))
def Dw(ad:Ad)(S_q7 S_q14:Sd)(EE:DX):aM:=
 (aT (cC (ac (bX (ac (dC (.str "again")) (ac (ae 7) (ac (ae 8) ak)))) ak)))
def Bn(ad:Ad)(S_q7 S_q14:Sd)(EE:DX):aM:=
 (aT (cC (ac (bX (ac (dC (.str "put")) (ac (ae 7) (ac (ax (bt ad) EE 2 (ac (ae 0) (ac (c9 E8 (ac (ae 4) (ac (dC (.int 9)) ak))) ak))) ak)))) (ac (bX (ac (dC (.str "put")) (ac (ae 10) (ac (aB oZ (ae 4) (dC (.int 1))) ak)))) (ac (bX (ac (dC (.str "again")) (ac (ae 7) (ac (aB cr (ae 8) (bX (ac (bX (ac (dC (.str "sum")) (ac (ae 7) (ac (ae 7) (ac (ae 10) ak))))) ak))) ak)))) ak)))))
def BB(ad:Ad)(S_q7 S_q14:Sd)(EE:DX):aM:=
 (aE (b0 (aB bd (ae 5) (aF (ax (bt ad) EE 2 (ac (ae 0) (ac (c9 cV (ac (ae 5) ak)) ak))))) (au 10))
  (Bn ad S_q7 S_q14 EE))
def DB(ad:Ad)(S_q7 S_q14:Sd)(EE:DX):aM:=
 (aE (bi (aI (aB dh (ae 9) (dC (.int 2)))) (Dw ad S_q7 S_q14 EE) aQ)
  (BB ad S_q7 S_q14 EE))
def D4(ad:Ad)(S_q7 S_q14:Sd)(EE:DX):aM:=
 (aE (bi (aI (aB Ci (ae 9) (dC (.int 2)))) (C6 ad S_q7 S_q14 EE) aQ)
  (DB ad S_q7 S_q14 EE))
def BV(ad:Ad)(S_q7 S_q14:Sd)(EE:DX):aM:=
 (aE (b0 (aF (ax (bt ad) EE 2 (ac (ae 0) (ac (dC (.int 5)) ak)))) (au 9))
  (D4 ad S_q7 S_q14 EE))
def C1(ad:Ad)(S_q7 S_q14:Sd)(EE:DX):aM:=
 (aE (b0 (aF (ax S_q14 EE 5 (ac (ae 0) (ac (ae 1) (ac (ae 2) (ac (aB cr (ae 3) (dC (.int 1))) (ac (dC (.int 5)) ak))))))) (au 8))
  (BV ad S_q7 S_q14 EE))
def DV(ad:Ad)(S_q7 S_q14:Sd)(EE:DX):aM:=
 (aE (b0 (aB bd (ae 5) (aF (ax (bt ad) EE 2 (ac (ae 0) (ac (c9 cV (ac (ae 5) ak)) ak))))) (au 7))
  (C1 ad S_q7 S_q14 EE))
def vM(ad:Ad)(S_q7 S_q14:Sd)(EE:DX):aM:=
 (aE (b0 (ae 1) (kf 3 (c8 (au 4) (c8 (au 5) (c8 (au 6) ki)))))
  (DV ad S_q7 S_q14 EE))
def Al(ad:Ad)(S_q7 S_q14:Sd)(EE:DX):aM:=
 (b0 (aB cr (ae 5) (aF (ax S_q7 EE 4 (ac (ae 0) (ac (ae 1) (ac (ae 2) (ac (ae 3) ak))))))) (au 5))
def y4(ad:Ad)(S_q7 S_q14:Sd)(EE:DX):aM:=
 (aE (b0 (aB oZ (aB bd (ae 2) (dC (.int 0))) (dC (.int 4))) (iD (ae 2) (dC (.int 0))))
    (Al ad S_q7 S_q14 EE))
def y_(ad:Ad)(S_q7 S_q14:Sd)(EE:DX):aM:=
 (cf (oq "list" cH (ae 5) (ac (aF (ax (mJ ad) EE 2 (ac (ae 0) (ac (ae 1) ak)))) ak)))
def yT(ad:Ad)(S_q7 S_q14:Sd)(EE:DX):aM:=
 (aE (b0 (aB oZ (aB bd (ae 2) (dC (.int 0))) (dC (.int 1))) (iD (ae 2) (dC (.int 0))))
     (y_ ad S_q7 S_q14 EE))
def zM(ad:Ad)(S_q7 S_q14:Sd)(EE:DX):aM:=
 (bi (aI (aB AD (aB bd (ae 2) (dC (.int 0))) (dC (.int 0)))) (yT ad S_q7 S_q14 EE) aQ)
def xW(ad:Ad)(S_q7 S_q14:Sd)(EE:DX):aM:=
 (bi (kh (aI (aB AD (aB bd (ae 2) (dC (.int 0))) (dC (.int 4)))) (kh (aI (aB Ci (ae 3) (dC (.int 4)))) (aI (aB dh (aF (ax (bt ad) EE 2 (ac (ae 0) (ac (dC (.int 4)) ak)))) (dC (.int 0)))))) (y4 ad S_q7 S_q14 EE) (zM ad S_q7 S_q14 EE))
def yn(ad:Ad)(S_q7 S_q14:Sd)(EE:DX):aM:=
 (aE (dFor (rg (ac (aF (ax (bt ad) EE 2 (ac (ae 0) (ac (ae 4) ak)))) ak)) (au 6) (xW ad S_q7 S_q14 EE))
  (aT (c9 cG (ac (ae 5) ak))))
def T_q14(ad:Ad)(S_q7 S_q14:Sd)(EE:DX):aM:=
 (aE (b0 (cC ak) (au 5))
  (yn ad S_q7 S_q14 EE))
mutual
def S_q7(ad:Ad):Nat->Sd
 |0=>fun _ _ _ _=>False
 |n+1=>bu ["pot","told","room","deep","m","names","many","x","first","way","y"] (vM ad (S_q7 ad n) (S_q14 ad n))
def S_q14(ad:Ad):Nat->Sd
 |0=>fun _ _ _ _=>False
 |n+1=>bu ["pot","told","room","deep","most","rows","k"] (T_q14 ad (S_q7 ad n) (S_q14 ad n))
end
theorem u_q7{ad:Ad}{n:Nat}{x0 x1 x2 x3:D}{M:Mem}{Q:DK}{E:DX}:S_q7 ad (n+1) [x0,x1,x2,x3] M Q E=vM ad (S_q7 ad n) (S_q14 ad n) (drpX E) { nx:=fun _ M'=>drp Q .non M',rt:=drp Q } [some x0,some x1,some x2,some x3,none,none,none,none,none,none,none] M:=rfl
theorem u_q14{ad:Ad}{n:Nat}{x0 x1 x2 x3 x4:D}{M:Mem}{Q:DK}{E:DX}:S_q14 ad (n+1) [x0,x1,x2,x3,x4] M Q E=T_q14 ad (S_q7 ad n) (S_q14 ad n) (drpX E) { nx:=fun _ M'=>drp Q .non M',rt:=drp Q } [some x0,some x1,some x2,some x3,some x4,none,none] M:=rfl
def Au(ad:Ad)(EE:DX):aM:=
 (aT (bX (ac (ae 2) (ac (ae 3) (ac (ae 4) (ac (ae 5) (ac (aB bd (ae 3) (aF (ax (bt ad) EE 2 (ac (ae 0) (ac (c9 cV (ac (ae 3) ak)) ak))))) ak)))))))
def xR(ad:Ad)(EE:DX):aM:=
 (aE (b0 (aF (ax (S_q14 ad 24) EE 5 (ac (ae 0) (ac (bX (ac (ae 2) (ac (ae 3) (ac (ae 4) ak)))) (ac (cC (ac (ae 1) ak)) (ac (dC (.int 0)) (ac (aB bd (aF (cC (ac (dC (.int 6)) (ac (dC (.int 12)) (ac (dC (.int 30)) ak))))) (aF (ax (bt ad) EE 2 (ac (ae 0) (ac (dC (.int 3)) ak))))) ak))))))) (au 5))
  (Au ad EE))
def Ap(ad:Ad)(EE:DX):aM:=
 (aE (b0 (aB bd (aF (cC (ac (dC (.int 0)) (ac (aB cr (dC (.int 1)) (aF (ax (bt ad) EE 2 (ac (ae 0) (ac (dC (.int 4)) ak))))) (ac (aF (ax (bt ad) EE 2 (ac (ae 0) (ac (dC (.int 41)) ak)))) ak))))) (aF (ax (bt ad) EE 2 (ac (ae 0) (ac (dC (.int 3)) ak))))) (au 4))
  (xR ad EE))
def zN(ad:Ad)(EE:DX):aM:=
 (aE (b0 (aF (ax (vR ad) EE 2 (ac (ae 0) (ac (aB cr (dC (.int 1)) (aF (ax (bt ad) EE 2 (ac (ae 0) (ac (aB bd (aF (cC (ac (dC (.int 3)) (ac (dC (.int 5)) (ac (dC (.int 12)) ak))))) (aF (ax (bt ad) EE 2 (ac (ae 0) (ac (dC (.int 3)) ak))))) ak))))) ak)))) (au 3))
  (Ap ad EE))
def mT(ad:Ad)(EE:DX):aM:=
 (aE (b0 (aB bd (aF (cC (ac (dC (.int 2)) (ac (dC (.int 3)) (ac (aB cr (dC (.int 2)) (aF (ax (bt ad) EE 2 (ac (ae 0) (ac (dC (.int 9)) ak))))) (ac (aB cr (dC (.int 2)) (aF (ax (bt ad) EE 2 (ac (ae 0) (ac (dC (.int 996)) ak))))) ak)))))) (aF (ax (bt ad) EE 2 (ac (ae 0) (ac (dC (.int 4)) ak))))) (au 2))
  (zN ad EE))
def nw(ad:Ad):Sd:=bu ["pot","most","m","names","many","rows"] (mT ad)
theorem FJ{ad:Ad}{n:Nat}{x0 x1:D}{M:Mem}{Q:DK}{E:DX}:nw ad [x0,x1] M Q E=mT ad (drpX E) { nx:=fun _ M'=>drp Q .non M',rt:=drp Q } [some x0,some x1,none,none,none,none] M:=rfl
def Bu(ad:Ad)(EE:DX):aM:=
 (aT (bX (ac (ae 2) (ac (c9 cG (ac (aF (aP (rg (ac (aB bd (ae 1) (dC (.int 2))) ak)) ["k"] [0,1] (au 0) cg (aF (ax (bt ad) NoX 2 (ac (ae 1) (ac (aB bd (ae 2) (dC (.int 0))) ak)))))) ak)) ak))))
def vy(ad:Ad)(EE:DX):aM:=
 (aE (b0 (c9 cG (ac (aF (aP (dw (aB bd (ae 1) (dC (.int 1)))) ["name"] [0,1] (au 0) cg (aF (ax (bt ad) NoX 2 (ac (ae 1) (ac (aB bd (ae 2) (dC (.int 0))) ak)))))) ak)) (au 2))
  (Bu ad EE))
def ut(ad:Ad):Sd:=bu ["pot","plan","numbers"] (vy ad)
theorem u_q8{ad:Ad}{n:Nat}{x0 x1:D}{M:Mem}{Q:DK}{E:DX}:ut ad [x0,x1] M Q E=vy ad (drpX E) { nx:=fun _ M'=>drp Q .non M',rt:=drp Q } [some x0,some x1,none] M:=rfl
def yJ(ad:Ad)(S_q11:Sd)(EE:DX):aM:=
 (aT (f_ (c9 bY (ac (ae 0) (ac (dC (.ty "bool")) ak))) (aB dh (ae 0) (ae 1))))
def xx(ad:Ad)(S_q11:Sd)(EE:DX):aM:=
 (aT (f_ (c9 bY (ac (ae 0) (ac (dC (.ty "int")) ak))) (f_ (B4 (c9 bY (ac (ae 0) (ac (dC (.ty "bool")) ak)))) (aB dh (ae 0) (ae 1)))))
def Ao(ad:Ad)(S_q11:Sd)(EE:DX):aM:=
 (aT (f_ (c9 bY (ac (ae 0) (ac (dC (.ty "str")) ak))) (aB dh (ae 0) (ae 1))))
def yo(ad:Ad)(S_q11:Sd)(EE:DX):aM:=
 (aT (c9 pS (ac (aF (aP (Cn (ac (ae 0) (ac (ae 1) ak))) ["one","other"] [] (kf 2 (c8 (au 0) (c8 (au 1) ki))) cg (aF (ax S_q11 NoX 2 (ac (ae 0) (ac (ae 1) ak)))))) ak)))
def A3(ad:Ad)(S_q11:Sd)(EE:DX):aM:=
 (aE (bi (aI (aB tJ (c9 cV (ac (ae 0) ak)) (c9 cV (ac (ae 1) ak)))) (aT (dC (.bl false))) aQ)
  (yo ad S_q11 EE))
def yD(ad:Ad)(S_q11:Sd)(EE:DX):aM:=
 (aE (bi (xg (aI (aB tJ (c9 bY (ac (ae 1) (ac (dC (.ty "tuple")) ak))) (c9 bY (ac (ae 0) (ac (dC (.ty "tuple")) ak))))) (aI (aB tJ (c9 bY (ac (ae 1) (ac (dC (.ty "list")) ak))) (c9 bY (ac (ae 0) (ac (dC (.ty "list")) ak)))))) (aT (dC (.bl false))) aQ)
  (A3 ad S_q11 EE))
def xA(ad:Ad)(S_q11:Sd)(EE:DX):aM:=
 (aE (bi (cY (c9 bY (ac (ae 1) (ac (dC (.ty "str")) ak)))) (Ao ad S_q11 EE) aQ)
  (yD ad S_q11 EE))
def yG(ad:Ad)(S_q11:Sd)(EE:DX):aM:=
 (aE (bi (cY (c9 bY (ac (ae 1) (ac (dC (.ty "int")) ak)))) (xx ad S_q11 EE) aQ)
  (xA ad S_q11 EE))
def xB(ad:Ad)(S_q11:Sd)(EE:DX):aM:=
 (aE (bi (cY (c9 bY (ac (ae 1) (ac (dC (.ty "bool")) ak)))) (yJ ad S_q11 EE) aQ)
  (yG ad S_q11 EE))
def fG(ad:Ad)(S_q11:Sd)(EE:DX):aM:=
 (aE (bi (aI (aB wI (ae 1) (dC .non))) (aT (aB wI (ae 0) (dC .non))) aQ)
  (xB ad S_q11 EE))
def S_q11(ad:Ad):Nat->Sd
 |0=>fun _ _ _ _=>False
 |n+1=>bu ["found","due"] (fG ad (S_q11 ad n))
theorem kK{ad:Ad}{n:Nat}{x0 x1:D}{M:Mem}{Q:DK}{E:DX}:S_q11 ad (n+1) [x0,x1] M Q E=fG ad (S_q11 ad n) (drpX E) { nx:=fun _ M'=>drp Q .non M',rt:=drp Q } [some x0,some x1] M:=rfl
def CF(ad:Ad)(S_q3:Sd)(EE:DX):aM:=
 (cf (oq "list" cH (ae 2) (ac (aB cr (bX (ac (aB bd (ae 3) (dC (.int 0))) (ac (aB bd (ae 1) (aB bd (ae 3) (dC (.int 1)))) ak))) (c9 cG (ac (aF (aP (dw (aF (Ei (ae 3) (kz (dC (.int 2))) fc))) ["some"] [1] (au 0) cg (aF (ax S_q3 NoX 2 (ac (ae 0) (ac (ae 1) ak)))))) ak))) ak)))
def Dy(ad:Ad)(S_q3:Sd)(EE:DX):aM:=
 (cf (oq "list" cH (ae 2) (ac (aB cr (bX (ac (aB bd (ae 3) (dC (.int 0))) ak)) (c9 cG (ac (aF (aP (dw (aF (Ei (ae 3) (kz (dC (.int 1))) fc))) ["one"] [1] (au 0) cg (vJ (cY (c9 bY (ac (ae 0) (ac (dC (.ty "str")) ak)))) (aB bd (ae 1) (ae 0)) (ae 0)))) ak))) ak)))
def BP(ad:Ad)(S_q3:Sd)(EE:DX):aM:=
 (bi (aI (aB F5 (aB bd (ae 3) (dC (.int 0))) (aF (cC (ac (dC (.str "if")) (ac (dC (.str "again")) ak)))))) (CF ad S_q3 EE) (Dy ad S_q3 EE))
def BJ(ad:Ad)(S_q3:Sd)(EE:DX):aM:=
 (aE (dFor (dw (ae 0)) (au 3) (BP ad S_q3 EE))
  (aT (c9 cG (ac (ae 2) ak))))
def u6(ad:Ad)(S_q3:Sd)(EE:DX):aM:=
 (aE (b0 (cC ak) (au 2))
  (BJ ad S_q3 EE))
def S_q3(ad:Ad):Nat->Sd
 |0=>fun _ _ _ _=>False
 |n+1=>bu ["rows","names","made","row"] (u6 ad (S_q3 ad n))
theorem u_q3{ad:Ad}{n:Nat}{x0 x1:D}{M:Mem}{Q:DK}{E:DX}:S_q3 ad (n+1) [x0,x1] M Q E=u6 ad (S_q3 ad n) (drpX E) { nx:=fun _ M'=>drp Q .non M',rt:=drp Q } [some x0,some x1,none,none] M:=rfl
def qt(ad:Ad)(EE:DX):aM:=
 (cf (oq "list" cH (ae 8) (ac (oq "list" sj (ae 7) (ac (aF (ax (bt ad) EE 2 (ac (ae 1) (ac (c9 cV (ac (ae 7) ak)) ak)))) ak)) ak)))
def rM(ad:Ad)(EE:DX):aM:=
 (b0 (c9 cG (ac (aF (aP (dw (ae 8)) ["k"] [13] (au 0) cg (aB bd (ae 1) (ae 0)))) ak)) (au 13))
def xQ(ad:Ad)(EE:DX):aM:=
 (aT (ax (S_q11 ad 24) EE 2 (ac (aF (ax (nA ad) EE 2 (ac (ae 10) (ac (ae 9) ak)))) (ac (aF (ax (nA ad) EE 2 (ac (ae 2) (ac (aB bd (ae 2) (dC (.int 3))) ak)))) ak))))
def qG(ad:Ad)(EE:DX):aM:=
 (aE (bi (fC (cY (aF (ax (S_q11 ad 24) EE 2 (ac (aF (ax (mB ad) EE 1 (ac (ae 9) ak))) (ac (aF (c9 lJ (ac (aF (aP (dw (aF (ax (mB ad) EE 1 (ac (aB bd (ae 2) (dC (.int 3))) ak)))) ["name"] [6] (au 0) cg (aB bd (ae 1) (ae 0)))) ak))) ak)))))) (aT (dC (.bl false))) aQ)
  (xQ ad EE))
def qO(ad:Ad)(EE:DX):aM:=
 (aE (bi (fC (cY (aF (ax (S_q11 ad 24) EE 2 (ac (aF (ax (mq ad) EE 3 (ac (ae 10) (ac (ae 11) (ac (ae 4) ak))))) (ac (aF (ax (mq ad) EE 3 (ac (ae 2) (ac (ae 3) (ac (ae 4) ak))))) ak)))))) (aT (dC (.bl false))) aQ)
  (qG ad EE))
def lB(ad:Ad)(EE:DX):aM:=
 (aE (bi (fC (cY (aF (ax (S_q11 ad 24) EE 2 (ac (qY (ax (jo ad) EE 3 (ac (ae 10) (ac (ae 11) (ac (ae 4) ak))))) (ac (bX (ac (ae 12) (ac (ae 13) ak))) ak)))))) (aT (dC (.bl false))) aQ)
  (qO ad EE))
def rb(ad:Ad)(EE:DX):aM:=
 (aE (bi (aI (aB kU (ae 13) (dC .non))) (rM ad EE) aQ)
  (lB ad EE))
def T_law_8(ad:Ad)(EE:DX):aM:=
 (aE (b0 (qY (ax (jo ad) EE 3 (ac (ae 2) (ac (ae 3) (ac (ae 4) ak))))) (kf 2 (c8 (au 12) (c8 (au 13) ki))))
  (rb ad EE))
def xD(ad:Ad)(EE:DX):aM:=
 (aE (bi (aI (aB vc (aF (ax (nB ad) EE 1 (ac (ae 10) ak))) (dC (.bl true)))) (aT (dC (.bl false))) aQ)
  (T_law_8 ad EE))
def vG(ad:Ad)(EE:DX):aM:=
 (aE (b0 (bX (ac (c9 cG (ac (aF (aP (dw (ae 8)) ["k"] [3] (au 0) cg (aB bd (aB bd (ae 1) (dC (.int 0))) (ae 0)))) ak)) (ac (aB bd (ae 3) (dC (.int 1))) ak))) (au 11))
  (xD ad EE))
def um(ad:Ad)(EE:DX):aM:=
 (aE (b0 (bX (ac (aB bd (ae 2) (dC (.int 0))) (ac (c9 cG (ac (aF (aP (dw (ae 8)) ["k"] [5] (au 0) cg (aB bd (ae 1) (ae 0)))) ak)) (ac (aB bd (ae 2) (dC (.int 2))) (ac (ae 9) (ac (aB bd (ae 6) (aB bd (ae 2) (dC (.int 4)))) ak)))))) (au 10))
  (vG ad EE))
def mC(ad:Ad)(EE:DX):aM:=
 (aE (b0 (aF (ax (S_q3 ad 24) EE 2 (ac (aB bd (ae 2) (dC (.int 3))) (ac (ae 6) ak)))) (au 9))
  (um ad EE))
def T_law_13(ad:Ad)(EE:DX):aM:=
 (aE (dWhile (aI (aB tJ (ae 7) (aF (cC ak)))) (qt ad EE))
  (mC ad EE))
def nZ(ad:Ad)(EE:DX):aM:=
 (aE (b0 (jg (ac (c9 cV (ac (ae 5) ak)) ak)) (au 7))
  (aE (b0 (cC ak) (au 8))
  (T_law_13 ad EE)))
def jn(ad:Ad)(EE:DX):aM:=
 (aE (b0 (jd (ac (aB bd (ae 2) (dC (.int 1))) (ac (ae 5) ak))) (au 6))
  (nZ ad EE))
def tZ(ad:Ad)(EE:DX):aM:=
 (aE (b0 (aF (ax (vR ad) EE 2 (ac (ae 1) (ac (c9 cV (ac (aB bd (ae 2) (dC (.int 1))) ak)) ak)))) (au 5))
  (jn ad EE))
def uL(ad:Ad)(EE:DX):aM:=
 (aE (b0 (aF (ax (bt ad) EE 2 (ac (ae 1) (ac (aB bd (aF (cC (ac (dC (.int 41)) (ac (dC (.int 301)) ak)))) (aF (ax (bt ad) EE 2 (ac (ae 1) (ac (dC (.int 2)) ak))))) ak)))) (au 4))
  (tZ ad EE))
def ua(ad:Ad)(EE:DX):aM:=
 (aE (b0 (aF (ax (ut ad) EE 2 (ac (ae 1) (ac (ae 2) ak)))) (au 3))
  (uL ad EE))
def vE(ad:Ad)(EE:DX):aM:=
 (aE (b0 (aF (ax (nw ad) EE 2 (ac (ae 1) (ac (dC (.int 60)) ak)))) (au 2))
  (ua ad EE))
def oH(ad:Ad)(EE:DX):aM:=
 (aE (b0 (ax (oK ad) EE 1 (ac (ae 0) ak)) (au 1))
  (vE ad EE))
def uQ(ad:Ad):Sd:=bu ["script","pot","plan","stand","most","fresh","names","left","order","rows","other","there","steps","end"] (oH ad)
theorem Fx{ad:Ad}{n:Nat}{x0:D}{M:Mem}{Q:DK}{E:DX}:uQ ad [x0] M Q E=oH ad (drpX E) { nx:=fun _ M'=>drp Q .non M',rt:=drp Q } [some x0,none,none,none,none,none,none,none,none,none,none,none,none,none] M:=rfl
end Tw
namespace Tw
open PySem L2 L3
set_option genInjectivity false in
structure En(w:World)(K:W.Frag)(mg:Str->Option Value)(ad:Ad):Prop where
 c_Walk:Cls K ad.C_Walk
 mC_Walk:mg "Walk"=some (.ref ad.C_Walk)
 mk_Walk:Mk K ad.C_Walk ad.a_q1
 n_Walk_most:NoAttr K ad.C_Walk "most"
 n_Walk_numbers:NoAttr K ad.C_Walk "numbers"
 n_Walk_pieces:NoAttr K ad.C_Walk "pieces"
 n_Walk_plan:NoAttr K ad.C_Walk "plan"
 n_Walk_steps:NoAttr K ad.C_Walk "steps"
 x_Dry:ExcAt K ad.C_Dry
 mC_Dry:mg "Dry"=some (.ref ad.C_Dry)
 F_q1:Fun K "__init__" "Walk.__init__" Cl ad.a_q1 ad.d_q1
 b_q1:Binds K ad.d_q1 ["self","plan","stand","most"] []
 k_q1:W.keepIn K (.ref ad.a_q1)=true
 F_q0:Fun K "note_step" "Walk.note_step" E7 ad.a_q0 ad.d_q0
 b_q0:Binds K ad.d_q0 ["self","place","number"] []
 k_q0:W.keepIn K (.ref ad.a_q0)=true
 me_q0:Meth K ad.C_Walk "note_step" ad.a_q0
 F_q12:Fun K "look" "Walk.look" u8 ad.a_q12 ad.d_q12
 b_q12:Binds K ad.d_q12 ["self","place","name"] []
 k_q12:W.keepIn K (.ref ad.a_q12)=true
 me_q12:Meth K ad.C_Walk "look" ad.a_q12
 F_q34:Fun K "run" "run" u3 ad.a_q34 ad.d_q34
 b_q34:Binds K ad.d_q34 ["plan","stand","most"] []
 k_q34:W.keepIn K (.ref ad.a_q34)=true
 m_q34:mg "run"=some (.ref ad.a_q34)
 F_q32:Fun K "mark" "mark" wS ad.a_q32 ad.d_q32
 b_q32:Binds K ad.d_q32 ["plan","stand","most"] []
 k_q32:W.keepIn K (.ref ad.a_q32)=true
 m_q32:mg "mark"=some (.ref ad.a_q32)
 F_q25:Fun K "do_rows" "do_rows" tO ad.a_q25 ad.d_q25
 b_q25:Binds K ad.d_q25 ["walk","rows","place"] []
 k_q25:W.keepIn K (.ref ad.a_q25)=true
 m_q25:mg "do_rows"=some (.ref ad.a_q25)
 F_q28:Fun K "do_row" "do_row" w8 ad.a_q28 ad.d_q28
 b_q28:Binds K ad.d_q28 ["walk","row","place"] []
 k_q28:W.keepIn K (.ref ad.a_q28)=true
 m_q28:mg "do_row"=some (.ref ad.a_q28)
 F_q31:Fun K "do_if" "do_if" vN ad.a_q31 ad.d_q31
 b_q31:Binds K ad.d_q31 ["walk","row","place"] []
 k_q31:W.keepIn K (.ref ad.a_q31)=true
 m_q31:mg "do_if"=some (.ref ad.a_q31)
 F_q20:Fun K "do_again" "do_again" uz ad.a_q20 ad.d_q20
 b_q20:Binds K ad.d_q20 ["walk","row","place"] []
 k_q20:W.keepIn K (.ref ad.a_q20)=true
 m_q20:mg "do_again"=some (.ref ad.a_q20)
 F_q13:Fun K "number_of" "number_of" wc ad.a_q13 ad.d_q13
 b_q13:Binds K ad.d_q13 ["plan","numbers","pieces","row"] []
 k_q13:W.keepIn K (.ref ad.a_q13)=true
 m_q13:mg "number_of"=some (.ref ad.a_q13)
 F_q10:Fun K "piece_read" "piece_read" uD ad.a_q10 ad.d_q10
 b_q10:Binds K ad.d_q10 ["plan","numbers","row"] []
 k_q10:W.keepIn K (.ref ad.a_q10)=true
 m_q10:mg "piece_read"=some (.ref ad.a_q10)
 F_q29:Fun K "joined" "joined" vh ad.a_q29 ad.d_q29
 b_q29:Binds K ad.d_q29 ["word","y","z","wheel"] []
 k_q29:W.keepIn K (.ref ad.a_q29)=true
 m_q29:mg "joined"=some (.ref ad.a_q29)
 F_q24:Fun K "is_plan" "is_plan" wA ad.a_q24 ad.d_q24
 b_q24:Binds K ad.d_q24 ["thing"] []
 k_q24:W.keepIn K (.ref ad.a_q24)=true
 m_q24:mg "is_plan"=some (.ref ad.a_q24)
 F_q19:Fun K "is_whole" "is_whole" vt ad.a_q19 ad.d_q19
 b_q19:Binds K ad.d_q19 ["thing","least","most"] []
 k_q19:W.keepIn K (.ref ad.a_q19)=true
 m_q19:mg "is_whole"=some (.ref ad.a_q19)
 F_q26:Fun K "is_name" "is_name" uH ad.a_q26 ad.d_q26
 b_q26:Binds K ad.d_q26 ["thing"] []
 k_q26:W.keepIn K (.ref ad.a_q26)=true
 m_q26:mg "is_name"=some (.ref ad.a_q26)
 F_q16:Fun K "are_names" "are_names" wb ad.a_q16 ad.d_q16
 b_q16:Binds K ad.d_q16 ["thing"] []
 k_q16:W.keepIn K (.ref ad.a_q16)=true
 m_q16:mg "are_names"=some (.ref ad.a_q16)
 F_q9:Fun K "is_name_of" "is_name_of" Dm ad.a_q9 ad.d_q9
 b_q9:Binds K ad.d_q9 ["plan","thing"] []
 k_q9:W.keepIn K (.ref ad.a_q9)=true
 m_q9:mg "is_name_of"=some (.ref ad.a_q9)
 F_q21:Fun K "are_rows" "are_rows" wn ad.a_q21 ad.d_q21
 b_q21:Binds K ad.d_q21 ["plan"] []
 k_q21:W.keepIn K (.ref ad.a_q21)=true
 m_q21:mg "are_rows"=some (.ref ad.a_q21)
 F_q30:Fun K "is_row" "is_row" wB ad.a_q30 ad.d_q30
 b_q30:Binds K ad.d_q30 ["plan","thing","depth"] []
 k_q30:W.keepIn K (.ref ad.a_q30)=true
 m_q30:mg "is_row"=some (.ref ad.a_q30)
 F_q27:Fun K "is_part" "is_part" wy ad.a_q27 ad.d_q27
 b_q27:Binds K ad.d_q27 ["plan","kind","thing"] []
 k_q27:W.keepIn K (.ref ad.a_q27)=true
 m_q27:mg "is_part"=some (.ref ad.a_q27)
 F_q5:Fun K "rows_within" "rows_within" CP ad.a_q5 ad.d_q5
 b_q5:Binds K ad.d_q5 ["row"] []
 k_q5:W.keepIn K (.ref ad.a_q5)=true
 m_q5:mg "rows_within"=some (.ref ad.a_q5)
 F_q2:Fun K "setting_rows" "setting_rows" BW ad.a_q2 ad.d_q2
 b_q2:Binds K ad.d_q2 ["rows"] []
 k_q2:W.keepIn K (.ref ad.a_q2)=true
 m_q2:mg "setting_rows"=some (.ref ad.a_q2)
 F_q33:Fun K "sets" "sets" vU ad.a_q33 ad.d_q33
 b_q33:Binds K ad.d_q33 ["rows"] []
 k_q33:W.keepIn K (.ref ad.a_q33)=true
 m_q33:mg "sets"=some (.ref ad.a_q33)
 F_q18:Fun K "may_take" "may_take" wW ad.a_q18 ad.d_q18
 b_q18:Binds K ad.d_q18 ["plan","rows"] []
 k_q18:W.keepIn K (.ref ad.a_q18)=true
 m_q18:mg "may_take"=some (.ref ad.a_q18)
 F_q4:Fun K "_law_stirred" "_law_stirred" Cj ad.a_q4 ad.d_q4
 b_q4:Binds K ad.d_q4 ["cell","turn"] []
 k_q4:W.keepIn K (.ref ad.a_q4)=true
 m_q4:mg "_law_stirred"=some (.ref ad.a_q4)
 F_q22:Fun K "_law_pot" "_law_pot" vP ad.a_q22 ad.d_q22
 b_q22:Binds K ad.d_q22 ["script"] []
 k_q22:W.keepIn K (.ref ad.a_q22)=true
 m_q22:mg "_law_pot"=some (.ref ad.a_q22)
 F_q15:Fun K "_law_draw" "_law_draw" vZ ad.a_q15 ad.d_q15
 b_q15:Binds K ad.d_q15 ["pot","many"] []
 k_q15:W.keepIn K (.ref ad.a_q15)=true
 m_q15:mg "_law_draw"=some (.ref ad.a_q15)
 F_q6:Fun K "_law_names" "_law_names" BR ad.a_q6 ad.d_q6
 b_q6:Binds K ad.d_q6 ["pot","many"] []
 k_q6:W.keepIn K (.ref ad.a_q6)=true
 m_q6:mg "_law_names"=some (.ref ad.a_q6)
 F_q23:Fun K "_law_row" "_law_row" uA ad.a_q23 ad.d_q23
 b_q23:Binds K ad.d_q23 ["pot","told"] []
 k_q23:W.keepIn K (.ref ad.a_q23)=true
 m_q23:mg "_law_row"=some (.ref ad.a_q23)
 F_q7:Fun K "_law_block" "_law_block" E1 ad.a_q7 ad.d_q7
 b_q7:Binds K ad.d_q7 ["pot","told","room","deep"] []
 k_q7:W.keepIn K (.ref ad.a_q7)=true
 m_q7:mg "_law_block"=some (.ref ad.a_q7)
 F_q14:Fun K "_law_rows" "_law_rows" wl ad.a_q14 ad.d_q14
 b_q14:Binds K ad.d_q14 ["pot","told","room","deep","most"] []
 k_q14:W.keepIn K (.ref ad.a_q14)=true
 m_q14:mg "_law_rows"=some (.ref ad.a_q14)
 F_q17:Fun K "_law_plan" "_law_plan" wa ad.a_q17 ad.d_q17
 b_q17:Binds K ad.d_q17 ["pot","most"] []
 k_q17:W.keepIn K (.ref ad.a_q17)=true
 m_q17:mg "_law_plan"=some (.ref ad.a_q17)
 F_q8:Fun K "_law_stand" "_law_stand" C5 ad.a_q8 ad.d_q8
 b_q8:Binds K ad.d_q8 ["pot","plan"] []
 k_q8:W.keepIn K (.ref ad.a_q8)=true
 m_q8:mg "_law_stand"=some (.ref ad.a_q8)
 F_q11:Fun K "_law_alike" "_law_alike" uF ad.a_q11 ad.d_q11
 b_q11:Binds K ad.d_q11 ["found","due"] []
 k_q11:W.keepIn K (.ref ad.a_q11)=true
 m_q11:mg "_law_alike"=some (.ref ad.a_q11)
 F_q3:Fun K "_law_renamed" "_law_renamed" BA ad.a_q3 ad.d_q3
 b_q3:Binds K ad.d_q3 ["rows","names"] []
 k_q3:W.keepIn K (.ref ad.a_q3)=true
 m_q3:mg "_law_renamed"=some (.ref ad.a_q3)
 F_law:Fun K "law" "law" gh ad.a_law ad.d_law
 b_law:Binds K ad.d_law ["script"] []
 k_law:W.keepIn K (.ref ad.a_law)=true
 m_law:mg "law"=some (.ref ad.a_law)
 g_LEAST_WHEEL:∃t,mg "LEAST_WHEEL"=some (.int 2 t)
 g_MOST_LETTERS:∃t,mg "MOST_LETTERS"=some (.int 8 t)
 g_MOST_NAMES:∃t,mg "MOST_NAMES"=some (.int 12 t)
 g_MOST_PIECES:∃t,mg "MOST_PIECES"=some (.int 40 t)
 g_MOST_ROWS:∃t,mg "MOST_ROWS"=some (.int 60 t)
 g_MOST_WHEEL:∃t,mg "MOST_WHEEL"=some (.int 997 t)
 g_MOST_WITHIN:∃t,mg "MOST_WITHIN"=some (.int 4 t)
 g_PARTS:ModTab w K mg "PARTS" ad.g_PARTS aS
 z_all:mg "all"=none
 z_any:mg "any"=none
 z_bool:mg "bool"=none
 z_dict:mg "dict"=none
 z_enumerate:mg "enumerate"=none
 z_int:mg "int"=none
 z_isinstance:mg "isinstance"=none
 z_len:mg "len"=none
 z_list:mg "list"=none
 z_min:mg "min"=none
 z_range:mg "range"=none
 z_set:mg "set"=none
 z_sorted:mg "sorted"=none
 z_str:mg "str"=none
 z_tuple:mg "tuple"=none
 z_zip:mg "zip"=none
abbrev O1(P:Program)(w:World)(K:W.Frag)(mg:Str->Option Value)(base:Heap)(ad:Ad):Prop:=FnOk P w K mg base (bM P w) 1 ad.a_q1 ad.d_q1 ["self","plan","stand","most"] (aw K 4 (y3 ad))
abbrev O2(P:Program)(w:World)(K:W.Frag)(mg:Str->Option Value)(base:Heap)(ad:Ad):Prop:=FnOk P w K mg base (bM P w) 1 ad.a_q0 ad.d_q0 ["self","place","number"] (aw K 3 (qm ad))
abbrev O3(P:Program)(w:World)(K:W.Frag)(mg:Str->Option Value)(base:Heap)(ad:Ad):Prop:=FnOk P w K mg base (bM P w) 2 ad.a_q12 ad.d_q12 ["self","place","name"] (aw K 3 (kS ad))
abbrev O4(P:Program)(w:World)(K:W.Frag)(mg:Str->Option Value)(base:Heap)(ad:Ad):Prop:=FnOk P w K mg base (bM P w) 1 ad.a_q29 ad.d_q29 ["word","y","z","wheel"] (aw K 4 (rG ad))
abbrev O5(P:Program)(w:World)(K:W.Frag)(mg:Str->Option Value)(base:Heap)(ad:Ad):Prop:=FnOk P w K mg base (bM P w) 1 ad.a_q10 ad.d_q10 ["plan","numbers","row"] (aw K 3 (r8 ad))
abbrev O6(P:Program)(w:World)(K:W.Frag)(mg:Str->Option Value)(base:Heap)(ad:Ad):Prop:=FnOk P w K mg base (bM P w) 2 ad.a_q13 ad.d_q13 ["plan","numbers","pieces","row"] (aw K 4 (mn ad))
abbrev O7(P:Program)(w:World)(K:W.Frag)(mg:Str->Option Value)(base:Heap)(ad:Ad):Prop:=FnOk P w K mg base (bM P w) 27 ad.a_q34 ad.d_q34 ["plan","stand","most"] (aw K 3 (jo ad))
abbrev O8(P:Program)(w:World)(K:W.Frag)(mg:Str->Option Value)(base:Heap)(ad:Ad):Prop:=FnOk P w K mg base (bM P w) 28 ad.a_q32 ad.d_q32 ["plan","stand","most"] (aw K 3 (mq ad))
abbrev O9(P:Program)(w:World)(K:W.Frag)(mg:Str->Option Value)(base:Heap)(ad:Ad):Prop:=FnOk P w K mg base (bM P w) 1 ad.a_q26 ad.d_q26 ["thing"] (aw K 1 (rA ad))
abbrev O10(P:Program)(w:World)(K:W.Frag)(mg:Str->Option Value)(base:Heap)(ad:Ad):Prop:=FnOk P w K mg base (bM P w) 2 ad.a_q16 ad.d_q16 ["thing"] (aw K 1 (rB ad))
abbrev O11(P:Program)(w:World)(K:W.Frag)(mg:Str->Option Value)(base:Heap)(ad:Ad):Prop:=FnOk P w K mg base (bM P w) 1 ad.a_q9 ad.d_q9 ["plan","thing"] (aw K 2 (uB ad))
abbrev O12(P:Program)(w:World)(K:W.Frag)(mg:Str->Option Value)(base:Heap)(ad:Ad):Prop:=FnOk P w K mg base (bM P w) 1 ad.a_q19 ad.d_q19 ["thing","least","most"] (aw K 3 (jV ad))
abbrev O13(P:Program)(w:World)(K:W.Frag)(mg:Str->Option Value)(base:Heap)(ad:Ad):Prop:=FnOk P w K mg base (bM P w) 2 ad.a_q27 ad.d_q27 ["plan","kind","thing"] (aw K 3 (fH ad))
abbrev O14(P:Program)(w:World)(K:W.Frag)(mg:Str->Option Value)(base:Heap)(ad:Ad):Prop:=FnOk P w K mg base (bM P w) 3 ad.a_q30 ad.d_q30 ["plan","thing","depth"] (aw K 3 (kP ad))
abbrev O15(P:Program)(w:World)(K:W.Frag)(mg:Str->Option Value)(base:Heap)(ad:Ad):Prop:=FnOk P w K mg base (bM P w) 1 ad.a_q5 ad.d_q5 ["row"] (aw K 1 (qi ad))
abbrev O16(P:Program)(w:World)(K:W.Frag)(mg:Str->Option Value)(base:Heap)(ad:Ad):Prop:=FnOk P w K mg base (bM P w) 4 ad.a_q21 ad.d_q21 ["plan"] (aw K 1 (rj ad))
abbrev O17(P:Program)(w:World)(K:W.Frag)(mg:Str->Option Value)(base:Heap)(ad:Ad):Prop:=FnOk P w K mg base (bM P w) 5 ad.a_q24 ad.d_q24 ["thing"] (aw K 1 (nB ad))
abbrev O18(P:Program)(w:World)(K:W.Frag)(mg:Str->Option Value)(base:Heap)(ad:Ad):Prop:=FnOk P w K mg base (bM P w) 25 ad.a_q2 ad.d_q2 ["rows"] (aw K 1 (S_q2 ad 24))
abbrev O19(P:Program)(w:World)(K:W.Frag)(mg:Str->Option Value)(base:Heap)(ad:Ad):Prop:=FnOk P w K mg base (bM P w) 26 ad.a_q33 ad.d_q33 ["rows"] (aw K 1 (mB ad))
abbrev O20(P:Program)(w:World)(K:W.Frag)(mg:Str->Option Value)(base:Heap)(ad:Ad):Prop:=FnOk P w K mg base (bM P w) 26 ad.a_q18 ad.d_q18 ["plan","rows"] (aw K 2 (nA ad))
abbrev O21(P:Program)(w:World)(K:W.Frag)(mg:Str->Option Value)(base:Heap)(ad:Ad):Prop:=FnOk P w K mg base (bM P w) 1 ad.a_q4 ad.d_q4 ["cell","turn"] (aw K 2 (qc ad))
abbrev O22(P:Program)(w:World)(K:W.Frag)(mg:Str->Option Value)(base:Heap)(ad:Ad):Prop:=FnOk P w K mg base (bM P w) 1 ad.a_q22 ad.d_q22 ["script"] (aw K 1 (oK ad))
abbrev yy(P:Program)(w:World)(K:W.Frag)(mg:Str->Option Value)(base:Heap)(ad:Ad):Prop:=FnOk P w K mg base (bM P w) 2 ad.a_q15 ad.d_q15 ["pot","many"] (aw K 2 (bt ad))
abbrev O24(P:Program)(w:World)(K:W.Frag)(mg:Str->Option Value)(base:Heap)(ad:Ad):Prop:=FnOk P w K mg base (bM P w) 3 ad.a_q6 ad.d_q6 ["pot","many"] (aw K 2 (vR ad))
abbrev O25(P:Program)(w:World)(K:W.Frag)(mg:Str->Option Value)(base:Heap)(ad:Ad):Prop:=FnOk P w K mg base (bM P w) 3 ad.a_q23 ad.d_q23 ["pot","told"] (aw K 2 (mJ ad))
abbrev O26(P:Program)(w:World)(K:W.Frag)(mg:Str->Option Value)(base:Heap)(ad:Ad):Prop:=FnOk P w K mg base (bM P w) 28 ad.a_q17 ad.d_q17 ["pot","most"] (aw K 2 (nw ad))
abbrev O27(P:Program)(w:World)(K:W.Frag)(mg:Str->Option Value)(base:Heap)(ad:Ad):Prop:=FnOk P w K mg base (bM P w) 3 ad.a_q8 ad.d_q8 ["pot","plan"] (aw K 2 (ut ad))
abbrev O28(P:Program)(w:World)(K:W.Frag)(mg:Str->Option Value)(base:Heap)(ad:Ad):Prop:=FnOk P w K mg base (bM P w) 29 ad.a_law ad.d_law ["script"] (aw K 1 (uQ ad))
section
variable {P:Program}{w:World}{K:W.Frag}{mg:Str->Option Value}{base:Heap}{ad:Ad}
theorem Fc(En:En w K mg ad)  : O1 P w K mg base ad:=by
 refine eG (k:=0) (T:=wC ad) En.F_q1 FU fun cdv A outer s H E B EE hr ux=>?_;have hU:=hr.units;have hu:=bv hr;unfold wC
 exact (ah (je En.c_Walk En.n_Walk_plan (ao 0) (ao 1))
  (ah (je En.c_Walk En.n_Walk_numbers (ao 0) (jZ rfl rfl En.z_zip rfl En.z_dict (aa (av (ap hu) (ao 1) ag (fun _ _=>rfl)) (aa (av (ap hu) (ao 2) ag (fun _ _=>rfl)) af))))
  (ah (je En.c_Walk En.n_Walk_pieces (ao 0) (av (ap hu) (ao 2) ag (fun _ _=>rfl)))
  (ah (je En.c_Walk En.n_Walk_most (ao 0) (ao 3))
  (am (je En.c_Walk En.n_Walk_steps (ao 0) (bB af)))))))
theorem EK(En:En w K mg ad)  : O2 P w K mg base ad:=by
 refine eG (k:=0) (T:=uk ad) En.F_q0 Fp fun cdv A outer s H E B EE hr ux=>?_;have hU:=hr.units;have hu:=bv hr;unfold uk
 exact (ah (aW (aK Df (aA bb rfl En.z_len bz (aa (df En.c_Walk En.n_Walk_steps (ao 0)) af)) (df En.c_Walk En.n_Walk_most (ao 0)) (aJ _)) (am (wH En.x_Dry En.mC_Dry ux rfl)) aG)
  (am (bO (eX (Or.inl rfl) PySem.F.plainAttrs_list PySem.F.slot_list_append PySem.F.type_list_append cu (df En.c_Walk En.n_Walk_steps (ao 0)) (aa (bq (aa (ao 1) (aa (ao 2) af))) af)))))
theorem Bl(En:En w K mg ad)(G_q0:O2 P w K mg base ad):O3 P w K mg base ad:=by
 refine eG (k:=1) (T:=mS ad) En.F_q12 sc_q12 fun cdv A outer s H E B EE hr ux=>?_;have hU:=hr.units;have hu:=bv hr;unfold mS
 exact (ah (aN (i:=3) sc_q12.nd rfl (Or.inl rfl) (dB (aK (bf hU) (av (ap hu) (df En.c_Walk En.n_Walk_numbers (ao 0)) (ao 2) (fun _ _=>rfl)) ag (aJ _)) ag ag))
  (ah (bO (iM (ao 0) En.c_Walk En.me_q0 G_q0 (hr.mono (by decide)) En.b_q0 aH ux (aa (ao 1) (aa (ao 3) af))))
  (am (az (ao 3)))))
theorem Do(En:En w K mg ad)  : O4 P w K mg base ad:=by
 refine eG (k:=0) (T:=nL ad) En.F_q29 Bp fun cdv A outer s H E B EE hr ux=>?_;have hU:=hr.units;have hu:=bv hr;unfold nL
 exact (ah (aW (aK (bf hU) (ao 0) aR (aJ _)) (am (az (aY cJ (ar (aY bp (ao 1) (ao 2))) (ao 3)))) aG)
  (ah (aW (aK (bf hU) (ao 0) aR (aJ _)) (am (az (aY cJ (aY dY (ao 1) (ao 2)) (ao 3)))) aG)
  (ah (aW (aK (bf hU) (ao 0) aR (aJ _)) (am (az (dB (aK lK (ao 1) (ao 2) (aJ _)) ag ag))) aG)
  (am (az (dB (aK (bf hU) (ao 1) (ao 2) (aJ _)) ag ag))))))
theorem Ck(En:En w K mg ad)  : O5 P w K mg base ad:=by
 refine eG (k:=0) (T:=ig ad) En.F_q10 Dh fun cdv A outer s H E B EE hr ux=>?_;have hU:=hr.units;have hu:=bv hr;unfold ig
 exact (ah (aW (aK (bf hU) (av (ap hu) (ao 2) ag (fun _ _=>rfl)) aR (aJ _)) (am (az (av (ap hu) (ao 2) ag (fun _ _=>rfl)))) aG)
  (ah (aW (aK (bf hU) (av (ap hu) (ao 2) ag (fun _ _=>rfl)) aR (aJ _)) (am (az (aY cJ (av (ap hu) (ao 1) (av (ap hu) (ao 2) ag (fun _ _=>rfl)) (fun _ _=>rfl)) (av (ap hu) (ao 0) ag (fun _ _=>rfl))))) aG)
  (am (az eJ))))
theorem DQ(En:En w K mg ad)(G_q29:O4 P w K mg base ad)(G_q10:O5 P w K mg base ad):O6 P w K mg base ad:=by
 refine eG (k:=1) (T:=ik ad) En.F_q13 sc_q13 fun cdv A outer s H E B EE hr ux=>?_;have hU:=hr.units;have hu:=bv hr;unfold ik
 exact (ah (aW (aK (bf hU) (av (ap hu) (ao 3) ag (fun _ _=>rfl)) aR (aJ _)) (am (az (av (ap hu) (ao 3) ag (fun _ _=>rfl)))) aG)
  (ah (aN (i:=4) sc_q13.nd rfl (Or.inl rfl) (ar (aq G_q10 (hr.mono (by decide)) rfl En.m_q10 En.k_q10 En.b_q10 aH ux (aa (ao 0) (aa (ao 1) (aa (ao 3) af))))))
  (ah (aW (aK og (ao 4) eJ (aJ _)) (am (az (av (ap hu) (ao 2) (ao 4) (fun _ _=>rfl)))) aG)
  (am (az (aq G_q29 (hr.mono (by decide)) rfl En.m_q29 En.k_q29 En.b_q29 aH ux (aa (av (ap hu) (ao 3) ag (fun _ _=>rfl)) (aa (av (ap hu) (ao 1) (av (ap hu) (ao 3) ag (fun _ _=>rfl)) (fun _ _=>rfl)) (aa (av (ap hu) (ao 1) (av (ap hu) (ao 3) ag (fun _ _=>rfl)) (fun _ _=>rfl)) (aa (av (ap hu) (ao 0) ag (fun _ _=>rfl)) af))))))))))
theorem mL(En:En w K mg ad)(G_q12:O3 P w K mg base ad)(G_q0:O2 P w K mg base ad)(G_q13:O6 P w K mg base ad)(n:Nat)(G_q25:FnOk P w K mg base (bM P w) (2+n) ad.a_q25 ad.d_q25 ["walk","rows","place"] (aw K 3 (S_q25 ad n)))(G_q28:FnOk P w K mg base (bM P w) (2+n) ad.a_q28 ad.d_q28 ["walk","row","place"] (aw K 3 (S_q28 ad n)))(G_q31:FnOk P w K mg base (bM P w) (2+n) ad.a_q31 ad.d_q31 ["walk","row","place"] (aw K 3 (S_q31 ad n)))(G_q20:FnOk P w K mg base (bM P w) (2+n) ad.a_q20 ad.d_q20 ["walk","row","place"] (aw K 3 (S_q20 ad n))):FnOk P w K mg base (bM P w) (2+n+1) ad.a_q25 ad.d_q25 ["walk","rows","place"] (aw K 3 (S_q25 ad (n+1))):=by
 refine eG (k:=2+n) (T:=T_q25 ad (S_q25 ad n) (S_q28 ad n) (S_q31 ad n) (S_q20 ad n)) En.F_q25 sc_q25 fun cdv A outer s H E B EE hr ux=>?_;have hU:=hr.units;have hu:=bv hr;unfold T_q25;exact (am (eZ PassesOwn.leaving rfl (xU rfl En.z_enumerate (aa (ao 1) af)) (gI (n:=2) rfl (bK (aO (i:=3) sc_q25.nd rfl (Or.inl rfl)) (bK (aO (i:=4) sc_q25.nd rfl (Or.inl rfl)) fg))) (am (bO (aq G_q28 (hr.mono (by lia)) rfl En.m_q28 En.k_q28 En.b_q28 aH ux (aa (ao 0) (aa (ao 4) (aa (aY bp (ao 2) (bq (aa (ao 3) af))) af))))))))
theorem pY(En:En w K mg ad)(G_q12:O3 P w K mg base ad)(G_q0:O2 P w K mg base ad)(G_q13:O6 P w K mg base ad)(n:Nat)(G_q25:FnOk P w K mg base (bM P w) (2+n) ad.a_q25 ad.d_q25 ["walk","rows","place"] (aw K 3 (S_q25 ad n)))(G_q28:FnOk P w K mg base (bM P w) (2+n) ad.a_q28 ad.d_q28 ["walk","row","place"] (aw K 3 (S_q28 ad n)))(G_q31:FnOk P w K mg base (bM P w) (2+n) ad.a_q31 ad.d_q31 ["walk","row","place"] (aw K 3 (S_q31 ad n)))(G_q20:FnOk P w K mg base (bM P w) (2+n) ad.a_q20 ad.d_q20 ["walk","row","place"] (aw K 3 (S_q20 ad n))):FnOk P w K mg base (bM P w) (2+n+1) ad.a_q28 ad.d_q28 ["walk","row","place"] (aw K 3 (S_q28 ad (n+1))):=by
 refine eG (k:=2+n) (T:=fF ad (S_q25 ad n) (S_q28 ad n) (S_q31 ad n) (S_q20 ad n)) En.F_q28 sc_q28 fun cdv A outer s H E B EE hr ux=>?_;have hU:=hr.units;have hu:=bv hr;unfold fF
 exact (am (aW (aK (bf hU) (av (ap hu) (ao 1) ag (fun _ _=>rfl)) aR (aJ _)) (am (bO (aq G_q31 (hr.mono (by lia)) rfl En.m_q31 En.k_q31 En.b_q31 aH ux (aa (ao 0) (aa (ao 1) (aa (ao 2) af)))))) (am (aW (aK (bf hU) (av (ap hu) (ao 1) ag (fun _ _=>rfl)) aR (aJ _)) (am (bO (aq G_q20 (hr.mono (by lia)) rfl En.m_q20 En.k_q20 En.b_q20 aH ux (aa (ao 0) (aa (ao 1) (aa (ao 2) af)))))) (ah (aN (i:=3) sc_q28.nd rfl (Or.inl rfl) (ar (aq G_q13 (hr.mono (by lia)) rfl En.m_q13 En.k_q13 En.b_q13 aH ux (aa (df En.c_Walk En.n_Walk_plan (ao 0)) (aa (df En.c_Walk En.n_Walk_numbers (ao 0)) (aa (df En.c_Walk En.n_Walk_pieces (ao 0)) (aa (ao 1) af)))))))
    (ah (bO (iM (ao 0) En.c_Walk En.me_q0 G_q0 (hr.mono (by lia)) En.b_q0 aH ux (aa (ao 2) (aa (ao 3) af))))
    (am (dU (ao 3) (gS hu (df En.c_Walk En.n_Walk_numbers (ao 0)) (av (ap hu) (ao 1) ag (fun _ _=>rfl)))))))))))
theorem si(En:En w K mg ad)(G_q12:O3 P w K mg base ad)(G_q0:O2 P w K mg base ad)(G_q13:O6 P w K mg base ad)(n:Nat)(G_q25:FnOk P w K mg base (bM P w) (2+n) ad.a_q25 ad.d_q25 ["walk","rows","place"] (aw K 3 (S_q25 ad n)))(G_q28:FnOk P w K mg base (bM P w) (2+n) ad.a_q28 ad.d_q28 ["walk","row","place"] (aw K 3 (S_q28 ad n)))(G_q31:FnOk P w K mg base (bM P w) (2+n) ad.a_q31 ad.d_q31 ["walk","row","place"] (aw K 3 (S_q31 ad n)))(G_q20:FnOk P w K mg base (bM P w) (2+n) ad.a_q20 ad.d_q20 ["walk","row","place"] (aw K 3 (S_q20 ad n))):FnOk P w K mg base (bM P w) (2+n+1) ad.a_q31 ad.d_q31 ["walk","row","place"] (aw K 3 (S_q31 ad (n+1))):=by
 refine eG (k:=2+n) (T:=T_q31 ad (S_q25 ad n) (S_q28 ad n) (S_q31 ad n) (S_q20 ad n)) En.F_q31 sc_q31 fun cdv A outer s H E B EE hr ux=>?_;have hU:=hr.units;have hu:=bv hr;unfold T_q31
 exact (ah (aN (i:=3) sc_q31.nd rfl (Or.inl rfl) (ar (iM (ao 0) En.c_Walk En.me_q12 G_q12 (hr.mono (by lia)) En.b_q12 aH ux (aa (ao 2) (aa (av (ap hu) (ao 1) ag (fun _ _=>rfl)) af)))))
  (am (bO (aq G_q25 (hr.mono (by lia)) rfl En.m_q25 En.k_q25 En.b_q25 aH ux (aa (ao 0) (aa (dB (aK (bf hU) (ao 3) ag (aJ _)) (av (ap hu) (ao 1) ag (fun _ _=>rfl)) (av (ap hu) (ao 1) ag (fun _ _=>rfl))) (aa (aY bp (ao 2) (bq (aa (ao 3) af))) af)))))))
theorem lW(En:En w K mg ad)(G_q12:O3 P w K mg base ad)(G_q0:O2 P w K mg base ad)(G_q13:O6 P w K mg base ad)(n:Nat)(G_q25:FnOk P w K mg base (bM P w) (2+n) ad.a_q25 ad.d_q25 ["walk","rows","place"] (aw K 3 (S_q25 ad n)))(G_q28:FnOk P w K mg base (bM P w) (2+n) ad.a_q28 ad.d_q28 ["walk","row","place"] (aw K 3 (S_q28 ad n)))(G_q31:FnOk P w K mg base (bM P w) (2+n) ad.a_q31 ad.d_q31 ["walk","row","place"] (aw K 3 (S_q31 ad n)))(G_q20:FnOk P w K mg base (bM P w) (2+n) ad.a_q20 ad.d_q20 ["walk","row","place"] (aw K 3 (S_q20 ad n))):FnOk P w K mg base (bM P w) (2+n+1) ad.a_q20 ad.d_q20 ["walk","row","place"] (aw K 3 (S_q20 ad (n+1))):=by
 refine eG (k:=2+n) (T:=T_q20 ad (S_q25 ad n) (S_q28 ad n) (S_q31 ad n) (S_q20 ad n)) En.F_q20 sc_q20 fun cdv A outer s H E B EE hr ux=>?_;have hU:=hr.units;have hu:=bv hr;unfold T_q20
 exact (ah (aN (i:=3) sc_q20.nd rfl (Or.inl rfl) ag)
  (am (jw PassesOwn.leaving (aK (bf hU) (ar (iM (ao 0) En.c_Walk En.me_q12 G_q12 (hr.mono (by lia)) En.b_q12 aH ux (aa (aY bp (ao 2) (bq (aa (ao 3) af))) (aa (av (ap hu) (ao 1) ag (fun _ _=>rfl)) af)))) ag (aJ _)) (ah (bO (aq G_q25 (hr.mono (by lia)) rfl En.m_q25 En.k_q25 En.b_q25 aH ux (aa (ao 0) (aa (av (ap hu) (ao 1) ag (fun _ _=>rfl)) (aa (aY bp (ao 2) (bq (aa (ao 3) af))) af)))))
   (am (uG (i:=3) sc_q20.nd rfl (Or.inl rfl) ag qT))))))
theorem ii(En:En w K mg ad)(G_q12:O3 P w K mg base ad)(G_q0:O2 P w K mg base ad)(G_q13:O6 P w K mg base ad):∀n:Nat,FnOk P w K mg base (bM P w) (2+n) ad.a_q25 ad.d_q25 ["walk","rows","place"] (aw K 3 (S_q25 ad n))/\FnOk P w K mg base (bM P w) (2+n) ad.a_q28 ad.d_q28 ["walk","row","place"] (aw K 3 (S_q28 ad n))/\FnOk P w K mg base (bM P w) (2+n) ad.a_q31 ad.d_q31 ["walk","row","place"] (aw K 3 (S_q31 ad n))/\FnOk P w K mg base (bM P w) (2+n) ad.a_q20 ad.d_q20 ["walk","row","place"] (aw K 3 (S_q20 ad n))
 |0=>⟨dN,dN,dN,dN⟩
 |n+1=>by
  obtain ⟨G_q25,G_q28,G_q31,G_q20⟩:=ii En G_q12 G_q0 G_q13 n;exact ⟨mL En G_q12 G_q0 G_q13 n G_q25 G_q28 G_q31 G_q20,pY En G_q12 G_q0 G_q13 n G_q25 G_q28 G_q31 G_q20,si En G_q12 G_q0 G_q13 n G_q25 G_q28 G_q31 G_q20,lW En G_q12 G_q0 G_q13 n G_q25 G_q28 G_q31 G_q20⟩
theorem Bg(En:En w K mg ad)(G_q1:O1 P w K mg base ad)(G_q25:FnOk P w K mg base (bM P w) 26 ad.a_q25 ad.d_q25 ["walk","rows","place"] (aw K 3 (S_q25 ad 24))):O7 P w K mg base ad:=by
 refine eG (k:=26) (T:=mI ad) En.F_q34 sc_q34 fun cdv A outer s H E B EE hr ux=>?_;have hU:=hr.units;have hu:=bv hr;unfold mI
 exact (ah (aN (i:=3) sc_q34.nd rfl (Or.inr rfl) (yN En.mk_Walk G_q1 (hr.mono (by decide)) rfl En.mC_Walk En.b_q1 aH ux (aa (ao 0) (aa (ao 1) (aa (ao 2) af)))))
  (ah (p8 (C:=ad.C_Dry) rfl rfl G_q25 (hr.mono (by decide)) rfl En.m_q25 En.k_q25 En.b_q25 (aa (ao 3) (aa (av (ap hu) (ao 0) ag (fun _ _=>rfl)) (aa (bq af) af))) En.x_Dry rfl En.mC_Dry (fun ea=>(am (az (bq (aa (df En.c_Walk En.n_Walk_steps (ao 3)) (aa eJ af)))))))
  (am (az (bq (aa (df En.c_Walk En.n_Walk_steps (ao 3)) (aa (bF bw rfl En.z_tuple bo (aa (ar (bE (ls:=["name"]) (fs:=["walk"]) (js:=[3]) rfl (cm (cs:=[s.heap.objs.size+1]) rfl (by decide +kernel) (by decide +kernel) rfl rfl (fP rfl iA) (.cons rfl (.inl rfl) (.inl rfl) .nil)) (bU (av (ap hu) (ao 0) ag (fun _ _=>rfl))) (fun C' s₀ H₀ fp pl'=>⟨(aO (i:=0) (show List.Nodup [("name":Str),("walk":Str)] from (by decide +kernel)) rfl (Or.inl rfl)),bH,(av (ap hu) (df En.c_Walk En.n_Walk_numbers (ao 1)) (ao 0) (fun _ _=>rfl))⟩))) af)) af)))))))
theorem BE(En:En w K mg ad)(G_q34:O7 P w K mg base ad):O8 P w K mg base ad:=by
 refine eG (k:=27) (T:=nR ad) En.F_q32 sc_q32 fun cdv A outer s H E B EE hr ux=>?_;have hU:=hr.units;have hu:=bv hr;unfold nR
 exact (ah (aN (i:=3) sc_q32.nd rfl (Or.inl rfl) (av (ap hu) (lP (aq G_q34 (hr.mono (by decide)) rfl En.m_q34 En.k_q34 En.b_q34 aH ux (aa (ao 0) (aa (ao 1) (aa (ao 2) af))))) ag (fun _ _=>rfl)))
  (ah (aW (aK lz (ao 3) eJ (aJ _)) (am (az eJ)) aG)
  (am (az (av (ap hu) (ao 3) (Fi PySem.F.slot_tuple_index PySem.F.type_tuple_index pq (av (ap hu) (ao 0) ag (fun _ _=>rfl)) (aa (av (ap hu) (ao 0) ag (fun _ _=>rfl)) af)) (fun _ _=>rfl))))))
theorem DC(En:En w K mg ad)  : O9 P w K mg base ad:=by
 refine eG (k:=0) (T:=n_ ad) En.F_q26 E5 fun cdv A outer s H E B EE hr ux=>?_;have hU:=hr.units;have hu:=bv hr;unfold n_
 exact (ah (aW (dH (fY (cq (bP (aA aL rfl En.z_isinstance aD (aa (ao 0) (aa (ci rfl En.z_str fo) af))))) (eP (cq (nP ie ie ag (aA bb rfl En.z_len bz (aa (ao 0) af)) (fS rfl En.g_MOST_LETTERS)))))) (am (az ce)) aG)
  (am (az (aA (dF rfl) rfl En.z_all gx (aa (ar (bE (ls:=["sign"]) (fs:=[]) (js:=[]) rfl (fi rfl (by decide +kernel) (by decide +kernel)) (DU (ao 0)) (fun C' s₀ H₀ fp pl'=>⟨(aO (i:=0) (show List.Nodup [("sign":Str)] from (by decide +kernel)) rfl (Or.inl rfl)),bH,(mZ uJ uJ aR (ao 0) aR)⟩))) af)))))
theorem BY(En:En w K mg ad)(G_q26:O9 P w K mg base ad):O10 P w K mg base ad:=by
 refine eG (k:=1) (T:=nK ad) En.F_q16 Dd fun cdv A outer s H E B EE hr ux=>?_;have hU:=hr.units;have hu:=bv hr;unfold nK
 exact (ah (aW (dH (fY (cq (bP (aA aL rfl En.z_isinstance aD (aa (ao 0) (aa (ci rfl En.z_tuple bo) af))))) (eP (cq (nP ie ie ag (aA bb rfl En.z_len bz (aa (ao 0) af)) (fS rfl En.g_MOST_NAMES)))))) (am (az ce)) aG)
  (am (az (eU (aA (dF rfl) rfl En.z_all gx (aa (ar (bE (ls:=["part"]) (fs:=[]) (js:=[]) rfl (fi rfl (by decide +kernel) (by decide +kernel)) (bU (ao 0)) (fun C' s₀ H₀ fp pl'=>⟨(aO (i:=0) (show List.Nodup [("part":Str)] from (by decide +kernel)) rfl (Or.inl rfl)),bH,(ar (aq G_q26 (hr.mono (by decide)) rfl En.m_q26 En.k_q26 En.b_q26 fQ AZ (aa (ao 0) af)))⟩))) af)) (gM (fR (bf hU) (tB rfl rfl En.z_set rfl En.z_len (aa (ao 0) af)) (aA bb rfl En.z_len bz (aa (ao 0) af)) (aJ _)))))))
theorem Fe(En:En w K mg ad)  : O11 P w K mg base ad:=by
 refine eG (k:=0) (T:=nj ad) En.F_q9 F1 fun cdv A outer s H E B EE hr ux=>?_;have hU:=hr.units;have hu:=bv hr;unfold nj;exact (am (az (eU (aA aL rfl En.z_isinstance aD (aa (ao 1) (aa (ci rfl En.z_str fo) af))) (gM (fR (pf hU) (ao 1) (av (ap hu) (ao 0) ag (fun _ _=>rfl)) (by rfl))))))
theorem CB(En:En w K mg ad)  : O12 P w K mg base ad:=by
 refine eG (k:=0) (T:=mQ ad) En.F_q19 DY fun cdv A outer s H E B EE hr ux=>?_;have hU:=hr.units;have hu:=bv hr;unfold mQ
 exact (ah (aW (dH (fY (cq (bP (aA aL rfl En.z_isinstance aD (aa (ao 0) (aa (ci rfl En.z_int lw) af))))) (eP (bP (aA aL rfl En.z_isinstance aD (aa (ao 0) (aa (ci rfl En.z_bool gf) af))))))) (am (az ce)) aG)
  (am (az (mZ ie ie (ao 1) (ao 0) (ao 2)))))
theorem Ea(En:En w K mg ad)(G_q9:O11 P w K mg base ad)(G_q19:O12 P w K mg base ad):O13 P w K mg base ad:=by
 refine eG (k:=1) (T:=il ad) En.F_q27 BG fun cdv A outer s H E B EE hr ux=>?_;have hU:=hr.units;have hu:=bv hr;unfold il
 exact (ah (aW (aK (bf hU) (ao 1) aR (aJ _)) (am (az (aq G_q9 (hr.mono (by decide)) rfl En.m_q9 En.k_q9 En.b_q9 aH ux (aa (ao 0) (aa (ao 2) af))))) aG)
  (ah (aW (aK (bf hU) (ao 1) aR (aJ _)) (am (az (aq G_q19 (hr.mono (by decide)) rfl En.m_q19 En.k_q19 En.b_q19 aH ux (aa (ao 2) (aa ag (aa (aY gm (av (ap hu) (ao 0) ag (fun _ _=>rfl)) ag) af)))))) aG)
  (ah (aW (aK (bf hU) (ao 1) aR (aJ _)) (am (az (aq G_q19 (hr.mono (by decide)) rfl En.m_q19 En.k_q19 En.b_q19 aH ux (aa (ao 2) (aa ag (aa (aY gm (av (ap hu) (ao 0) ag (fun _ _=>rfl)) ag) af)))))) aG)
  (am (az ce)))))
theorem Cq(En:En w K mg ad)(G_q27:O13 P w K mg base ad):O14 P w K mg base ad:=by
 refine eG (k:=2) (T:=cQ ad) En.F_q30 sc_q30 fun cdv A outer s H E B EE hr ux=>?_;have hU:=hr.units;have hu:=bv hr;unfold cQ
 exact (ah (aW (dH (fY (cq (bP (aA aL rfl En.z_isinstance aD (aa (ao 1) (aa (ci rfl En.z_tuple bo) af))))) (fY (aK (bf hU) (aA bb rfl En.z_len bz (aa (ao 1) af)) ag (aJ _)) (eP (cq (bP (aA aL rfl En.z_isinstance aD (aa (av (ap hu) (ao 1) ag (fun _ _=>rfl)) (aa (ci rfl En.z_str fo) af))))))))) (am (az ce)) aG)
  (ah (aN (i:=3) sc_q30.nd rfl (Or.inl rfl) (av (ap hu) (ao 1) ag (fun _ _=>rfl)))
  (ah (aW (dH (fY (aK (sy En.g_PARTS) (ao 3) (lx rfl En.g_PARTS) (by rfl)) (eP (aK (dP hU) (aA bb rfl En.z_len bz (aa (ao 1) af)) (aY bp (aA bb rfl En.z_len bz (aa (av (Bf En.g_PARTS) (lx rfl En.g_PARTS) (ao 3) (fun _ _=>rfl)) af)) ag) (aJ _))))) (am (az ce)) aG)
  (ah (aW (dH (gQ (aK (bf hU) (ao 3) aR (aJ _)) (gk (aK (bf hU) (av (ap hu) (ao 0) ag (fun _ _=>rfl)) ag (aJ _))))) (am (az ce)) aG)
  (ah (aW (dH (gQ (aK (pf hU) aR (av (Bf En.g_PARTS) (lx rfl En.g_PARTS) (ao 3) (fun _ _=>rfl)) (by rfl)) (gk (aK (bf hU) (ao 2) (fS rfl En.g_MOST_WITHIN) (aJ _))))) (am (az ce)) aG)
  (am (az (aA (dF rfl) rfl En.z_all gx (aa (ar (bE (ls:=["kind","part"]) (fs:=["plan"]) (js:=[0]) rfl (cm (cs:=[s.heap.objs.size+1]) rfl (by decide +kernel) (by decide +kernel) rfl rfl (fP rfl iA) (.cons rfl (.inl rfl) (.inl rfl) .nil)) (vF rfl En.z_zip (aa (av (Bf En.g_PARTS) (lx rfl En.g_PARTS) (ao 3) (fun _ _=>rfl)) (aa (ar (eW (ao 1) (gz ag) gn)) af))) (fun C' s₀ H₀ fp pl'=>⟨(gI (n:=2) rfl (bK (aO (i:=0) (show List.Nodup [("kind":Str),("part":Str),("plan":Str)] from (by decide +kernel)) rfl (Or.inl rfl)) (bK (aO (i:=1) (show List.Nodup [("kind":Str),("part":Str),("plan":Str)] from (by decide +kernel)) rfl (Or.inl rfl)) fg))),bH,(ar (aq G_q27 (hr.mono (by decide)) rfl En.m_q27 En.k_q27 En.b_q27 fQ AZ (aa (ao 2) (aa (ao 0) (aa (ao 1) af)))))⟩))) af)))))))))
theorem FT(En:En w K mg ad)  : O15 P w K mg base ad:=by
 refine eG (k:=0) (T:=iE ad) En.F_q5 FC fun cdv A outer s H E B EE hr ux=>?_;have hU:=hr.units;have hu:=bv hr;unfold iE
 exact (ah (aW (aK (bf hU) (av (ap hu) (ao 0) ag (fun _ _=>rfl)) aR (aJ _)) (am (az (bB (aa (av (ap hu) (ao 0) ag (fun _ _=>rfl)) (aa (av (ap hu) (ao 0) ag (fun _ _=>rfl)) af))))) aG)
  (ah (aW (aK (bf hU) (av (ap hu) (ao 0) ag (fun _ _=>rfl)) aR (aJ _)) (am (az (bB (aa (av (ap hu) (ao 0) ag (fun _ _=>rfl)) af)))) aG)
  (am (az (bB af)))))
theorem CH(En:En w K mg ad)(G_q30:O14 P w K mg base ad)(G_q5:O15 P w K mg base ad):O16 P w K mg base ad:=by
 refine eG (k:=3) (T:=mD ad) En.F_q21 sc_q21 fun cdv A outer s H E B EE hr ux=>?_;have hU:=hr.units;have hu:=bv hr;unfold mD
 exact (ah (aN (i:=1) sc_q21.nd rfl (Or.inl rfl) ag)
  (ah (aN (i:=2) sc_q21.nd rfl (Or.inl rfl) (bB (aa (bq (aa (av (ap hu) (ao 0) ag (fun _ _=>rfl)) (aa ag af))) af)))
  (ah (jw PassesOwn.leaving (bP (ao 2)) (ah (aN (i:=3) sc_q21.nd rfl (Or.inl rfl) (By (Or.inl rfl) PySem.F.plainAttrs_list PySem.F.slot_list_pop PySem.F.type_list_pop lj (ao 2) ))
   (ah (aN (i:=4) sc_q21.nd rfl (Or.inl rfl) (av (ap hu) (ao 3) ag (fun _ _=>rfl)))
   (ah (aN (i:=5) sc_q21.nd rfl (Or.inr rfl) (av (ap hu) (ao 3) ag (fun _ _=>rfl)))
   (ah (aW (cq (bP (aA aL rfl En.z_isinstance aD (aa (ao 4) (aa (ci rfl En.z_tuple bo) af))))) (am (az ce)) aG)
   (ah (uG (i:=1) sc_q21.nd rfl (Or.inl rfl) (aA bb rfl En.z_len bz (aa (ao 4) af)) qT)
   (ah (aW (aK m8 (ao 1) (fS rfl En.g_MOST_ROWS) (aJ _)) (am (az ce)) aG)
   (ah (aW (cq (bP (aA (dF rfl) rfl En.z_all gx (aa (ar (bE (ls:=["row"]) (fs:=["plan","depth"]) (js:=[0,5]) rfl (cm (cs:=[s.heap.objs.size+1,s.heap.objs.size+2]) rfl (by decide +kernel) (by decide +kernel) rfl rfl (fP rfl (fP rfl iA)) (.cons rfl (.inl rfl) (.inl rfl) (.cons rfl (.inl rfl) (.inl rfl) .nil))) (bU (ao 4)) (fun C' s₀ H₀ fp pl'=>⟨(aO (i:=0) (show List.Nodup [("row":Str),("plan":Str),("depth":Str)] from (by decide +kernel)) rfl (Or.inl rfl)),bH,(ar (aq G_q30 (hr.mono (by decide)) rfl En.m_q30 En.k_q30 En.b_q30 fQ AZ (aa (ao 1) (aa (ao 0) (aa (ao 2) af)))))⟩))) af)))) (am (az ce)) aG)
   (am (eZ PassesOwn.leaving rfl (bU (ao 4)) (aO (i:=6) sc_q21.nd rfl (Or.inl rfl)) (am (bO (eX (Or.inl rfl) PySem.F.plainAttrs_list PySem.F.slot_list_extend PySem.F.type_list_extend j7 (ao 2) (aa (ar (bE (ls:=["part"]) (fs:=["depth"]) (js:=[5]) rfl (cm (cs:=[s.heap.objs.size+2]) rfl (by decide +kernel) (by decide +kernel) rfl rfl (fP rfl iA) (.cons rfl (.inl rfl) (.inl rfl) .nil)) (bU (ar (aq G_q5 (hr.mono (by decide)) rfl En.m_q5 En.k_q5 En.b_q5 aH ux (aa (ao 6) af)))) (fun C' s₀ H₀ fp pl'=>⟨(aO (i:=0) (show List.Nodup [("part":Str),("depth":Str)] from (by decide +kernel)) rfl (Or.inl rfl)),bH,(bq (aa (ao 0) (aa (aY bp (ao 1) ag) af)))⟩))) af))))))))))))))
  (am (az ce)))))
theorem D3(En:En w K mg ad)(G_q16:O10 P w K mg base ad)(G_q21:O16 P w K mg base ad)(G_q9:O11 P w K mg base ad)(G_q19:O12 P w K mg base ad):O17 P w K mg base ad:=by
 refine eG (k:=4) (T:=mU ad) En.F_q24 BK fun cdv A outer s H E B EE hr ux=>?_;have hU:=hr.units;have hu:=bv hr;unfold mU
 exact (ah (aW (dH (fY (cq (bP (aA aL rfl En.z_isinstance aD (aa (ao 0) (aa (ci rfl En.z_tuple bo) af))))) (eP (aK (dP hU) (aA bb rfl En.z_len bz (aa (ao 0) af)) ag (aJ _))))) (am (az ce)) aG)
  (ah (aW (dH (fY (cq (bP (ar (aq G_q19 (hr.mono (by decide)) rfl En.m_q19 En.k_q19 En.b_q19 aH ux (aa (av (ap hu) (ao 0) ag (fun _ _=>rfl)) (aa (fS rfl En.g_LEAST_WHEEL) (aa (fS rfl En.g_MOST_WHEEL) af))))))) (eP (cq (bP (ar (aq G_q19 (hr.mono (by decide)) rfl En.m_q19 En.k_q19 En.b_q19 aH ux (aa (av (ap hu) (ao 0) ag (fun _ _=>rfl)) (aa ag (aa (fS rfl En.g_MOST_PIECES) af)))))))))) (am (az ce)) aG)
  (am (az (eU (ar (aq G_q16 (hr.mono (by decide)) rfl En.m_q16 En.k_q16 En.b_q16 aH ux (aa (av (ap hu) (ao 0) ag (fun _ _=>rfl)) af))) (eU (ar (aq G_q9 (hr.mono (by decide)) rfl En.m_q9 En.k_q9 En.b_q9 aH ux (aa (ao 0) (aa (av (ap hu) (ao 0) ag (fun _ _=>rfl)) af)))) (gM (ar (aq G_q21 (hr.mono (by decide)) rfl En.m_q21 En.k_q21 En.b_q21 aH ux (aa (ao 0) af))))))))))
theorem ic(En:En w K mg ad)(G_q5:O15 P w K mg base ad)(n:Nat)(G_q2:FnOk P w K mg base (bM P w) (1+n) ad.a_q2 ad.d_q2 ["rows"] (aw K 1 (S_q2 ad n))):FnOk P w K mg base (bM P w) (1+n+1) ad.a_q2 ad.d_q2 ["rows"] (aw K 1 (S_q2 ad (n+1))):=by
 refine eG (k:=1+n) (T:=wQ ad (S_q2 ad n)) En.F_q2 sc_q2 fun cdv A outer s H E B EE hr ux=>?_;have hU:=hr.units;have hu:=bv hr;unfold wQ
 exact (ah (aN (i:=1) sc_q2.nd rfl (Or.inl rfl) (bB af))
  (ah (eZ PassesOwn.leaving rfl (bU (ao 0)) (aO (i:=2) sc_q2.nd rfl (Or.inl rfl)) (ah (aW (dH (gQ (aK (dP hU) (av (ap hu) (ao 2) ag (fun _ _=>rfl)) aR (aJ _)) (gk (aK (dP hU) (av (ap hu) (ao 2) ag (fun _ _=>rfl)) aR (aJ _))))) (am (bO (eX (Or.inl rfl) PySem.F.plainAttrs_list PySem.F.slot_list_append PySem.F.type_list_append cu (ao 1) (aa (ao 2) af)))) aG)
   (am (eZ PassesOwn.leaving rfl (bU (ar (aq G_q5 (hr.mono (by lia)) rfl En.m_q5 En.k_q5 En.b_q5 aH ux (aa (ao 2) af)))) (aO (i:=3) sc_q2.nd rfl (Or.inl rfl)) (am (bO (eX (Or.inl rfl) PySem.F.plainAttrs_list PySem.F.slot_list_extend PySem.F.type_list_extend j7 (ao 1) (aa (ar (aq G_q2 (hr.mono (by lia)) rfl En.m_q2 En.k_q2 En.b_q2 aH ux (aa (ao 3) af))) af))))))))
  (am (az (ao 1)))))
theorem dG(En:En w K mg ad)(G_q5:O15 P w K mg base ad):∀n:Nat,FnOk P w K mg base (bM P w) (1+n) ad.a_q2 ad.d_q2 ["rows"] (aw K 1 (S_q2 ad n))
 |0=>dN
 |n+1=>ic En G_q5 n (dG En G_q5 n)
theorem De(En:En w K mg ad)(G_q2:O18 P w K mg base ad):O19 P w K mg base ad:=by
 refine eG (k:=25) (T:=nT ad) En.F_q33 Ec fun cdv A outer s H E B EE hr ux=>?_;have hU:=hr.units;have hu:=bv hr;unfold nT;exact (am (az (qb rfl rfl En.z_set rfl En.z_sorted (aa (ar (bE (ls:=["row"]) (fs:=[]) (js:=[]) rfl (fi rfl (by decide +kernel) (by decide +kernel)) (bU (ar (aq G_q2 (hr.mono (by decide)) rfl En.m_q2 En.k_q2 En.b_q2 aH ux (aa (ao 0) af)))) (fun C' s₀ H₀ fp pl'=>⟨(aO (i:=0) (show List.Nodup [("row":Str)] from (by decide +kernel)) rfl (Or.inl rfl)),bH,(av (ap hu) (ao 0) ag (fun _ _=>rfl))⟩))) af))))
theorem Du(En:En w K mg ad)(G_q2:O18 P w K mg base ad):O20 P w K mg base ad:=by
 refine eG (k:=25) (T:=mm ad) En.F_q18 sc_q18 fun cdv A outer s H E B EE hr ux=>?_;have hU:=hr.units;have hu:=bv hr;unfold mm
 exact (ah (aN (i:=2) sc_q18.nd rfl (Or.inl rfl) (ar (aq G_q2 (hr.mono (by decide)) rfl En.m_q2 En.k_q2 En.b_q2 aH ux (aa (ao 1) af))))
  (ah (aW (bP (aA (sF rfl) rfl En.z_any A9 (aa (ar (bE (ls:=["row"]) (fs:=[]) (js:=[]) rfl (fi rfl (by decide +kernel) (by decide +kernel)) (bU (ao 2)) (fun C' s₀ H₀ fp pl'=>⟨(aO (i:=0) (show List.Nodup [("row":Str)] from (by decide +kernel)) rfl (Or.inl rfl)),bH,(fR (bf hU) (av (ap hu) (ao 0) ag (fun _ _=>rfl)) aR (aJ _))⟩))) af))) (am (az (jm rfl rfl En.z_range rfl En.z_list (aa (av (ap hu) (ao 0) ag (fun _ _=>rfl)) af)))) aG)
  (am (az (mG rfl rfl En.z_set rfl En.z_sorted (aa (ar (bE (ls:=["row"]) (fs:=[]) (js:=[]) rfl (fi rfl (by decide +kernel) (by decide +kernel)) (bU (ao 2)) (fun C' s₀ H₀ fp pl'=>⟨(aO (i:=0) (show List.Nodup [("row":Str)] from (by decide +kernel)) rfl (Or.inl rfl)),(zy (aK (bf hU) (av (ap hu) (ao 0) ag (fun _ _=>rfl)) aR (aJ _))),(av (ap hu) (ao 0) ag (fun _ _=>rfl))⟩))) af))))))
theorem FF(En:En w K mg ad)  : O21 P w K mg base ad:=by
 refine eG (k:=0) (T:=uN ad) En.F_q4 sc_q4 fun cdv A outer s H E B EE hr ux=>?_;have hU:=hr.units;have hu:=bv hr;unfold uN
 exact (ah (aN (i:=2) sc_q4.nd rfl (Or.inl rfl) (aY cJ (aY bp (aY bp (aY dY (ao 0) ag) (aY dY (ao 1) ag)) ag) ag))
  (ah (aN (i:=2) sc_q4.nd rfl (Or.inl rfl) (aY cJ (aY dY (aY yg (ao 2) (aY jz (ao 2) ag)) ag) ag))
  (am (az (aY jz (ao 2) ag)))))
theorem Cc(En:En w K mg ad)  : O22 P w K mg base ad:=by
 refine eG (k:=0) (T:=nz ad) En.F_q22 sc_q22 fun cdv A outer s H E B EE hr ux=>?_;have hU:=hr.units;have hu:=bv hr;unfold nz
 exact (ah (aN (i:=1) sc_q22.nd rfl (Or.inl rfl) ag)
  (ah (eZ PassesOwn.leaving rfl (bU (ar (eW (ao 0) gn (gz ag)))) (aO (i:=2) sc_q22.nd rfl (Or.inl rfl)) (am (aN (i:=1) sc_q22.nd rfl (Or.inl rfl) (aY cJ (aY bp (aY dY (ao 1) ag) (ao 2)) ag))))
  (am (az (bB (aa (bF pw rfl En.z_list bt_list' (aa (ar (eW (ao 0) gn (gz ag))) af)) (aa ag (aa ag (aa (ao 1) af)))))))))
theorem C4(En:En w K mg ad)(G_q4:O21 P w K mg base ad):yy P w K mg base ad:=by
 refine eG (k:=1) (T:=ou ad) En.F_q15 sc_q15 fun cdv A outer s H E B EE hr ux=>?_;have hU:=hr.units;have hu:=bv hr;unfold ou
 exact (ah (dU (aY bp (av (ap hu) (ao 0) ag (fun _ _=>rfl)) ag) (gS hu (ao 0) ag))
  (ah (aW (dH (gQ (aK (bf hU) (av (ap hu) (ao 0) ag (fun _ _=>rfl)) ag (aJ _)) (gk (aK (dP hU) (av (ap hu) (ao 0) ag (fun _ _=>rfl)) (ar (bB af)) (aJ _))))) (ah (aN (i:=2) sc_q15.nd rfl (Or.inl rfl) (eX (Or.inl rfl) PySem.F.plainAttrs_list PySem.F.slot_list_pop PySem.F.type_list_pop lj (av (ap hu) (ao 0) ag (fun _ _=>rfl)) (aa ag af)))
   (ah (aW (aK lK (ao 2) (aY xS ag ag) (aJ _)) (am (az (aY cJ (ar (aq G_q4 (hr.mono (by decide)) rfl En.m_q4 En.k_q4 En.b_q4 aH ux (aa (ao 2) (aa (av (ap hu) (ao 0) ag (fun _ _=>rfl)) af)))) (ao 1)))) aG)
   (am (dU (ao 2) (gS hu (ao 0) ag))))) aG)
  (ah (aW (aK (bf hU) (av (ap hu) (ao 0) ag (fun _ _=>rfl)) ag (aJ _)) (am (az (aY cJ (ar (aq G_q4 (hr.mono (by decide)) rfl En.m_q4 En.k_q4 En.b_q4 aH ux (aa (av (ap hu) (ao 0) ag (fun _ _=>rfl)) (aa (av (ap hu) (ao 0) ag (fun _ _=>rfl)) af)))) (ao 1)))) aG)
  (ah (aN (i:=3) sc_q15.nd rfl (Or.inl rfl) (aY cJ (av (ap hu) (ao 0) ag (fun _ _=>rfl)) (ao 1)))
  (ah (dU (aY jz (av (ap hu) (ao 0) ag (fun _ _=>rfl)) (ao 1)) (gS hu (ao 0) ag))
  (am (az (ao 3))))))))
theorem EF(En:En w K mg ad)(G_q15:yy P w K mg base ad):O24 P w K mg base ad:=by
 refine eG (k:=2) (T:=v8 ad) En.F_q6 sc_q6 fun cdv A outer s H E B EE hr ux=>?_;have hU:=hr.units;have hu:=bv hr;unfold v8
 exact (ah (aN (i:=2) sc_q6.nd rfl (Or.inl rfl) (ar (aq G_q15 (hr.mono (by decide)) rfl En.m_q15 En.k_q15 En.b_q15 aH ux (aa (ao 0) (aa ag af)))))
  (ah (aN (i:=3) sc_q6.nd rfl (Or.inl rfl) (bB af))
  (ah (eZ PassesOwn.leaving rfl (gP rfl En.z_range (aa (ao 1) af)) (aO (i:=4) sc_q6.nd rfl (Or.inl rfl)) (ah (aN (i:=5) sc_q6.nd rfl (Or.inl rfl) (av (ap hu) aR (aY cJ (aY bp (ao 2) (aY dY ag (ao 4))) ag) (fun _ _=>rfl)))
   (am (bO (eX (Or.inl rfl) PySem.F.plainAttrs_list PySem.F.slot_list_append PySem.F.type_list_append cu (ao 3) (aa (aY dY (ao 5) (aY bp ag (ar (aq G_q15 (hr.mono (by decide)) rfl En.m_q15 En.k_q15 En.b_q15 aH ux (aa (ao 0) (aa ag af)))))) af))))))
  (am (az (bF bw rfl En.z_tuple bo (aa (ao 3) af)))))))
theorem Bi(En:En w K mg ad)(G_q15:yy P w K mg base ad):O25 P w K mg base ad:=by
 refine eG (k:=2) (T:=mY ad) En.F_q23 sc_q23 fun cdv A outer s H E B EE hr ux=>?_;have hU:=hr.units;have hu:=bv hr;unfold mY;refine ah ?_ ?_
 ·exact (dU (ao 1) (gI (n:=3) rfl (bK (aO (i:=2) sc_q23.nd rfl (Or.inl rfl)) (bK (aO (i:=3) sc_q23.nd rfl (Or.inl rfl)) (bK (aO (i:=4) sc_q23.nd rfl (Or.inl rfl)) fg)))))
 refine ah ?_ ?_
 ·refine aN (i:=5) (hs:=?_) (hf:=?_) ?_ ?_ ?_ ?_
  ·exact sc_q23.nd
  ·rfl
  ·exact Or.inl rfl
  ·refine ar ?_
   refine bB ?_;refine lr ?_ ?_ ?_
   ·exact aR
   ·refine lr ?_ ?_ ?_
    ·exact aR
    ·refine lr ?_ ?_ ?_
     ·exact aR
     ·refine lr ?_ ?_ ?_
      ·exact aR
      ·refine lr ?_ ?_ ?_
       ·exact aR
       ·refine lr ?_ ?_ ?_
        ·exact aR
        ·refine lr ?_ ?_ ?_
         ·exact aR
         ·refine lr ?_ ?_ ?_
          ·exact aR
          ·refine lr ?_ ?_ ?_
           ·exact aR
           ·exact af
           ·rfl
          ·rfl
         ·rfl
        ·rfl
       ·rfl
      ·rfl
     ·rfl
    ·rfl
   ·rfl
  ·rfl
  ·exact .inl rfl
 refine ah ?_ ?_
 ·exact (aN (i:=6) sc_q23.nd rfl (Or.inl rfl) (av (ap hu) (ao 5) (ar (aq G_q15 (hr.mono (by decide)) rfl En.m_q15 En.k_q15 En.b_q15 aH ux (aa (ao 0) (aa (dB (aK m8 (ao 4) ag (aJ _)) ag ag) af)))) (fun _ _=>rfl)))
 refine ah ?_ ?_
 ·exact (aN (i:=7) sc_q23.nd rfl (Or.inl rfl) (av (ap hu) (ao 3) (ar (aq G_q15 (hr.mono (by decide)) rfl En.m_q15 En.k_q15 En.b_q15 aH ux (aa (ao 0) (aa (aA bb rfl En.z_len bz (aa (ao 3) af)) af)))) (fun _ _=>rfl)))
 refine ah ?_ ?_
 ·exact (aW (aK (bf hU) (ao 6) aR (aJ _)) (am (az (bq (aa (ao 6) (aa (ao 7) (aa (aq G_q15 (hr.mono (by decide)) rfl En.m_q15 En.k_q15 En.b_q15 aH ux (aa (ao 0) (aa (ao 2) af))) af)))))) aG)
 refine ah ?_ ?_
 ·exact (aW (aK (bf hU) (ao 6) aR (aJ _)) (am (az (bq (aa (ao 6) (aa (ao 7) (aa (aq G_q15 (hr.mono (by decide)) rfl En.m_q15 En.k_q15 En.b_q15 aH ux (aa (ao 0) (aa (ao 4) af))) af)))))) aG)
 refine ah ?_ ?_
 ·exact (aN (i:=8) sc_q23.nd rfl (Or.inl rfl) (av (ap hu) (ao 3) (ar (aq G_q15 (hr.mono (by decide)) rfl En.m_q15 En.k_q15 En.b_q15 aH ux (aa (ao 0) (aa (aA bb rfl En.z_len bz (aa (ao 3) af)) af)))) (fun _ _=>rfl)))
 refine ah ?_ ?_
 ·exact (aW (aK (bf hU) (ao 6) aR (aJ _)) (am (az (bq (aa (ao 6) (aa (ao 7) (aa (ao 8) af)))))) aG)
 refine am ?_;exact (az (bq (aa (ao 6) (aa (ao 7) (aa (ao 8) (aa (av (ap hu) (ao 3) (ar (aq G_q15 (hr.mono (by decide)) rfl En.m_q15 En.k_q15 En.b_q15 aH ux (aa (ao 0) (aa (aA bb rfl En.z_len bz (aa (ao 3) af)) af)))) (fun _ _=>rfl)) af))))))
theorem jb(En:En w K mg ad)(G_q15:yy P w K mg base ad)(G_q23:O25 P w K mg base ad)(n:Nat)(G_q7:FnOk P w K mg base (bM P w) (3+n) ad.a_q7 ad.d_q7 ["pot","told","room","deep"] (aw K 4 (S_q7 ad n)))(G_q14:FnOk P w K mg base (bM P w) (3+n) ad.a_q14 ad.d_q14 ["pot","told","room","deep","most"] (aw K 5 (S_q14 ad n))):FnOk P w K mg base (bM P w) (3+n+1) ad.a_q7 ad.d_q7 ["pot","told","room","deep"] (aw K 4 (S_q7 ad (n+1))):=by
 refine eG (k:=3+n) (T:=vM ad (S_q7 ad n) (S_q14 ad n)) En.F_q7 sc_q7 fun cdv A outer s H E B EE hr ux=>?_;have hU:=hr.units;have hu:=bv hr;unfold vM
 exact (ah (dU (ao 1) (gI (n:=3) rfl (bK (aO (i:=4) sc_q7.nd rfl (Or.inl rfl)) (bK (aO (i:=5) sc_q7.nd rfl (Or.inl rfl)) (bK (aO (i:=6) sc_q7.nd rfl (Or.inl rfl)) fg)))))
  (ah (aN (i:=7) sc_q7.nd rfl (Or.inl rfl) (av (ap hu) (ao 5) (ar (aq G_q15 (hr.mono (by lia)) rfl En.m_q15 En.k_q15 En.b_q15 aH ux (aa (ao 0) (aa (aA bb rfl En.z_len bz (aa (ao 5) af)) af)))) (fun _ _=>rfl)))
  (ah (aN (i:=8) sc_q7.nd rfl (Or.inl rfl) (ar (aq G_q14 (hr.mono (by lia)) rfl En.m_q14 En.k_q14 En.b_q14 aH ux (aa (ao 0) (aa (ao 1) (aa (ao 2) (aa (aY bp (ao 3) ag) (aa ag af))))))))
  (ah (aN (i:=9) sc_q7.nd rfl (Or.inl rfl) (ar (aq G_q15 (hr.mono (by lia)) rfl En.m_q15 En.k_q15 En.b_q15 aH ux (aa (ao 0) (aa ag af)))))
  (ah (aW (aK lK (ao 9) ag (aJ _)) (am (az (bB (aa (bq (aa aR (aa (ao 7) (aa (ao 8) (aa (aq G_q14 (hr.mono (by lia)) rfl En.m_q14 En.k_q14 En.b_q14 aH ux (aa (ao 0) (aa (ao 1) (aa (ao 2) (aa (aY bp (ao 3) ag) (aa ag af)))))) af))))) af)))) aG)
  (ah (aW (aK (bf hU) (ao 9) ag (aJ _)) (am (az (bB (aa (bq (aa aR (aa (ao 7) (aa (ao 8) af)))) af)))) aG)
  (ah (aN (i:=10) sc_q7.nd rfl (Or.inl rfl) (av (ap hu) (ao 5) (ar (aq G_q15 (hr.mono (by lia)) rfl En.m_q15 En.k_q15 En.b_q15 aH ux (aa (ao 0) (aa (aA bb rfl En.z_len bz (aa (ao 5) af)) af)))) (fun _ _=>rfl)))
  (am (az (bB (aa (bq (aa aR (aa (ao 7) (aa (aq G_q15 (hr.mono (by lia)) rfl En.m_q15 En.k_q15 En.b_q15 aH ux (aa (ao 0) (aa (aA (sB rfl) rfl En.z_min xH (aa (ao 4) (aa ag af))) af))) af)))) (aa (bq (aa aR (aa (ao 10) (aa (aY gm (ao 4) ag) af)))) (aa (bq (aa aR (aa (ao 7) (aa (aY bp (ao 8) (bq (aa (bq (aa aR (aa (ao 7) (aa (ao 7) (aa (ao 10) af))))) af))) af)))) af)))))))))))))
theorem kb(En:En w K mg ad)(G_q15:yy P w K mg base ad)(G_q23:O25 P w K mg base ad)(n:Nat)(G_q7:FnOk P w K mg base (bM P w) (3+n) ad.a_q7 ad.d_q7 ["pot","told","room","deep"] (aw K 4 (S_q7 ad n)))(G_q14:FnOk P w K mg base (bM P w) (3+n) ad.a_q14 ad.d_q14 ["pot","told","room","deep","most"] (aw K 5 (S_q14 ad n))):FnOk P w K mg base (bM P w) (3+n+1) ad.a_q14 ad.d_q14 ["pot","told","room","deep","most"] (aw K 5 (S_q14 ad (n+1))):=by
 refine eG (k:=3+n) (T:=T_q14 ad (S_q7 ad n) (S_q14 ad n)) En.F_q14 sc_q14 fun cdv A outer s H E B EE hr ux=>?_;have hU:=hr.units;have hu:=bv hr;unfold T_q14
 exact (ah (aN (i:=5) sc_q14.nd rfl (Or.inl rfl) (bB af))
  (ah (eZ PassesOwn.leaving rfl (gP rfl En.z_range (aa (ar (aq G_q15 (hr.mono (by lia)) rfl En.m_q15 En.k_q15 En.b_q15 aH ux (aa (ao 0) (aa (ao 4) af)))) af)) (aO (i:=6) sc_q14.nd rfl (Or.inl rfl)) (am (aW (dH (gQ (aK m8 (av (ap hu) (ao 2) ag (fun _ _=>rfl)) ag (aJ _)) (gQ (aK lK (ao 3) ag (aJ _)) (gk (aK (bf hU) (ar (aq G_q15 (hr.mono (by lia)) rfl En.m_q15 En.k_q15 En.b_q15 aH ux (aa (ao 0) (aa ag af)))) ag (aJ _)))))) (ah (dU (aY gm (av (ap hu) (ao 2) ag (fun _ _=>rfl)) ag) (gS hu (ao 2) ag))
    (am (aN (i:=5) sc_q14.nd rfl (Or.inl rfl) (aY bp (ao 5) (ar (aq G_q7 (hr.mono (by lia)) rfl En.m_q7 En.k_q7 En.b_q7 aH ux (aa (ao 0) (aa (ao 1) (aa (ao 2) (aa (ao 3) af)))))))))) (am (aW (aK m8 (av (ap hu) (ao 2) ag (fun _ _=>rfl)) ag (aJ _)) (ah (dU (aY gm (av (ap hu) (ao 2) ag (fun _ _=>rfl)) ag) (gS hu (ao 2) ag))
     (am (bO (eX (Or.inl rfl) PySem.F.plainAttrs_list PySem.F.slot_list_append PySem.F.type_list_append cu (ao 5) (aa (ar (aq G_q23 (hr.mono (by lia)) rfl En.m_q23 En.k_q23 En.b_q23 aH ux (aa (ao 0) (aa (ao 1) af)))) af))))) aG)))))
  (am (az (bF bw rfl En.z_tuple bo (aa (ao 5) af))))))
theorem eL(En:En w K mg ad)(G_q15:yy P w K mg base ad)(G_q23:O25 P w K mg base ad):∀n:Nat,FnOk P w K mg base (bM P w) (3+n) ad.a_q7 ad.d_q7 ["pot","told","room","deep"] (aw K 4 (S_q7 ad n))/\FnOk P w K mg base (bM P w) (3+n) ad.a_q14 ad.d_q14 ["pot","told","room","deep","most"] (aw K 5 (S_q14 ad n))
 |0=>⟨dN,dN⟩
 |n+1=>by
  obtain ⟨G_q7,G_q14⟩:=eL En G_q15 G_q23 n;exact ⟨jb En G_q15 G_q23 n G_q7 G_q14,kb En G_q15 G_q23 n G_q7 G_q14⟩
theorem Bt(En:En w K mg ad)(G_q15:yy P w K mg base ad)(G_q6:O24 P w K mg base ad)(G_q14:FnOk P w K mg base (bM P w) 27 ad.a_q14 ad.d_q14 ["pot","told","room","deep","most"] (aw K 5 (S_q14 ad 24))):O26 P w K mg base ad:=by
 refine eG (k:=27) (T:=mT ad) En.F_q17 sc_q17 fun cdv A outer s H E B EE hr ux=>?_;have hU:=hr.units;have hu:=bv hr;unfold mT
 exact (ah (aN (i:=2) sc_q17.nd rfl (Or.inl rfl) (av (ap hu) (ar (bB (aa ag (aa ag (aa (aY bp ag (ar (aq G_q15 (hr.mono (by decide)) rfl En.m_q15 En.k_q15 En.b_q15 aH ux (aa (ao 0) (aa ag af))))) (aa (aY bp ag (ar (aq G_q15 (hr.mono (by decide)) rfl En.m_q15 En.k_q15 En.b_q15 aH ux (aa (ao 0) (aa ag af))))) af)))))) (ar (aq G_q15 (hr.mono (by decide)) rfl En.m_q15 En.k_q15 En.b_q15 aH ux (aa (ao 0) (aa ag af)))) (fun _ _=>rfl)))
  (ah (aN (i:=3) sc_q17.nd rfl (Or.inl rfl) (ar (aq G_q6 (hr.mono (by decide)) rfl En.m_q6 En.k_q6 En.b_q6 aH ux (aa (ao 0) (aa (aY bp ag (ar (aq G_q15 (hr.mono (by decide)) rfl En.m_q15 En.k_q15 En.b_q15 aH ux (aa (ao 0) (aa (av (ap hu) (ar (bB (aa ag (aa ag (aa ag af))))) (ar (aq G_q15 (hr.mono (by decide)) rfl En.m_q15 En.k_q15 En.b_q15 aH ux (aa (ao 0) (aa ag af)))) (fun _ _=>rfl)) af))))) af)))))
  (ah (aN (i:=4) sc_q17.nd rfl (Or.inl rfl) (av (ap hu) (ar (bB (aa ag (aa (aY bp ag (ar (aq G_q15 (hr.mono (by decide)) rfl En.m_q15 En.k_q15 En.b_q15 aH ux (aa (ao 0) (aa ag af))))) (aa (ar (aq G_q15 (hr.mono (by decide)) rfl En.m_q15 En.k_q15 En.b_q15 aH ux (aa (ao 0) (aa ag af)))) af))))) (ar (aq G_q15 (hr.mono (by decide)) rfl En.m_q15 En.k_q15 En.b_q15 aH ux (aa (ao 0) (aa ag af)))) (fun _ _=>rfl)))
  (ah (aN (i:=5) sc_q17.nd rfl (Or.inl rfl) (ar (aq G_q14 (hr.mono (by decide)) rfl En.m_q14 En.k_q14 En.b_q14 aH ux (aa (ao 0) (aa (bq (aa (ao 2) (aa (ao 3) (aa (ao 4) af)))) (aa (bB (aa (ao 1) af)) (aa ag (aa (av (ap hu) (ar (bB (aa ag (aa ag (aa ag af))))) (ar (aq G_q15 (hr.mono (by decide)) rfl En.m_q15 En.k_q15 En.b_q15 aH ux (aa (ao 0) (aa ag af)))) (fun _ _=>rfl)) af))))))))
  (am (az (bq (aa (ao 2) (aa (ao 3) (aa (ao 4) (aa (ao 5) (aa (av (ap hu) (ao 3) (ar (aq G_q15 (hr.mono (by decide)) rfl En.m_q15 En.k_q15 En.b_q15 aH ux (aa (ao 0) (aa (aA bb rfl En.z_len bz (aa (ao 3) af)) af)))) (fun _ _=>rfl)) af))))))))))))
theorem Fg(En:En w K mg ad)(G_q15:yy P w K mg base ad):O27 P w K mg base ad:=by
 refine eG (k:=2) (T:=vy ad) En.F_q8 sc_q8 fun cdv A outer s H E B EE hr ux=>?_;have hU:=hr.units;have hu:=bv hr;unfold vy
 exact (ah (aN (i:=2) sc_q8.nd rfl (Or.inl rfl) (bF bw rfl En.z_tuple bo (aa (ar (bE (ls:=["name"]) (fs:=["pot","plan"]) (js:=[0,1]) rfl (cm (cs:=[s.heap.objs.size+1,s.heap.objs.size+2]) rfl (by decide +kernel) (by decide +kernel) rfl rfl (fP rfl (fP rfl iA)) (.cons rfl (.inl rfl) (.inl rfl) (.cons rfl (.inl rfl) (.inl rfl) .nil))) (bU (av (ap hu) (ao 1) ag (fun _ _=>rfl))) (fun C' s₀ H₀ fp pl'=>⟨(aO (i:=0) (show List.Nodup [("name":Str),("pot":Str),("plan":Str)] from (by decide +kernel)) rfl (Or.inl rfl)),bH,(ar (aq G_q15 (hr.mono (by decide)) rfl En.m_q15 En.k_q15 En.b_q15 fQ AZ (aa (ao 1) (aa (av (ap hu) (ao 2) ag (fun _ _=>rfl)) af))))⟩))) af)))
  (am (az (bq (aa (ao 2) (aa (bF bw rfl En.z_tuple bo (aa (ar (bE (ls:=["k"]) (fs:=["pot","plan"]) (js:=[0,1]) rfl (cm (cs:=[s.heap.objs.size+1,s.heap.objs.size+2]) rfl (by decide +kernel) (by decide +kernel) rfl rfl (fP rfl (fP rfl iA)) (.cons rfl (.inl rfl) (.inl rfl) (.cons rfl (.inl rfl) (.inl rfl) .nil))) (gP rfl En.z_range (aa (av (ap hu) (ao 1) ag (fun _ _=>rfl)) af)) (fun C' s₀ H₀ fp pl'=>⟨(aO (i:=0) (show List.Nodup [("k":Str),("pot":Str),("plan":Str)] from (by decide +kernel)) rfl (Or.inl rfl)),bH,(ar (aq G_q15 (hr.mono (by decide)) rfl En.m_q15 En.k_q15 En.b_q15 fQ AZ (aa (ao 1) (aa (av (ap hu) (ao 2) ag (fun _ _=>rfl)) af))))⟩))) af)) af))))))
theorem jN(En:En w K mg ad)  (n:Nat)(G_q11:FnOk P w K mg base (bM P w) (0+n) ad.a_q11 ad.d_q11 ["found","due"] (aw K 2 (S_q11 ad n))):FnOk P w K mg base (bM P w) (0+n+1) ad.a_q11 ad.d_q11 ["found","due"] (aw K 2 (S_q11 ad (n+1))):=by
 refine eG (k:=0+n) (T:=fG ad (S_q11 ad n)) En.F_q11 CY fun cdv A outer s H E B EE hr ux=>?_;have hU:=hr.units;have hu:=bv hr;unfold fG
 exact (ah (aW (aK lz (ao 1) eJ (aJ _)) (am (az (fR lz (ao 0) eJ (aJ _)))) aG)
  (ah (aW (bP (aA aL rfl En.z_isinstance aD (aa (ao 1) (aa (ci rfl En.z_bool gf) af)))) (am (az (eU (aA aL rfl En.z_isinstance aD (aa (ao 0) (aa (ci rfl En.z_bool gf) af))) (gM (fR (bf hU) (ao 0) (ao 1) (aJ _)))))) aG)
  (ah (aW (bP (aA aL rfl En.z_isinstance aD (aa (ao 1) (aa (ci rfl En.z_int lw) af)))) (am (az (eU (aA aL rfl En.z_isinstance aD (aa (ao 0) (aa (ci rfl En.z_int lw) af))) (eU (Dq (aA aL rfl En.z_isinstance aD (aa (ao 0) (aa (ci rfl En.z_bool gf) af)))) (gM (fR (bf hU) (ao 0) (ao 1) (aJ _))))))) aG)
  (ah (aW (bP (aA aL rfl En.z_isinstance aD (aa (ao 1) (aa (ci rfl En.z_str fo) af)))) (am (az (eU (aA aL rfl En.z_isinstance aD (aa (ao 0) (aa (ci rfl En.z_str fo) af))) (gM (fR (bf hU) (ao 0) (ao 1) (aJ _)))))) aG)
  (ah (aW (dH (fY (aK (dP hU) (aA aL rfl En.z_isinstance aD (aa (ao 1) (aa (ci rfl En.z_tuple bo) af))) (aA aL rfl En.z_isinstance aD (aa (ao 0) (aa (ci rfl En.z_tuple bo) af))) (aJ _)) (eP (aK (dP hU) (aA aL rfl En.z_isinstance aD (aa (ao 1) (aa (ci rfl En.z_list bt_list') af))) (aA aL rfl En.z_isinstance aD (aa (ao 0) (aa (ci rfl En.z_list bt_list') af))) (aJ _))))) (am (az ce)) aG)
  (ah (aW (aK (dP hU) (aA bb rfl En.z_len bz (aa (ao 0) af)) (aA bb rfl En.z_len bz (aa (ao 1) af)) (aJ _)) (am (az ce)) aG)
  (am (az (aA (dF rfl) rfl En.z_all gx (aa (ar (bE (ls:=["one","other"]) (fs:=[]) (js:=[]) rfl (fi rfl (by decide +kernel) (by decide +kernel)) (vF rfl En.z_zip (aa (ao 0) (aa (ao 1) af))) (fun C' s₀ H₀ fp pl'=>⟨(gI (n:=2) rfl (bK (aO (i:=0) (show List.Nodup [("one":Str),("other":Str)] from (by decide +kernel)) rfl (Or.inl rfl)) (bK (aO (i:=1) (show List.Nodup [("one":Str),("other":Str)] from (by decide +kernel)) rfl (Or.inl rfl)) fg))),bH,(ar (aq G_q11 (hr.mono (by lia)) rfl En.m_q11 En.k_q11 En.b_q11 fQ AZ (aa (ao 0) (aa (ao 1) af))))⟩))) af))))))))))
theorem eO(En:En w K mg ad)  : ∀n:Nat,FnOk P w K mg base (bM P w) (0+n) ad.a_q11 ad.d_q11 ["found","due"] (aw K 2 (S_q11 ad n))
 |0=>dN
 |n+1=>jN En  n (eO En  n)
theorem gR(En:En w K mg ad)  (n:Nat)(G_q3:FnOk P w K mg base (bM P w) (0+n) ad.a_q3 ad.d_q3 ["rows","names"] (aw K 2 (S_q3 ad n))):FnOk P w K mg base (bM P w) (0+n+1) ad.a_q3 ad.d_q3 ["rows","names"] (aw K 2 (S_q3 ad (n+1))):=by
 refine eG (k:=0+n) (T:=u6 ad (S_q3 ad n)) En.F_q3 sc_q3 fun cdv A outer s H E B EE hr ux=>?_;have hU:=hr.units;have hu:=bv hr;unfold u6
 exact (ah (aN (i:=2) sc_q3.nd rfl (Or.inl rfl) (bB af))
  (ah (eZ PassesOwn.leaving rfl (bU (ao 0)) (aO (i:=3) sc_q3.nd rfl (Or.inl rfl)) (am (aW (aK (pf hU) (av (ap hu) (ao 3) ag (fun _ _=>rfl)) (ar (bB (aa aR (aa aR af)))) (by rfl)) (am (bO (eX (Or.inl rfl) PySem.F.plainAttrs_list PySem.F.slot_list_append PySem.F.type_list_append cu (ao 2) (aa (aY bp (bq (aa (av (ap hu) (ao 3) ag (fun _ _=>rfl)) (aa (av (ap hu) (ao 1) (av (ap hu) (ao 3) ag (fun _ _=>rfl)) (fun _ _=>rfl)) af))) (bF bw rfl En.z_tuple bo (aa (ar (bE (ls:=["some"]) (fs:=["names"]) (js:=[1]) rfl (cm (cs:=[s.heap.objs.size+1]) rfl (by decide +kernel) (by decide +kernel) rfl rfl (fP rfl iA) (.cons rfl (.inl rfl) (.inl rfl) .nil)) (bU (ar (eW (ao 3) (gz ag) gn))) (fun C' s₀ H₀ fp pl'=>⟨(aO (i:=0) (show List.Nodup [("some":Str),("names":Str)] from (by decide +kernel)) rfl (Or.inl rfl)),bH,(ar (aq G_q3 (hr.mono (by lia)) rfl En.m_q3 En.k_q3 En.b_q3 fQ AZ (aa (ao 0) (aa (ao 1) af))))⟩))) af))) af)))) (am (bO (eX (Or.inl rfl) PySem.F.plainAttrs_list PySem.F.slot_list_append PySem.F.type_list_append cu (ao 2) (aa (aY bp (bq (aa (av (ap hu) (ao 3) ag (fun _ _=>rfl)) af)) (bF bw rfl En.z_tuple bo (aa (ar (bE (ls:=["one"]) (fs:=["names"]) (js:=[1]) rfl (cm (cs:=[s.heap.objs.size+1]) rfl (by decide +kernel) (by decide +kernel) rfl rfl (fP rfl iA) (.cons rfl (.inl rfl) (.inl rfl) .nil)) (bU (ar (eW (ao 3) (gz ag) gn))) (fun C' s₀ H₀ fp pl'=>⟨(aO (i:=0) (show List.Nodup [("one":Str),("names":Str)] from (by decide +kernel)) rfl (Or.inl rfl)),bH,(dB (bP (aA aL rfl En.z_isinstance aD (aa (ao 0) (aa (ci rfl En.z_str fo) af)))) (av (ap hu) (ao 1) (ao 0) (fun _ _=>rfl)) (ao 0))⟩))) af))) af)))))))
  (am (az (bF bw rfl En.z_tuple bo (aa (ao 2) af))))))
theorem dz(En:En w K mg ad)  : ∀n:Nat,FnOk P w K mg base (bM P w) (0+n) ad.a_q3 ad.d_q3 ["rows","names"] (aw K 2 (S_q3 ad n))
 |0=>dN
 |n+1=>gR En  n (dz En  n)
theorem Be(En:En w K mg ad)(G_q11:FnOk P w K mg base (bM P w) 24 ad.a_q11 ad.d_q11 ["found","due"] (aw K 2 (S_q11 ad 24)))(G_q15:yy P w K mg base ad)(G_q6:O24 P w K mg base ad)(G_q17:O26 P w K mg base ad)(G_q22:O22 P w K mg base ad)(G_q3:FnOk P w K mg base (bM P w) 24 ad.a_q3 ad.d_q3 ["rows","names"] (aw K 2 (S_q3 ad 24)))(G_q8:O27 P w K mg base ad)(G_q24:O17 P w K mg base ad)(G_q32:O8 P w K mg base ad)(G_q18:O20 P w K mg base ad)(G_q34:O7 P w K mg base ad)(G_q33:O19 P w K mg base ad):O28 P w K mg base ad:=by
 refine eG (k:=28) (T:=oH ad) En.F_law sc_law fun cdv A outer s H E B EE hr ux=>?_;have hU:=hr.units;have hu:=bv hr;unfold oH
 exact (ah (aN (i:=1) sc_law.nd rfl (Or.inl rfl) (aq G_q22 (hr.mono (by decide)) rfl En.m_q22 En.k_q22 En.b_q22 aH ux (aa (ao 0) af)))
  (ah (aN (i:=2) sc_law.nd rfl (Or.inl rfl) (ar (aq G_q17 (hr.mono (by decide)) rfl En.m_q17 En.k_q17 En.b_q17 aH ux (aa (ao 1) (aa ag af)))))
  (ah (aN (i:=3) sc_law.nd rfl (Or.inr rfl) (ar (aq G_q8 (hr.mono (by decide)) rfl En.m_q8 En.k_q8 En.b_q8 aH ux (aa (ao 1) (aa (ao 2) af)))))
  (ah (aN (i:=4) sc_law.nd rfl (Or.inl rfl) (ar (aq G_q15 (hr.mono (by decide)) rfl En.m_q15 En.k_q15 En.b_q15 aH ux (aa (ao 1) (aa (av (ap hu) (ar (bB (aa ag (aa ag af)))) (ar (aq G_q15 (hr.mono (by decide)) rfl En.m_q15 En.k_q15 En.b_q15 aH ux (aa (ao 1) (aa ag af)))) (fun _ _=>rfl)) af)))))
  (ah (aN (i:=5) sc_law.nd rfl (Or.inr rfl) (ar (aq G_q6 (hr.mono (by decide)) rfl En.m_q6 En.k_q6 En.b_q6 aH ux (aa (ao 1) (aa (aA bb rfl En.z_len bz (aa (av (ap hu) (ao 2) ag (fun _ _=>rfl)) af)) af)))))
  (ah (aN (i:=6) sc_law.nd rfl (Or.inr rfl) (jZ rfl rfl En.z_zip rfl En.z_dict (aa (av (ap hu) (ao 2) ag (fun _ _=>rfl)) (aa (ao 5) af))))
  (ah (aN (i:=7) sc_law.nd rfl (Or.inl rfl) (jm rfl rfl En.z_range rfl En.z_list (aa (aA bb rfl En.z_len bz (aa (ao 5) af)) af)))
  (ah (aN (i:=8) sc_law.nd rfl (Or.inl rfl) (bB af))
  (ah (jw PassesOwn.leaving (aK (dP hU) (ao 7) (ar (bB af)) (aJ _)) (am (bO (eX (Or.inl rfl) PySem.F.plainAttrs_list PySem.F.slot_list_append PySem.F.type_list_append cu (ao 8) (aa (eX (Or.inl rfl) PySem.F.plainAttrs_list PySem.F.slot_list_pop PySem.F.type_list_pop lj (ao 7) (aa (ar (aq G_q15 (hr.mono (by decide)) rfl En.m_q15 En.k_q15 En.b_q15 aH ux (aa (ao 1) (aa (aA bb rfl En.z_len bz (aa (ao 7) af)) af)))) af)) af)))))
  (ah (aN (i:=9) sc_law.nd rfl (Or.inl rfl) (ar (aq G_q3 (hr.mono (by decide)) rfl En.m_q3 En.k_q3 En.b_q3 aH ux (aa (av (ap hu) (ao 2) ag (fun _ _=>rfl)) (aa (ao 6) af)))))
  (ah (aN (i:=10) sc_law.nd rfl (Or.inl rfl) (bq (aa (av (ap hu) (ao 2) ag (fun _ _=>rfl)) (aa (bF bw rfl En.z_tuple bo (aa (ar (bE (ls:=["k"]) (fs:=["fresh"]) (js:=[5]) rfl (cm (cs:=[s.heap.objs.size+2]) rfl (by decide +kernel) (by decide +kernel) rfl rfl (fP rfl iA) (.cons rfl (.inl rfl) (.inl rfl) .nil)) (bU (ao 8)) (fun C' s₀ H₀ fp pl'=>⟨(aO (i:=0) (show List.Nodup [("k":Str),("fresh":Str)] from (by decide +kernel)) rfl (Or.inl rfl)),bH,(av (ap hu) (ao 1) (ao 0) (fun _ _=>rfl))⟩))) af)) (aa (av (ap hu) (ao 2) ag (fun _ _=>rfl)) (aa (ao 9) (aa (av (ap hu) (ao 6) (av (ap hu) (ao 2) ag (fun _ _=>rfl)) (fun _ _=>rfl)) af)))))))
  (ah (aN (i:=11) sc_law.nd rfl (Or.inl rfl) (bq (aa (bF bw rfl En.z_tuple bo (aa (ar (bE (ls:=["k"]) (fs:=["stand"]) (js:=[3]) rfl (cm (cs:=[s.heap.objs.size+1]) rfl (by decide +kernel) (by decide +kernel) rfl rfl (fP rfl iA) (.cons rfl (.inl rfl) (.inl rfl) .nil)) (bU (ao 8)) (fun C' s₀ H₀ fp pl'=>⟨(aO (i:=0) (show List.Nodup [("k":Str),("stand":Str)] from (by decide +kernel)) rfl (Or.inl rfl)),bH,(av (ap hu) (av (ap hu) (ao 1) ag (fun _ _=>rfl)) (ao 0) (fun _ _=>rfl))⟩))) af)) (aa (av (ap hu) (ao 3) ag (fun _ _=>rfl)) af))))
  (ah (aW (aK vC (ar (aq G_q24 (hr.mono (by decide)) rfl En.m_q24 En.k_q24 En.b_q24 aH ux (aa (ao 10) af))) ce (aJ _)) (am (az ce)) aG)
  (ah (dU (lP (aq G_q34 (hr.mono (by decide)) rfl En.m_q34 En.k_q34 En.b_q34 aH ux (aa (ao 2) (aa (ao 3) (aa (ao 4) af))))) (gI (n:=2) rfl (bK (aO (i:=12) sc_law.nd rfl (Or.inl rfl)) (bK (aO (i:=13) sc_law.nd rfl (Or.inr rfl)) fg))))
  (ah (aW (aK og (ao 13) eJ (aJ _)) (am (aN (i:=13) sc_law.nd rfl (Or.inr rfl) (bF bw rfl En.z_tuple bo (aa (ar (bE (ls:=["k"]) (fs:=["end"]) (js:=[13]) rfl (cm (cs:=[s.heap.objs.size+4]) rfl (by decide +kernel) (by decide +kernel) rfl rfl (fP rfl iA) (.cons rfl (.inl rfl) (.inl rfl) .nil)) (bU (ao 8)) (fun C' s₀ H₀ fp pl'=>⟨(aO (i:=0) (show List.Nodup [("k":Str),("end":Str)] from (by decide +kernel)) rfl (Or.inl rfl)),bH,(av (ap hu) (ao 1) (ao 0) (fun _ _=>rfl))⟩))) af)))) aG)
  (ah (aW (cq (bP (ar (aq G_q11 (hr.mono (by decide)) rfl En.m_q11 En.k_q11 En.b_q11 aH ux (aa (lP (aq G_q34 (hr.mono (by decide)) rfl En.m_q34 En.k_q34 En.b_q34 aH ux (aa (ao 10) (aa (ao 11) (aa (ao 4) af))))) (aa (bq (aa (ao 12) (aa (ao 13) af))) af)))))) (am (az ce)) aG)
  (ah (aW (cq (bP (ar (aq G_q11 (hr.mono (by decide)) rfl En.m_q11 En.k_q11 En.b_q11 aH ux (aa (ar (aq G_q32 (hr.mono (by decide)) rfl En.m_q32 En.k_q32 En.b_q32 aH ux (aa (ao 10) (aa (ao 11) (aa (ao 4) af))))) (aa (ar (aq G_q32 (hr.mono (by decide)) rfl En.m_q32 En.k_q32 En.b_q32 aH ux (aa (ao 2) (aa (ao 3) (aa (ao 4) af))))) af)))))) (am (az ce)) aG)
  (ah (aW (cq (bP (ar (aq G_q11 (hr.mono (by decide)) rfl En.m_q11 En.k_q11 En.b_q11 aH ux (aa (ar (aq G_q33 (hr.mono (by decide)) rfl En.m_q33 En.k_q33 En.b_q33 aH ux (aa (ao 9) af))) (aa (ar (aA lq rfl En.z_sorted bt_sorted' (aa (ar (bE (ls:=["name"]) (fs:=["names"]) (js:=[6]) rfl (cm (cs:=[s.heap.objs.size+3]) rfl (by decide +kernel) (by decide +kernel) rfl rfl (fP rfl iA) (.cons rfl (.inl rfl) (.inl rfl) .nil)) (bU (ar (aq G_q33 (hr.mono (by decide)) rfl En.m_q33 En.k_q33 En.b_q33 aH ux (aa (av (ap hu) (ao 2) ag (fun _ _=>rfl)) af)))) (fun C' s₀ H₀ fp pl'=>⟨(aO (i:=0) (show List.Nodup [("name":Str),("names":Str)] from (by decide +kernel)) rfl (Or.inl rfl)),bH,(av (ap hu) (ao 1) (ao 0) (fun _ _=>rfl))⟩))) af))) af)))))) (am (az ce)) aG)
  (am (az (aq G_q11 (hr.mono (by decide)) rfl En.m_q11 En.k_q11 En.b_q11 aH ux (aa (ar (aq G_q18 (hr.mono (by decide)) rfl En.m_q18 En.k_q18 En.b_q18 aH ux (aa (ao 10) (aa (ao 9) af)))) (aa (ar (aq G_q18 (hr.mono (by decide)) rfl En.m_q18 En.k_q18 En.b_q18 aH ux (aa (ao 2) (aa (av (ap hu) (ao 2) ag (fun _ _=>rfl)) af)))) af)))))))))))))))))))))))
theorem DZ(En:En w K mg ad):O28 P w K mg base ad:=by
 have G_q1:=Fc (P:=P) (w:=w) (base:=base) En;have G_q0:=EK (P:=P) (w:=w) (base:=base) En;have G_q12:=Bl (P:=P) (w:=w) (base:=base) En G_q0;have G_q29:=Do (P:=P) (w:=w) (base:=base) En;have G_q10:=Ck (P:=P) (w:=w) (base:=base) En;have G_q13:=DQ (P:=P) (w:=w) (base:=base) En G_q29 G_q10;obtain ⟨G_q25,G_q28,G_q31,G_q20⟩:=ii (P:=P) (w:=w) (base:=base) En G_q12 G_q0 G_q13 24;have G_q34:=Bg (P:=P) (w:=w) (base:=base) En G_q1 G_q25;have G_q32:=BE (P:=P) (w:=w) (base:=base) En G_q34;have G_q26:=DC (P:=P) (w:=w) (base:=base) En;have G_q16:=BY (P:=P) (w:=w) (base:=base) En G_q26;have G_q9:=Fe (P:=P) (w:=w) (base:=base) En;have G_q19:=CB (P:=P) (w:=w) (base:=base) En;have G_q27:=Ea (P:=P) (w:=w) (base:=base) En G_q9 G_q19;have G_q30:=Cq (P:=P) (w:=w) (base:=base) En G_q27;have G_q5:=FT (P:=P) (w:=w) (base:=base) En;have G_q21:=CH (P:=P) (w:=w) (base:=base) En G_q30 G_q5;have G_q24:=D3 (P:=P) (w:=w) (base:=base) En G_q16 G_q21 G_q9 G_q19;have G_q2:=dG (P:=P) (w:=w) (base:=base) En G_q5 24;have G_q33:=De (P:=P) (w:=w) (base:=base) En G_q2;have G_q18:=Du (P:=P) (w:=w) (base:=base) En G_q2;have G_q4:=FF (P:=P) (w:=w) (base:=base) En;have G_q22:=Cc (P:=P) (w:=w) (base:=base) En;have G_q15:=C4 (P:=P) (w:=w) (base:=base) En G_q4;have G_q6:=EF (P:=P) (w:=w) (base:=base) En G_q15;have G_q23:=Bi (P:=P) (w:=w) (base:=base) En G_q15;obtain ⟨G_q7,G_q14⟩:=eL (P:=P) (w:=w) (base:=base) En G_q15 G_q23 24;have G_q17:=Bt (P:=P) (w:=w) (base:=base) En G_q15 G_q6 G_q14;have G_q8:=Fg (P:=P) (w:=w) (base:=base) En G_q15;have G_q11:=eO (P:=P) (w:=w) (base:=base) En  24;have G_q3:=dz (P:=P) (w:=w) (base:=base) En  24;have G_law:=Be (P:=P) (w:=w) (base:=base) En G_q11 G_q15 G_q6 G_q17 G_q22 G_q3 G_q8 G_q24 G_q32 G_q18 G_q34 G_q33;exact G_law
end
end Tw
namespace L3
open PySem L2
theorem bh{T:Sd}{EE:DX}{ds:List D}{M:Mem}{Q:DK}{b:BxQ EE Q}{d:D}(hm:∀Q' E',Q' d M->T ds M Q' E')(h:Q d M):calls T EE ds M Q b:=
 calls_of fun Q' E' hq _=>hm Q' E' (hq d M h)
theorem cb{α:Type}{xs:List α}{i:Int}(h:0<=i):atI xs i=xs[i.toNat]?:=by
 unfold atI oR;rw [if_pos h]
 by_cases hi:i<xs.length
 ·rw [if_pos hi];rfl
 ·rw [if_neg hi,List.getElem?_eq_none (by lia)];rfl
@[simp] theorem atI_0 {α:Type} {xs:List α}:atI xs 0=xs[0]?:=cb (by decide)
@[simp] theorem atI_1 {α:Type} {xs:List α}:atI xs 1=xs[1]?:=cb (by decide)
@[simp] theorem atI_2 {α:Type} {xs:List α}:atI xs 2=xs[2]?:=cb (by decide)
@[simp] theorem atI_3 {α:Type} {xs:List α}:atI xs 3=xs[3]?:=cb (by decide)
@[simp] theorem atI_4 {α:Type} {xs:List α}:atI xs 4=xs[4]?:=cb (by decide)
theorem forD_inv{g:jH}{tb:aM}{DD:DEnds}{ok:Mem->Prop}{b:BxF g tb DD ok}(I:List D->Dl->Mem->Prop)(hok:∀xs δ M,I xs δ M->ok M)(h0:∀δ M,I [] δ M->DD.nx δ M)
  (hs:∀x xs δ M,I (x::xs) δ M->∀D':DEnds,(∀δ' M',I xs δ' M'->D'.nx δ' M')->(∀δ' M',I xs δ' M'->D'.ct δ' M')->D'.rt=DD.rt->D'.bk=DD.nx->g x δ M fun δ2 M2=>tb D' δ2 M2):∀xs δ M,I xs δ M->ql g tb DD ok b xs δ M
 |[],δ,M,h=>⟨hok _ _ _ h,h0 δ M h⟩
 |x::xs,δ,M,h=>⟨hok _ _ _ h,hs x xs δ M h _ (fun δ' M' h'=>forD_inv I hok h0 hs xs δ' M' h') (fun δ' M' h'=>forD_inv I hok h0 hs xs δ' M' h') rfl rfl⟩
theorem bg{g:jH}{tt:eD}{te:bL}{ok:Mem->Prop}{Q:List D->Mem->Prop}{b:BxC g tt te ok Q}(I:List D->List D->Dl->Mem->Prop)(hok:∀xs acc δ M,I xs acc δ M->ok M)(h0:∀acc δ M,I [] acc δ M->Q acc M)
  (hs:∀x xs acc δ M,I (x::xs) acc δ M->∀N:Bool->D->Dl->Mem->Prop,(∀y δ' M',acc.length<sizeLine->I xs (acc++[y]) δ' M'->N true y δ' M')->(∀y δ' M',I xs acc δ' M'->N false y δ' M')->g x δ M fun δ2 M2=>tt δ2 M2 fun c M3=>if c=true then te δ2 M3 fun y M4=>N true y δ2 M4 else N false .non δ2 M3)
  (hl:∀x xs acc δ M,I (x::xs) acc δ M->acc.length<sizeLine):∀xs acc δ M,I xs acc δ M->cD g tt te ok Q b xs acc δ M
 |[],acc,δ,M,h=>⟨hok _ _ _ _ h,h0 acc δ M h⟩
 |x::xs,acc,δ,M,h=>⟨hok _ _ _ _ h,hs x xs acc δ M h (fun k y δ' M'=>if k=true then acc.length<sizeLine/\cD g tt te ok Q b xs (acc++[y]) δ' M' else cD g tt te ok Q b xs acc δ' M')
   (fun y δ' M' hlen h'=>by rw [if_pos rfl];exact ⟨hlen,bg I hok h0 hs hl xs _ δ' M' h'⟩) (fun y δ' M' h'=>by rw [if_neg (by simp)];exact bg I hok h0 hs hl xs _ δ' M' h') |> fun z=>by simpa using z⟩
theorem szl{n:Nat}(h:n<=1000000):n<=sizeLine:=Nat.le_trans h (by decide)
theorem cX{n:Nat}(h:n<1000000):n<sizeLine:=Nat.lt_of_lt_of_le h (by decide)
end L3
namespace Tw
open PySem L2 L3
inductive Rw where
 |put (x:Str) (k:Int)|take (x:Str) (i:Int)|pick (x y:Str)|two (w x y z:Str)|ifr (x:Str) (a b:List Rw)|again (x:Str) (a:List Rw)
mutual
def Rw.d:Rw->D
 |.put x k=>.tup [.str "put",.str x,.int k]
 |.take x i=>.tup [.str "take",.str x,.int i]
 |.pick x y=>.tup [.str "pick",.str x,.str y]
 |.two w x y z=>.tup [.str w,.str x,.str y,.str z]
 |.ifr x a b=>.tup [.str "if",.str x,.tup (ay a),.tup (ay b)]
 |.again x a=>.tup [.str "again",.str x,.tup (ay a)]
def ay:List Rw->List D
 |[]=>[]
 |r::rs=>r.d::ay rs
end
abbrev ka:=List (Str×Int)
def gN(n:ka)(x:Str):Option Int:=(n.find? fun p=>decide (p.1=x)).map (·.2)
def nm(n:ka)(x:Str):Int:=(gN n x).getD 0
def sN(n:ka)(x:Str)(v:Int):ka:=n.map fun p=>if p.1=x then (p.1,v) else p
def kvD(n:ka):List (bR×D):=n.map fun p=>(Sum.inr p.1,D.int p.2)
theorem AT:∀{n:ka} {x:Str},x∈n.map (·.1)->gN n x=some (nm n x)
 |[],_,h=>by simp at h
 |(y,v)::n,x,h=>by
  by_cases e:y=x
  ·simp [gN,nm,e]
  ·have:=AT (n:=n) (x:=x) (by simpa [Ne.symm e,eq_comm,e] using h)
   simpa [gN,nm,e] using this
theorem gq:∀{n:ka} {x:Str},iC (kvD n) (Sum.inr x)=(gN n x).map D.int
 |[],x=>rfl
 |(y,v)::n,x=>by
  by_cases e:y=x
  ·simp [iC,kvD,gN,e]
  ·have:=gq (n:=n) (x:=x)
   simpa [iC,kvD,gN,e] using this
theorem w_:∀{n:ka} {x:Str},x∈n.map (·.1)->((kvD n).any fun kv=>decide (kv.1=Sum.inr x))=true
 |[],_,h=>by simp at h
 |(y,v)::n,x,h=>by
  by_cases e:y=x
  ·simp [kvD,e]
  ·have:=w_ (n:=n) (x:=x) (by simpa [Ne.symm e,eq_comm,e] using h)
   simp only [kvD,List.map_cons,List.any_cons,Bool.or_eq_true] at this ⊢;exact .inr this
theorem y9{n:ka}{x:Str}{v:Int}(h:x∈n.map (·.1)):fU (kvD n) (Sum.inr x) (.int v)=kvD (sN n x v):=by
 unfold fU;rw [w_ h,if_pos rfl];simp only [kvD,sN,List.map_map];apply List.map_congr_left;intro p _
 by_cases e:p.1=x
 ·simp [e]
 ·simp [e]
theorem rP{n:ka}{x:Str}{v:Int}:(sN n x v).map (·.1)=n.map (·.1):=by
 simp only [sN,List.map_map];apply List.map_congr_left;intro p _
 by_cases e:p.1=x<;>simp [e]
theorem AK{n:ka}{x y:Str}{v:Int}(h:x∈n.map (·.1)):gN (sN n x v) y=if y=x then some v else gN n y:=by
 induction n with
 |nil=>simp at h
 |cons p n ih=>
  obtain ⟨k,u⟩:=p
  by_cases e:k=x
  ·subst e
   by_cases e2:y=k
   ·subst e2;simp [gN,sN]
   ·simp only [if_neg e2]
    have hk:¬k=y:=fun z=>e2 z.symm
    by_cases hm:k∈n.map (·.1)
    ·have:=ih hm
     simpa [gN,sN,hk,if_neg e2] using this
    ·simp only [gN,sN,List.map_cons,if_pos,List.find?_cons,hk,decide_false]
     congr 1;have:n.map (fun p=>if p.1=k then (p.1,v) else p)=n:=by
      conv=>rhs;rw [<- List.map_id n]
      apply List.map_congr_left;intro p hp;have:p.1≠k:=fun z=>hm (by rw [<- z];exact List.mem_map_of_mem hp)
      simp [this]
     rw [this]
  ·have hm:x∈n.map (·.1):=by simpa [Ne.symm e,eq_comm,e] using h
   have:=ih hm
   by_cases e2:y=x
   ·subst e2;simpa [gN,sN,e] using this
   ·by_cases e3:k=y
    ·subst e3;simp [gN,sN,e]
    ·simpa [gN,sN,e,e3,e2] using this
structure Cf where
 m:Int
 pieces:List Int
 most:Nat
structure Sx where
 nums:ka
 steps:List (List Int×Int)
def Ef(w:Str)(y z m:Int):Int:=if w="sum" then (y+z) % m else if w="by" then y*z % m else if w="less" then (if y<z then 1 else 0) else if y=z then 1 else 0
def fm(c:Cf)(n:ka):Rw->Int
 |.put _ k=>k
 |.take _ i=>(c.pieces[i.toNat]?).getD 0
 |.pick _ y=>(c.pieces[(nm n y % (c.pieces.length:Int)).toNat]?).getD 0
 |.two w _ y z=>Ef w (nm n y) (nm n z) c.m
 |_=>0
def o_:Rw->Str
 |.put x _=>x
 |.take x _=>x
 |.pick x _=>x
 |.two _ x _ _=>x
 |.ifr x _ _=>x
 |.again x _=>x
def nt(c:Cf)(pl:List Int)(v:Int)(s:Sx):Bool×Sx:=if s.steps.length<c.most then (true,⟨s.nums,s.steps++[(pl,v)]⟩) else (false,s)
def lk(n:ka)(x:Str):Int:=if nm n x=0 then 0 else 1
def dy(c:Cf)(x:Str)(pl:List Int)(body:Nat->Sx->Bool×Sx):Nat->Nat->Sx->Bool×Sx
 |0,_,s=>(false,s)
 |f+1,t,s=>if (nt c (pl++[(t:Int)]) (lk s.nums x) s).1=true then
   (if lk s.nums x=1 then
    (if (body t (nt c (pl++[(t:Int)]) (lk s.nums x) s).2).1=true then dy c x pl body f (t+1) (body t (nt c (pl++[(t:Int)]) (lk s.nums x) s).2).2 else body t (nt c (pl++[(t:Int)]) (lk s.nums x) s).2)
   else nt c (pl++[(t:Int)]) (lk s.nums x) s)
  else nt c (pl++[(t:Int)]) (lk s.nums x) s
mutual
def exR(c:Cf):Rw->List Int->Sx->Bool×Sx
 |.ifr x a b,pl,s=>if (nt c pl (lk s.nums x) s).1=true then (if lk s.nums x=1 then cN c a (pl++[lk s.nums x]) 0 (nt c pl (lk s.nums x) s).2 else cN c b (pl++[lk s.nums x]) 0 (nt c pl (lk s.nums x) s).2) else nt c pl (lk s.nums x) s
 |.again x a,pl,s=>dy c x pl (fun t s=>cN c a (pl++[(t:Int)]) 0 s) (c.most+1) 0 s
 |.put x k,pl,s=>if (nt c pl (fm c s.nums (.put x k)) s).1=true then (true,⟨sN s.nums x (fm c s.nums (.put x k)),(nt c pl (fm c s.nums (.put x k)) s).2.steps⟩) else nt c pl (fm c s.nums (.put x k)) s
 |.take x i,pl,s=>if (nt c pl (fm c s.nums (.take x i)) s).1=true then (true,⟨sN s.nums x (fm c s.nums (.take x i)),(nt c pl (fm c s.nums (.take x i)) s).2.steps⟩) else nt c pl (fm c s.nums (.take x i)) s
 |.pick x y,pl,s=>if (nt c pl (fm c s.nums (.pick x y)) s).1=true then (true,⟨sN s.nums x (fm c s.nums (.pick x y)),(nt c pl (fm c s.nums (.pick x y)) s).2.steps⟩) else nt c pl (fm c s.nums (.pick x y)) s
 |.two w x y z,pl,s=>if (nt c pl (fm c s.nums (.two w x y z)) s).1=true then (true,⟨sN s.nums x (fm c s.nums (.two w x y z)),(nt c pl (fm c s.nums (.two w x y z)) s).2.steps⟩) else nt c pl (fm c s.nums (.two w x y z)) s
def cN(c:Cf):List Rw->List Int->Nat->Sx->Bool×Sx
 |[],_,_,s=>(true,s)
 |r::rs,pl,j,s=>if (exR c r (pl++[(j:Int)]) s).1=true then cN c rs pl (j+1) (exR c r (pl++[(j:Int)]) s).2 else exR c r (pl++[(j:Int)]) s
end
def gA(c:Cf)(r:Rw)(pl:List Int)(s:Sx):Bool×Sx:=if s.steps.length<c.most then (true,⟨sN s.nums (o_ r) (fm c s.nums r),s.steps++[(pl,fm c s.nums r)]⟩) else (false,s)
def oC:Rw->Bool
 |.ifr _ _ _=>false
 |.again _ _=>false
 |_=>true
theorem bC{c:Cf}{r:Rw}{pl:List Int}{s:Sx}(h:oC r=true):exR c r pl s=gA c r pl s:=by
 cases r with
 |ifr x a b=>simp [oC] at h
 |again x a=>simp [oC] at h
 |put x k=>simp only [exR,gA,nt,o_];split<;>simp_all
 |take x k=>simp only [exR,gA,nt,o_];split<;>simp_all
 |pick x k=>simp only [exR,gA,nt,o_];split<;>simp_all
 |two w x y z=>simp only [exR,gA,nt,o_];split<;>simp_all
theorem ofs_inj(a b:String):(Str.ofString a=Str.ofString b)=(a=b):=by
 refine propext ⟨fun h=>?_,fun h=>by rw [h]⟩
 rw [Str.ofString_eq_byList] at h;have h1:=congrArg (fun x:Str=>x.cps.toList) h;simp only [Str.ofStringByList] at h1;exact String.toList_inj.mp ((List.map_inj_right fun x y e=>Char.toNat_inj.mp e).mp h1)
end Tw
open PySem L2 L3 Tw
local macro_rules | `(tactic| simp! [$a,*]) => do let p <- ("D1 CL DP Dv A7 z9 yb xZ zK yd yi yH xE z6 yX zT zf yt zd ze xG yc xN AA zU zk As xr yE A5 zG xM A4 zh xq ya y2 yB zZ zX xn C_ Bj zW y6 z0 Ae Av zc y8 Aj At t_ zO zb DF DM CS Dk A2 Az zn CK xz zo yp yx yh zg zp yL yj zu xm CM CO Bo yl yq xK Aq Ag zV xF xt zx uX ur C6 Dw Bn BB DB D4 BV C1 DV Al y4 y_ yT zM xW yn Au xR Ap zN Bu yJ xx Ao yo A3 yD xA yG xB CF Dy BP BJ qt rM xQ qG qO lB rb T_law_8 xD vG um mC T_law_13 nZ jn tZ uL ua vE m7 wj rf Ex xu Dp jg kH eS vc bu startN aE bi aI cY tru aB dh tJ dv cP fits ba gD ae dC aT vJ aQ fC kh xg f_ B4 oI uo lR bd gU hV aF frz cr wI kU vp b0 au kf c8 ki iD Br ac ak bX cC c9 cV wE cG bY gX pS gi E8 gH kA cf oq cH gp sj dTM pH dQ jd lJ o9 keysOf nh Dx zY wJ u0 oSl Ei kz fc ax k8 AV dw rg B2 Cn srcOf cg qY vW frzs EZ eV Eo F5".splitOn " ").toArray.mapM (fun s => `(Lean.Parser.Tactic.simpLemma| ↓$(Lean.mkIdent s.toName):ident)); let q <- ("List.map_cons List.map_nil List.cons_append List.nil_append List.length_cons List.length_nil List.getElem?_cons_succ List.getElem?_cons_zero List.set_cons_succ List.set_cons_zero Nat.zero_add Nat.reduceAdd Nat.reduceSub List.replicate_succ List.replicate_zero List.append_nil true_and and_true if_true if_false Bool.false_eq_true decide_eq_true_eq decide_eq_false_iff_not Bool.not_true Bool.not_false Bool.and_true Bool.true_and Bool.and_false Bool.false_and Mem.upd_same Option.isSome_some Option.isSome_none ofs_inj String.reduceEq".splitOn " ").toArray.mapM (fun s => `(Lean.Parser.Tactic.simpLemma| $(Lean.mkIdent s.toName):ident)); let r : Lean.TSyntaxArray [`Lean.Parser.Tactic.simpStar, `Lean.Parser.Tactic.simpErase, `Lean.Parser.Tactic.simpLemma] := (p.map (⟨·.raw⟩)) ++ (q.map (⟨·.raw⟩)) ++ a.getElems; `(tactic| simp -dsimp only [$r,*])
namespace Tw
open PySem L2 L3
theorem nU{ad:Ad}{M:Mem}{Q:DK}{E:DX}{w:Str}{y z m:Int}(hm:0<m)(hy:0<=y)(hy2:y<1000)(h:Q (.int (Ef w y z m)) M):rG ad [.str w,.int y,.int z,.int m] M Q E:=by
 have hc:CMul y z:=.inl ⟨by lia,by lia⟩
 unfold Ef at h;simp! [EH,nL]
 split
 ·rename_i e;rw [if_pos e] at h;exact ⟨hm,drp_id h⟩
 ·rename_i e;rw [if_neg e] at h
  split
  ·rename_i e;rw [if_pos e] at h;exact ⟨hc,hm,drp_id h⟩
  ·rename_i e;rw [if_neg e] at h
   split
   ·rename_i e;rw [if_pos e] at h
    split<;>rename_i e2
    ·rw [if_pos e2] at h;exact drp_id h
    ·rw [if_neg e2] at h;exact drp_id h
   ·rename_i e;rw [if_neg e] at h
    split<;>rename_i e2
    ·rw [if_pos e2] at h;exact drp_id h
    ·rw [if_neg e2] at h;exact drp_id h
def dl(names:List Str)(m many:Int):Rw->Prop
 |.put x k=>x∈names/\0<=k/\k<m
 |.take x i=>x∈names/\0<=i/\i<many
 |.pick x y=>x∈names/\y∈names/\0<many
 |.two w x y z=>(w="sum"\/w="by"\/w="less"\/w="same")/\x∈names/\y∈names/\z∈names
 |_=>False
structure NOk(names:List Str)(m:Int)(n:ka):Prop where
 keys:n.map (·.1)=names
 rng:∀p∈n,0<=p.2/\p.2<m
theorem NOk.at{names:List Str}{m:Int}{n:ka}(h:NOk names m n){x:Str}(hx:x∈names):gN n x=some (nm n x)/\0<=nm n x/\nm n x<m:=by
 have e:gN n x=some (nm n x):=AT (by rw [h.keys];exact hx)
 refine ⟨e,?_⟩;unfold gN at e;obtain ⟨p,hp,hv⟩:=Option.map_eq_some_iff.mp e;rw [<- hv];exact h.rng p (List.mem_of_find?_eq_some hp)
theorem xy{w:Str}{y z m:Int}(h2:2<=m):0<=Ef w y z m/\Ef w y z m<m:=by
 unfold Ef;have a1:=Int.emod_nonneg (y+z) (show m≠0 by lia)
 have a2:=Int.emod_lt_of_pos (y+z) (show 0<m by lia)
 have a3:=Int.emod_nonneg (y*z) (show m≠0 by lia)
 have a4:=Int.emod_lt_of_pos (y*z) (show 0<m by lia)
 repeat' split
 all_goals lia
structure COk(c:Cf):Prop where
 m2:2<=c.m
 m1:c.m<=997
 rng:∀v∈c.pieces,0<=v/\v<c.m
 few:c.pieces.length<=1000
 most:c.most<=10000
theorem COk.piece{c:Cf}(h:COk c){i:Nat}(hi:i<c.pieces.length):c.pieces[i]?=some ((c.pieces[i]?).getD 0)/\0<=(c.pieces[i]?).getD 0/\(c.pieces[i]?).getD 0<c.m:=by
 rw [List.getElem?_eq_getElem hi];exact ⟨rfl,h.rng _ (List.getElem_mem hi)⟩
theorem yk{c:Cf}(h:COk c){names:List Str}{n:ka}(hn:NOk names c.m n){r:Rw}(hr:dl names c.m c.pieces.length r):0<=fm c n r/\fm c n r<c.m:=by
 cases r with
 |put x k=>exact hr.2
 |take x i=>exact (h.piece (i:=i.toNat) (by have:=hr.2;lia)).2
 |pick x y=>
  have h0:=hr.2.2;have h1:=Int.emod_nonneg (nm n y) (show (c.pieces.length:Int)≠0 by lia)
  have h2:=Int.emod_lt_of_pos (nm n y) h0;exact (h.piece (i:=(nm n y % (c.pieces.length:Int)).toNat) (by lia)).2
 |two w x y z=>exact xy h.m2
 |ifr=>exact hr.elim
 |again=>exact hr.elim
def planD(c:Cf)(names:List Str)(rows:List Rw)(mk:Str):D:=.tup [.int c.m,.tup (names.map D.str),.int (c.pieces.length:Nat),.tup (ay rows),.str mk]
theorem cO{ad:Ad}{M:Mem}{Q:DK}{E:DX}{c:Cf}{names:List Str}{rows:List Rw}{mk:Str}{dn:Addr}{n:ka}{r:Rw}(hn:NOk names c.m n)(hr:dl names c.m c.pieces.length r)(hd:M dn=some (.dK (kvD n)))
  (h:Q (match r with|.take _ i=>.int i|.pick _ y=>.int (nm n y % (c.pieces.length:Int))|_=>.non) M):r8 ad [planD c names rows mk,.ref dn,r.d] M Q E:=by
 cases r with
 |put x k=>(simp! [qI,ig,planD,Rw.d,atI_0,atI_2];exact drp_id h)
 |take x i=>(simp! [qI,ig,planD,Rw.d,atI_0,atI_2];exact drp_id h)
 |pick x y=>
  simp! [qI,ig,planD,Rw.d,atI_0,atI_2,hd,gq,(hn.at hr.2.1).1,Option.map_some];exact ⟨hr.2.2,drp_id h⟩
 |two w x y z=>
  obtain ⟨hw,_⟩:=hr;rcases hw with rfl|rfl|rfl|rfl<;>(simp! [qI,ig,planD,Rw.d,atI_0,atI_2];exact drp_id h)
 |ifr=>exact hr.elim
 |again=>exact hr.elim
theorem jy{ad:Ad}{M:Mem}{Q:DK}{E:DX}{c:Cf}{names:List Str}{rows:List Rw}{mk:Str}{dn:Addr}{n:ka}{r:Rw}(hc:COk c)(hn:NOk names c.m n)(hr:dl names c.m c.pieces.length r)(hd:M dn=some (.dK (kvD n)))
  (h:Q (.int (fm c n r)) M):mn ad [planD c names rows mk,.ref dn,.tup (c.pieces.map D.int),r.d] M Q E:=by
 have hm1:=hc.m1;have hm2:=hc.m2;cases r with
 |put x k=>
  simp! [qA,ik,planD,Rw.d,atI_0,atI_2];exact drp_id h
 |take x i=>
  have hr':=hr;obtain ⟨hx,h0,h1⟩:=hr';have hp:=hc.piece (i:=i.toNat) (by lia)
  have e1:(c.pieces.map D.int)[i.toNat]?=some (.int (fm c n (.take x i))):=by rw [List.getElem?_map,hp.1];rfl
  simp! [qA,ik,planD,Rw.d,atI_0,atI_2];refine bh (d:=.int i) (fun _ _ q=>cO (c:=c) (names:=names) (rows:=rows) (mk:=mk) (r:=.take x i) hn hr hd q) ?_;simp! [cb h0,e1];exact drp_id h
 |pick x y=>
  have hr':=hr;obtain ⟨hx,hy,h0⟩:=hr';have g0:=Int.emod_nonneg (nm n y) (show (c.pieces.length:Int)≠0 by lia)
  have g1:=Int.emod_lt_of_pos (nm n y) h0;have hp:=hc.piece (i:=(nm n y % (c.pieces.length:Int)).toNat) (by lia)
  have e1:(c.pieces.map D.int)[(nm n y % (c.pieces.length:Int)).toNat]?=some (.int (fm c n (.pick x y))):=by rw [List.getElem?_map,hp.1];rfl
  simp! [qA,ik,planD,Rw.d,atI_0,atI_2];refine bh (d:=.int (nm n y % (c.pieces.length:Int))) (fun _ _ q=>cO (c:=c) (names:=names) (rows:=rows) (mk:=mk) (r:=.pick x y) hn hr hd q) ?_;simp! [cb g0,e1];exact drp_id h
 |two w x y z=>
  have hr':=hr;obtain ⟨hw,hx,hy,hz⟩:=hr';have a1:=hn.at hy;have a2:=hn.at hz;have hw1:((w=Str.ofString "put")=False):=by rcases hw with rfl|rfl|rfl|rfl<;>exact eq_false (by decide +kernel)
  simp! [qA,ik,planD,Rw.d,atI_0,atI_2,hw1];refine bh (d:=.non) (fun _ _ q=>cO (c:=c) (names:=names) (rows:=rows) (mk:=mk) (r:=.two w x y z) hn hr hd q) ?_;simp! [atI_0,atI_2,atI_3,hd,gq,a1.1,a2.1,Option.map_some];exact bh (d:=.int (fm c n (.two w x y z))) (fun _ _ q=>nU (by lia) (by lia) (by lia) q) (drp_id h)
 |ifr=>exact hr.elim
 |again=>exact hr.elim
structure Wk where
 a:Addr
 dn:Addr
 ls:Addr
 h1:a≠dn
 h2:a≠ls
 h3:dn≠ls
def plD(l:List Int):D:=.tup (l.map D.int)
def sw(l:List (List Int×Int)):List D:=l.map fun p=>.tup [plD p.1,.int p.2]
def wM(ad:Ad)(k:Wk)(c:Cf)(pD:D)(s:Sx)(M:Mem):Mem:=
 ((M.upd k.a (.ins ad.C_Walk [("plan",pD),("numbers",.ref k.dn),("pieces",.tup (c.pieces.map D.int)),("most",.int (c.most:Nat)),("steps",.ref k.ls)])).upd k.dn (.dK (kvD s.nums))).upd k.ls (.lst (sw s.steps))
section
variable {ad:Ad}{k:Wk}{c:Cf}{pD:D}{s:Sx}{M:Mem}
theorem wM_a:wM ad k c pD s M k.a=some (.ins ad.C_Walk [("plan",pD),("numbers",.ref k.dn),("pieces",.tup (c.pieces.map D.int)),("most",.int (c.most:Nat)),("steps",.ref k.ls)]):=by
 unfold wM;rw [aj k.h2,aj k.h1,Mem.upd_same]
theorem j_:wM ad k c pD s M k.dn=some (.dK (kvD s.nums)):=by unfold wM;rw [aj k.h3,Mem.upd_same]
theorem B7:wM ad k c pD s M k.ls=some (.lst (sw s.steps)):=by unfold wM;rw [Mem.upd_same]
theorem vA{x:List (List Int×Int)}:(wM ad k c pD s M).upd k.ls (.lst (sw x))=wM ad k c pD ⟨s.nums,x⟩ M:=by unfold wM;rw [Mem.upd_upd]
theorem zw{x:ka}:(wM ad k c pD s M).upd k.dn (.dK (kvD x))=wM ad k c pD ⟨x,s.steps⟩ M:=by
 unfold wM;rw [c7 (Ne.symm k.h3),Mem.upd_upd]
theorem lf0:List.lookup ("plan":Str) [(("plan":Str),x0),(("numbers":Str),x1),(("pieces":Str),x2),(("most":Str),x3),(("steps":Str),x4)]=some (x0:D):=rfl
theorem xj:List.lookup ("numbers":Str) [(("plan":Str),x0),(("numbers":Str),x1),(("pieces":Str),x2),(("most":Str),x3),(("steps":Str),x4)]=some (x1:D):=rfl
theorem lf2:List.lookup ("pieces":Str) [(("plan":Str),x0),(("numbers":Str),x1),(("pieces":Str),x2),(("most":Str),x3),(("steps":Str),x4)]=some (x2:D):=rfl
theorem lf3:List.lookup ("most":Str) [(("plan":Str),x0),(("numbers":Str),x1),(("pieces":Str),x2),(("most":Str),x3),(("steps":Str),x4)]=some (x3:D):=rfl
theorem lf4:List.lookup ("steps":Str) [(("plan":Str),x0),(("numbers":Str),x1),(("pieces":Str),x2),(("most":Str),x3),(("steps":Str),x4)]=some (x4:D):=rfl
theorem lfm:List.lookup ("note_step":Str) [(("plan":Str),x0),(("numbers":Str),x1),(("pieces":Str),x2),(("most":Str),x3),(("steps":Str),x4)]=(none:Option D):=rfl
theorem lfl:List.lookup ("look":Str) [(("plan":Str),x0),(("numbers":Str),x1),(("pieces":Str),x2),(("most":Str),x3),(("steps":Str),x4)]=(none:Option D):=rfl
theorem eT{Q:DK}{E:DX}{pl:List Int}{v:Int}(hc:c.most<=10000)(h1:(nt c pl v s).1=true->Q .non (wM ad k c pD (nt c pl v s).2 M))(h2:(nt c pl v s).1=false->E ad.C_Dry (wM ad k c pD (nt c pl v s).2 M)):
  qm ad [.ref k.a,plD pl,.int v] (wM ad k c pD s M) Q E:=by
 unfold nt at h1 h2;simp! [u_q0,uk,wM_a,B7,lf3,lf4,sw,List.length_map]
 split
 ·rename_i e
  have:¬s.steps.length<c.most:=by lia
  rw [if_neg this] at h2;exact dq (h2 rfl)
 ·rename_i e
  have hl:s.steps.length<c.most:=by lia
  rw [if_pos hl] at h1;refine ⟨szl (by decide),cX (by lia),drp_id ?_⟩
  have:=h1 rfl;rw [<- vA] at this;simpa [sw] using this
end
end Tw
namespace L3
open PySem L2
def j6:Nat->List D->List D
 |_,[]=>[]
 |k,x::xs=>.tup [.int (k:Nat),x]::j6 (k+1) xs
theorem nE:∀(xs:List D) (k:Nat),(xs.zipIdx k).map (fun p=>D.tup [.int (p.2:Nat),p.1])=j6 k xs
 |[],_=>rfl
 |x::xs,k=>by rw [List.zipIdx_cons,List.map_cons,nE xs (k+1)];rfl
theorem enumD_eq(xs:List D):nD xs=j6 0 xs:=nE xs 0
theorem aU{xs:List D}{M:Mem}:DIt.ok ⟨xs,[]⟩ M:=fun _ h=>by cases h
end L3
namespace Tw
open PySem L2 L3
mutual
def OkR(names:List Str)(m many:Int):Rw->Prop
 |.ifr x a b=>x∈names/\bV names m many a/\bV names m many b
 |.again x a=>x∈names/\bV names m many a
 |.put x k=>dl names m many (.put x k)
 |.take x k=>dl names m many (.take x k)
 |.pick x k=>dl names m many (.pick x k)
 |.two w x y z=>dl names m many (.two w x y z)
def bV(names:List Str)(m many:Int):List Rw->Prop
 |[]=>True
 |r::rs=>OkR names m many r/\bV names m many rs
end
mutual
def hR:Rw->Nat
 |.ifr _ a b=>1+max (di a) (di b)
 |.again _ a=>1+di a
 |_=>0
def di:List Rw->Nat
 |[]=>0
 |r::rs=>max (hR r) (di rs)
end
section
variable {c:Cf}{names:List Str}
theorem F6{n:ka}(hn:NOk names c.m n){x:Str}{v:Int}(hv:0<=v/\v<c.m):NOk names c.m (sN n x v):=by
 refine ⟨by rw [rP];exact hn.keys,fun p hp=>?_⟩
 simp only [sN,List.mem_map] at hp;obtain ⟨q,hq,rfl⟩:=hp
 split
 ·exact hv
 ·exact hn.rng q hq
theorem iL{pl:List Int}{v:Int}{s:Sx}:(nt c pl v s).2.nums=s.nums:=by unfold nt;split<;>rfl
theorem iY(hc:COk c){r:Rw}(hr:dl names c.m c.pieces.length r){pl:List Int}{s:Sx}(hn:NOk names c.m s.nums):NOk names c.m (gA c r pl s).2.nums:=by
 unfold gA
 split
 ·exact F6 hn (yk hc hn hr)
 ·exact hn
theorem ra{x:Str}{pl:List Int}{body:Nat->Sx->Bool×Sx}(hb:∀t s,NOk names c.m s.nums->NOk names c.m (body t s).2.nums):∀(f t:Nat) (s:Sx),NOk names c.m s.nums->NOk names c.m (dy c x pl body f t s).2.nums
 |0,_,s,h=>h
 |f+1,t,s,h=>by
  have h1:NOk names c.m (nt c (pl++[(t:Int)]) (lk s.nums x) s).2.nums:=by rw [iL];exact h
  unfold dy
  split
  ·split
   ·split
    ·exact ra hb f (t+1) _ (hb t _ h1)
    ·exact hb t _ h1
   ·exact h1
  ·exact h1
mutual
theorem p_(hc:COk c):∀(r:Rw),OkR names c.m c.pieces.length r->∀(pl:List Int) (s:Sx),NOk names c.m s.nums->NOk names c.m (exR c r pl s).2.nums
 |.ifr x a b,h,pl,s,hn=>by
  have h1:NOk names c.m (nt c pl (lk s.nums x) s).2.nums:=by rw [iL];exact hn
  simp only [OkR] at h;unfold exR
  split
  ·split
   ·exact fh hc a h.2.1 _ _ _ h1
   ·exact fh hc b h.2.2 _ _ _ h1
  ·exact h1
 |.again x a,h,pl,s,hn=>by
  simp only [OkR] at h;unfold exR;exact ra (fun t s hs=>fh hc a h.2 _ _ _ hs) _ _ _ hn
 |.put x k,h,pl,s,hn=>by rw [bC rfl];exact iY hc (by simpa only [OkR] using h) hn
 |.take x k,h,pl,s,hn=>by rw [bC rfl];exact iY hc (by simpa only [OkR] using h) hn
 |.pick x k,h,pl,s,hn=>by rw [bC rfl];exact iY hc (by simpa only [OkR] using h) hn
 |.two w x y z,h,pl,s,hn=>by rw [bC rfl];exact iY hc (by simpa only [OkR] using h) hn
theorem fh(hc:COk c):∀(rs:List Rw),bV names c.m c.pieces.length rs->∀(pl:List Int) (j:Nat) (s:Sx),NOk names c.m s.nums->NOk names c.m (cN c rs pl j s).2.nums
 |[],_,_,_,s,hn=>by simpa only [cN] using hn
 |r::rs,h,pl,j,s,hn=>by
  simp only [bV] at h;unfold cN
  split
  ·exact fh hc rs h.2 _ _ _ (p_ hc r h.1 _ _ hn)
  ·exact p_ hc r h.1 _ _ hn
end
end
def Post(ad:Ad)(k:Wk)(c:Cf)(pD:D)(r:Bool×Sx)(M:Mem)(d:D)(Q:DK)(E:DX):Prop:=(r.1=true->Q d (wM ad k c pD r.2 M))/\(r.1=false->E ad.C_Dry (wM ad k c pD r.2 M))
theorem calls_post{ad:Ad}{k:Wk}{c:Cf}{pD:D}{r:Bool×Sx}{M M0:Mem}{d:D}{T:Sd}{ds:List D}{Q:DK}{E:DX}(hm:∀Q' E',Post ad k c pD r M d Q' E'->T ds M0 Q' E'){b:BxQ E Q}(h:Post ad k c pD r M d Q E):calls T E ds M0 Q b:=
 calls_of fun Q' E' hq he=>hm Q' E' ⟨fun e=>hq _ _ (h.1 e),fun e=>he _ _ (h.2 e)⟩
theorem Post.drp{ad:Ad}{k:Wk}{c:Cf}{pD:D}{r:Bool×Sx}{M:Mem}{d:D}{Q:DK}{E:DX}(h:Post ad k c pD r M d Q E):Post ad k c pD r M d (L3.drp Q) (drpX E):=⟨fun e=>drp_id (h.1 e),fun e=>dq (h.2 e)⟩
section
variable {ad:Ad}{k:Wk}{c:Cf}{s:Sx}{M:Mem}{names:List Str}{rows0:List Rw}{mk:Str}
theorem kO{Q:DK}{E:DX}{pl:List Int}{x:Str}(hc:COk c)(hn:NOk names c.m s.nums)(hx:x∈names)(h:Post ad k c (planD c names rows0 mk) (nt c pl (lk s.nums x) s) M (.int (lk s.nums x)) Q E):
  kS ad [.ref k.a,plD pl,.str x] (wM ad k c (planD c names rows0 mk) s M) Q E:=by
 have hv:=hn.at hx;have key:∀v:Int,v=lk s.nums x->calls (qm ad) (drpX E) [.ref k.a,plD pl,.int v] (wM ad k c (planD c names rows0 mk) s M) (fun _ M1=>L3.drp Q (.int v) M1) ⟨⟩:=by
  rintro v rfl
  exact calls_post (d:=.non) (fun Q' E' z=>eT hc.most z.1 z.2) ⟨fun e=>drp_id (h.1 e),fun e=>dq (h.2 e)⟩
 simp! [F9,mS,wM_a,j_,xj,lfm,gq,hv.1,Option.map_some]
 split
 ·rename_i e
  exact key 0 (by unfold lk;rw [if_pos e])
 ·rename_i e
  exact key 1 (by unfold lk;rw [if_neg e])
theorem cT{n:Nat}{Q:DK}{E:DX}{pl:List Int}{r:Rw}(hnl:names.length<=1000)(hc:COk c)(hn:NOk names c.m s.nums)(hr:dl names c.m c.pieces.length r)(h:Post ad k c (planD c names rows0 mk) (gA c r pl s) M .non Q E):
  S_q28 ad (n+1) [.ref k.a,r.d,plD pl] (wM ad k c (planD c names rows0 mk) s M) Q E:=by
 have fin:calls (mn ad) (drpX E) [planD c names rows0 mk,.ref k.dn,.tup (c.pieces.map D.int),r.d] (wM ad k c (planD c names rows0 mk) s M) (fun d M'=>frz d M' fun x M1=>
   au 3 x [some (.ref k.a),some r.d,some (plD pl),none] M1 fun δ M2=>aE (cf (k8 ad.C_Walk "note_step" (qm ad) (drpX E) 3 (ae 0) (ac (ae 2) (ac (ae 3) ak))))
    (b0 (ae 3) (iD (gH ad.C_Walk (ae 0) "numbers") (aB bd (ae 1) (dC (.int 1))))) { nx:=fun _ M'=>L3.drp Q .non M',rt:=L3.drp Q } δ M2) ⟨⟩:=by
  refine bh (d:=.int (fm c s.nums r)) (fun _ _ q=>jy hc hn hr j_ q) ?_;simp! [wM_a,lfm];refine calls_post (r:=nt c pl (fm c s.nums r) s) (d:=.non) (fun Q' E' z=>eT hc.most z.1 z.2) ?_;unfold gA at h;unfold nt;have hkeys:o_ r∈s.nums.map (·.1):=by
   rw [hn.keys];cases r with
   |put x k=>exact hr.1
   |take x k=>exact hr.1
   |pick x k=>exact hr.1
   |two w x y z=>exact hr.2.1
   |ifr=>exact hr.elim
   |again=>exact hr.elim
  split
  ·rename_i hl
   rw [if_pos hl] at h;refine ⟨fun _=>?_,fun e=>by simp at e⟩
   have h2:=h.1 rfl;have e2:wM ad k c (planD c names rows0 mk) ⟨sN s.nums (o_ r) (fm c s.nums r),s.steps++[(pl,fm c s.nums r)]⟩ M=(wM ad k c (planD c names rows0 mk) ⟨s.nums,s.steps++[(pl,fm c s.nums r)]⟩ M).upd k.dn (.dK (fU (kvD s.nums) (Sum.inr (o_ r)) (.int (fm c s.nums r)))):=by
    rw [y9 hkeys,zw]
   rw [e2] at h2;have hlen:(kvD s.nums).length<sizeLine:=by rw [kvD,List.length_map,<- List.length_map (f:=(·.1)),hn.keys];exact cX (by lia)
   cases r with
   |put x kk=>simp! [Rw.d,wM_a,j_,xj,atI_1];exact ⟨hlen,drp_id h2⟩
   |take x kk=>simp! [Rw.d,wM_a,j_,xj,atI_1];exact ⟨hlen,drp_id h2⟩
   |pick x kk=>simp! [Rw.d,wM_a,j_,xj,atI_1];exact ⟨hlen,drp_id h2⟩
   |two w x y z=>simp! [Rw.d,wM_a,j_,xj,atI_1];exact ⟨hlen,drp_id h2⟩
   |ifr=>exact hr.elim
   |again=>exact hr.elim
  ·rename_i hl
   rw [if_neg hl] at h;exact ⟨fun e=>by simp at e,fun _=>dq (h.2 rfl)⟩
 cases r with
 |put x kk=>simp! [kF,fF,Rw.d,wM_a,lf0,xj,lf2,atI_0];exact fin
 |take x kk=>simp! [kF,fF,Rw.d,wM_a,lf0,xj,lf2,atI_0];exact fin
 |pick x kk=>simp! [kF,fF,Rw.d,wM_a,lf0,xj,lf2,atI_0];exact fin
 |two w x y z=>
  have hw1:((w=Str.ofString "if")=False):=by rcases hr.1 with rfl|rfl|rfl|rfl<;>exact eq_false (by decide +kernel)
  have hw2:((w=Str.ofString "again")=False):=by rcases hr.1 with rfl|rfl|rfl|rfl<;>exact eq_false (by decide +kernel)
  simp! [kF,fF,Rw.d,wM_a,lf0,xj,lf2,atI_0,hw1,hw2];exact fin
 |ifr=>exact hr.elim
 |again=>exact hr.elim
end
end Tw
namespace Tw
open PySem L2 L3
section
variable {c:Cf}
def Gr(c:Cf)(s s':Sx):Prop:=s.steps.length<=s'.steps.length/\(s.steps.length<=c.most->s'.steps.length<=c.most)
theorem Gr.refl{s:Sx}:Gr c s s:=⟨Nat.le_refl _,id⟩
theorem Gr.trans{s s1 s2:Sx}(a:Gr c s s1)(b:Gr c s1 s2):Gr c s s2:=⟨Nat.le_trans a.1 b.1,fun h=>b.2 (a.2 h)⟩
theorem nt_gr{pl:List Int}{v:Int}{s:Sx}:Gr c s (nt c pl v s).2:=by
 unfold nt
 split
 ·refine ⟨by simp,fun _=>?_⟩;simp;lia
 ·exact Gr.refl
theorem iJ{r:Rw}{pl:List Int}{s:Sx}:Gr c s (gA c r pl s).2:=by
 unfold gA
 split
 ·refine ⟨by simp,fun _=>?_⟩;simp;lia
 ·exact Gr.refl
theorem rC{x:Str}{pl:List Int}{body:Nat->Sx->Bool×Sx}(hb:∀t s,Gr c s (body t s).2):∀(f t:Nat) (s:Sx),Gr c s (dy c x pl body f t s).2
 |0,_,s=>Gr.refl
 |f+1,t,s=>by
  unfold dy
  split
  ·split
   ·split
    ·exact nt_gr.trans ((hb t _).trans (rC hb f (t+1) _))
    ·exact nt_gr.trans (hb t _)
   ·exact nt_gr
  ·exact nt_gr
mutual
theorem pe:∀(r:Rw) (pl:List Int) (s:Sx),Gr c s (exR c r pl s).2
 |.ifr x a b,pl,s=>by
  unfold exR
  split
  ·split
   ·exact nt_gr.trans (ff a _ _ _)
   ·exact nt_gr.trans (ff b _ _ _)
  ·exact nt_gr
 |.again x a,pl,s=>by
  unfold exR;exact rC (fun t s=>ff a _ _ _) _ _ _
 |.put x k,pl,s=>by rw [bC rfl];exact iJ
 |.take x k,pl,s=>by rw [bC rfl];exact iJ
 |.pick x k,pl,s=>by rw [bC rfl];exact iJ
 |.two w x y z,pl,s=>by rw [bC rfl];exact iJ
theorem ff:∀(rs:List Rw) (pl:List Int) (j:Nat) (s:Sx),Gr c s (cN c rs pl j s).2
 |[],_,_,s=>by unfold cN;exact Gr.refl
 |r::rs,pl,j,s=>by
  unfold cN
  split
  ·exact (pe r _ _).trans (ff rs _ _ _)
  ·exact pe r _ _
end
end
theorem eK{pl:List Int}{v:Int}:D.tup (pl.map D.int++[D.int v])=plD (pl++[v]):=by simp [plD]
section
variable {ad:Ad}{k:Wk}{c:Cf}{names:List Str}{rows0:List Rw}{mk:Str}
def qv(ad:Ad)(k:Wk)(c:Cf)(names:List Str)(rows0:List Rw)(mk:Str)(n:Nat):Prop:=∀(rs:List Rw) (pl:List Int) (s:Sx) (M:Mem) (Q:DK) (E:DX),bV names c.m c.pieces.length rs->3*di rs+2<=n->pl.length+2*di rs+2<=1000->NOk names c.m s.nums->s.steps.length<=c.most->
 Post ad k c (planD c names rows0 mk) (cN c rs pl 0 s) M .non Q E->S_q25 ad n [.ref k.a,.tup (ay rs),plD pl] (wM ad k c (planD c names rows0 mk) s M) Q E
def E9(ad:Ad)(k:Wk)(c:Cf)(names:List Str)(rows0:List Rw)(mk:Str)(n:Nat):Prop:=∀(r:Rw) (pl:List Int) (s:Sx) (M:Mem) (Q:DK) (E:DX),OkR names c.m c.pieces.length r->3*hR r+1<=n->pl.length+2*hR r+1<=1000->NOk names c.m s.nums->s.steps.length<=c.most->
 Post ad k c (planD c names rows0 mk) (exR c r pl s) M .non Q E->S_q28 ad n [.ref k.a,r.d,plD pl] (wM ad k c (planD c names rows0 mk) s M) Q E
def PIf(ad:Ad)(k:Wk)(c:Cf)(names:List Str)(rows0:List Rw)(mk:Str)(n:Nat):Prop:=∀(x:Str) (a b:List Rw) (pl:List Int) (s:Sx) (M:Mem) (Q:DK) (E:DX),OkR names c.m c.pieces.length (.ifr x a b)->3*hR (.ifr x a b)<=n->pl.length+2*hR (.ifr x a b)+1<=1000->NOk names c.m s.nums->s.steps.length<=c.most->
 Post ad k c (planD c names rows0 mk) (exR c (.ifr x a b) pl s) M .non Q E->S_q31 ad n [.ref k.a,(Rw.ifr x a b).d,plD pl] (wM ad k c (planD c names rows0 mk) s M) Q E
def PAg(ad:Ad)(k:Wk)(c:Cf)(names:List Str)(rows0:List Rw)(mk:Str)(n:Nat):Prop:=∀(x:Str) (a:List Rw) (pl:List Int) (s:Sx) (M:Mem) (Q:DK) (E:DX),OkR names c.m c.pieces.length (.again x a)->3*hR (.again x a)<=n->pl.length+2*hR (.again x a)+1<=1000->NOk names c.m s.nums->s.steps.length<=c.most->
 Post ad k c (planD c names rows0 mk) (exR c (.again x a) pl s) M .non Q E->S_q20 ad n [.ref k.a,(Rw.again x a).d,plD pl] (wM ad k c (planD c names rows0 mk) s M) Q E
theorem so(hc:COk c){n:Nat}(ih:E9 ad k c names rows0 mk n):qv ad k c names rows0 mk (n+1):=by
 intro rs pl s M Q E hok hn hpl hno hst h;simp! [u_q25,T_q25,dFor,enumD_eq]
 refine forD_inv (fun xs δ M'=>∃(rs':List Rw) (j:Nat) (s':Sx) (c3 c4:Option D),xs=j6 j (ay rs')/\δ=[some (.ref k.a),some (.tup (ay rs)),some (plD pl),c3,c4]/\M'=wM ad k c (planD c names rows0 mk) s' M/\bV names c.m c.pieces.length rs'/\3*di rs'+2<=n+1/\pl.length+2*di rs'+2<=1000/\NOk names c.m s'.nums/\s'.steps.length<=c.most/\
  Post ad k c (planD c names rows0 mk) (cN c rs' pl j s') M .non Q E) (fun _ _ _ _=>aU) ?_ ?_ _ _ _ ⟨rs,0,s,none,none,rfl,rfl,rfl,hok,hn,hpl,hno,hst,h⟩
 ·rintro δ M' ⟨rs',j,s',c3,c4,e1,rfl,rfl,hok,hn,hpl,hno,hst,h⟩
  cases rs' with
  |nil=>exact drp_id (by simpa [cN] using h.1 (by simp [cN]))
  |cons r rs=>simp [ay,j6] at e1
 ·rintro x xs δ M' ⟨rs',j,s',c3,c4,e1,rfl,rfl,hok,hn,hpl,hno,hst,h⟩ D' hnx _ _ _
  cases rs' with
  |nil=>simp [ay,j6] at e1
  |cons r rs'=>
   simp only [ay,j6,List.cons.injEq] at e1;obtain ⟨rfl,rfl⟩:=e1;simp only [bV] at hok;have h1:hR r<=di (r::rs')/\di rs'<=di (r::rs'):=by simp only [di];lia
   simp! [plD,List.length_append,List.length_map];refine ⟨szl (by decide),szl (by lia),?_⟩
   rw [eK];refine calls_post (r:=exR c r (pl++[(j:Int)]) s') (d:=.non) (fun Q' E' z=>ih r (pl++[(j:Int)]) s' M Q' E' hok.1 (by lia) (by simp;lia) hno hst z) ?_
   simp only [cN] at h;cases hb:(exR c r (pl++[(j:Int)]) s').1 with
   |true=>
    rw [if_pos hb] at h;refine ⟨fun _=>hnx _ _ ⟨rs',j+1,_,_,_,rfl,rfl,rfl,hok.2,by lia,by lia,p_ hc r hok.1 _ _ hno,(pe r _ _).2 hst,h⟩,fun e=>by rw [hb] at e;cases e⟩
   |false=>
    rw [if_neg (by rw [hb];simp)] at h
    exact ⟨fun e=>(by rw [hb] at e;cases e),fun _=>dq (h.2 hb)⟩
theorem wm(hnl:names.length<=1000)(hc:COk c){n:Nat}(ihf:PIf ad k c names rows0 mk n)(iha:PAg ad k c names rows0 mk n):E9 ad k c names rows0 mk (n+1):=by
 intro r pl s M Q E hok hn hpl hno hst h;cases r with
 |put x kk=>rw [bC rfl] at h;exact cT hnl hc hno (by simpa only [OkR] using hok) h
 |take x kk=>rw [bC rfl] at h;exact cT hnl hc hno (by simpa only [OkR] using hok) h
 |pick x kk=>rw [bC rfl] at h;exact cT hnl hc hno (by simpa only [OkR] using hok) h
 |two w x y z=>rw [bC rfl] at h;exact cT hnl hc hno (by simpa only [OkR] using hok) h
 |ifr x a b=>
  have hf:=fun Q' E' z=>ihf x a b pl s M Q' E' hok (by lia) hpl hno hst z
  simp only [Rw.d] at hf;simp! [kF,fF,Rw.d,atI_0];exact calls_post hf h.drp
 |again x a=>
  have hf:=fun Q' E' z=>iha x a pl s M Q' E' hok (by lia) hpl hno hst z
  simp only [Rw.d] at hf;simp! [kF,fF,Rw.d,atI_0];exact calls_post hf h.drp
theorem zA(hc:COk c){n:Nat}(ih:qv ad k c names rows0 mk n):PIf ad k c names rows0 mk (n+1):=by
 intro x a b pl s M Q E hok hn hpl hno hst h;simp only [OkR] at hok;simp only [hR] at hn hpl;simp! [u_q31,T_q31,Rw.d,wM_a,lfl,atI_1,atI_2,atI_3];refine calls_post (r:=nt c pl (lk s.nums x) s) (d:=.int (lk s.nums x)) (fun Q' E' z=>kO hc hno hok.1 z) ?_;have hl:lk s.nums x=0\/lk s.nums x=1:=by unfold lk;split<;>simp
 have hno1:NOk names c.m (nt c pl (lk s.nums x) s).2.nums:=by rw [iL];exact hno
 have hst1:=(nt_gr (c:=c) (pl:=pl) (v:=lk s.nums x) (s:=s)).2 hst;unfold exR at h;cases hb:(nt c pl (lk s.nums x) s).1 with
 |false=>
  rw [if_neg (by rw [hb];simp)] at h
  exact ⟨fun e=>(by rw [hb] at e;cases e),fun _=>dq (h.2 hb)⟩
 |true=>
  rw [if_pos hb] at h;refine ⟨fun _=>?_,fun e=>by rw [hb] at e;cases e⟩
  rcases hl with hl|hl
  ·rw [if_neg (by rw [hl];decide)] at h
   rw [hl] at h hno1 hst1 ⊢;simp! [atI_2,atI_3,plD,List.length_append,List.length_map,show ((0:Int)=1)=False from eq_false (by decide)]
   refine ⟨szl (by decide),szl (by lia),?_⟩
   rw [eK];exact calls_post (fun Q' E' z=>ih b (pl++[0]) _ M Q' E' hok.2.2 (by lia) (by simp;lia) hno1 hst1 z) h.drp
  ·rw [if_pos hl] at h
   rw [hl] at h hno1 hst1 ⊢;simp! [atI_2,atI_3,plD,List.length_append,List.length_map];refine ⟨szl (by decide),szl (by lia),?_⟩
   rw [eK];exact calls_post (fun Q' E' z=>ih a (pl++[1]) _ M Q' E' hok.2.1 (by lia) (by simp;lia) hno1 hst1 z) h.drp
end
end Tw
namespace Tw
open PySem L2 L3
section
variable {ad:Ad}{k:Wk}{c:Cf}{names:List Str}{rows0:List Rw}{mk:Str}
theorem pz(hc:COk c){n:Nat}(ih:qv ad k c names rows0 mk n):PAg ad k c names rows0 mk (n+1):=by
 intro x a pl s M Q E hok hn hpl hno hst h;simp only [OkR] at hok;simp only [hR] at hn hpl;simp! [u_q20,T_q20,Rw.d,dWhile];refine ⟨c.most+1,?_⟩;unfold exR at h
 have key:∀(f t:Nat) (s:Sx) (tc:eD) (tb:aM) (DD:DEnds) (b:BxW tc tb DD),NOk names c.m s.nums->s.steps.length<=c.most->c.most<s.steps.length+f->
   tc=aI (aB dh (aF (k8 ad.C_Walk "look" (kS ad) (drpX E) 3 (ae 0) (ac (aB cr (ae 2) (bX (ac (ae 3) ak))) (ac (aB bd (ae 1) (dC (.int 1))) ak)))) (dC (.int 1)))->
   tb=aE (cf (ax (S_q25 ad n) (drpX E) 3 (ac (ae 0) (ac (aB bd (ae 1) (dC (.int 2))) (ac (aB cr (ae 2) (bX (ac (ae 3) ak))) ak))))) (u0 3 (dC (.int 1)) qS)->
   DD.nx=(fun _ M'=>L3.drp Q .non M')->
   Post ad k c (planD c names rows0 mk) (dy c x pl (fun t s=>cN c a (pl++[(t:Int)]) 0 s) f t s) M .non Q E->
   whileD tc tb DD b f [some (.ref k.a),some (.tup [.str "again",.str x,.tup (ay a)]),some (plD pl),some (.int (t:Int))] (wM ad k c (planD c names rows0 mk) s M):=by
  intro f
  induction f with
  |zero=>intro t s tc tb DD b hno hst hf;lia
  |succ f ihf=>
   intro t s tc tb DD b hno hst hf htc htb hDD h;unfold whileD;subst htc;simp! [wM_a,lfl,atI_1,plD,List.length_append,List.length_map];refine ⟨szl (by decide),szl (by lia),?_⟩
   rw [eK];refine calls_post (r:=nt c (pl++[(t:Int)]) (lk s.nums x) s) (d:=.int (lk s.nums x)) (fun Q' E' z=>kO hc hno hok.1 z) ?_;have hl:lk s.nums x=0\/lk s.nums x=1:=by unfold lk;split<;>simp
   have hno1:NOk names c.m (nt c (pl++[(t:Int)]) (lk s.nums x) s).2.nums:=by rw [iL];exact hno
   have hst1:=(nt_gr (c:=c) (pl:=pl++[(t:Int)]) (v:=lk s.nums x) (s:=s)).2 hst;unfold dy at h;cases hb:(nt c (pl++[(t:Int)]) (lk s.nums x) s).1 with
   |false=>
    rw [if_neg (by rw [hb];simp)] at h
    exact ⟨fun e=>(by rw [hb] at e;cases e),fun _=>dq (h.2 hb)⟩
   |true=>
    rw [if_pos hb] at h;refine ⟨fun _=>?_,fun e=>by rw [hb] at e;cases e⟩
    have hlen:(nt c (pl++[(t:Int)]) (lk s.nums x) s).2.steps.length=s.steps.length+1:=by
     unfold nt at hb ⊢
     split at hb
     ·rename_i q;rw [if_pos q];simp
     ·cases hb
    rcases hl with hl|hl
    ·rw [if_neg (by rw [hl];decide)] at h
     rw [hl] at h ⊢;simp! [show ((0:Int)=1)=False from eq_false (by decide)]
     rw [hDD];rw [hl] at hb;exact drp_id (h.1 hb)
    ·rw [if_pos hl] at h
     rw [hl] at h hno1 hst1 hlen ⊢;simp! [];subst htb;simp! [atI_2,plD,List.length_append,List.length_map];refine ⟨szl (by decide),szl (by lia),?_⟩
     rw [eK];refine calls_post (r:=cN c a (pl++[(t:Int)]) 0 (nt c (pl++[(t:Int)]) 1 s).2) (fun Q' E' z=>ih a (pl++[(t:Int)]) _ M Q' E' hok.2 (by lia) (by simp;lia) hno1 hst1 z) ?_
     have hg:=ff (c:=c) a (pl++[(t:Int)]) 0 (nt c (pl++[(t:Int)]) 1 s).2;cases hb2:(cN c a (pl++[(t:Int)]) 0 (nt c (pl++[(t:Int)]) 1 s).2).1 with
     |true=>
      rw [if_pos hb2] at h;refine ⟨fun _=>?_,fun e=>by rw [hb2] at e;cases e⟩
      simp! [];exact ihf (t+1) _ _ _ _ _ (fh hc a hok.2 _ _ _ hno1) (hg.2 hst1) (by have:=hg.1;lia) rfl rfl hDD h
     |false=>
      rw [if_neg (by rw [hb2];simp)] at h
      exact ⟨fun e=>(by rw [hb2] at e;cases e),fun _=>dq (h.2 hb2)⟩
 exact key (c.most+1) 0 s _ _ _ _ hno hst (by lia) rfl rfl rfl h
theorem ng(hnl:names.length<=1000)(hc:COk c):∀n:Nat,qv ad k c names rows0 mk n/\E9 ad k c names rows0 mk n/\PIf ad k c names rows0 mk n/\PAg ad k c names rows0 mk n
 |0=>⟨fun rs pl s M Q E _ h=>by lia,fun r pl s M Q E _ h=>by lia,fun x a b pl s M Q E _ h=>by simp only [hR] at h;lia,fun x a pl s M Q E _ h=>by simp only [hR] at h;lia⟩
 |n+1=>by
  obtain ⟨h1,h2,h3,h4⟩:=ng hnl hc n;exact ⟨so hc h2,wm hnl hc h3 h4,zA hc h1,pz hc h1⟩
end
end Tw
namespace Tw
open PySem L2 L3
theorem o7:∀(names:List Str) (nums:List Int) (acc:ka),names.length=nums.length->(acc.map (·.1)++names).Nodup->
  ((names.map (fun x=>(Sum.inr x:bR))).zip (nums.map D.int)).foldl (fun a p=>fU a p.1 p.2) (kvD acc)=kvD (acc++names.zip nums)
 |[],nums,acc,_,_=>by simp
 |x::names,[],acc,h,_=>by simp at h
 |x::names,v::nums,acc,h,nd=>by
  have hx:x∉acc.map (·.1):=by
   have:=(List.nodup_append.mp nd).2.2;exact fun hm=>this x hm x (by simp) rfl
  have hany:((kvD acc).any fun kv=>decide (kv.1=Sum.inr x))=false:=by
   rw [List.any_eq_false];intro p hp;simp only [kvD,List.mem_map] at hp;obtain ⟨q,hq,rfl⟩:=hp;simp only [decide_eq_true_eq];intro e;have:q.1=x:=Sum.inr.inj e;exact hx (by rw [<- this];exact List.mem_map_of_mem hq)
  simp only [List.map_cons,List.zip_cons_cons,List.foldl_cons];have e1:fU (kvD acc) (Sum.inr x) (.int v)=kvD (acc++[(x,v)]):=by
   unfold fU;rw [hany];simp [kvD]
  rw [e1,o7 names nums (acc++[(x,v)]) (by simpa using h) (by simpa using nd)]
  simp
theorem eM:∀names:List Str,keysOf (names.map D.str)=some (names.map fun x=>(Sum.inr x:bR))
 |[]=>rfl
 |x::names=>by simp [keysOf,nh,eM names]
theorem mi{names:List Str}{nums:List Int}(h:names.length=nums.length)(nd:names.Nodup):kC (names.map fun x=>(Sum.inr x:bR)) (nums.map D.int)=kvD (names.zip nums):=by
 have:=o7 names nums [] h (by simpa using nd)
 simpa [kC,kvD] using this
theorem dp1{d:D}:fI "plan" d []=[(("plan":Str),d)]:=rfl
theorem dp2{a d:D}:fI "numbers" d [(("plan":Str),a)]=[(("plan":Str),a),(("numbers":Str),d)]:=rfl
theorem dp3{a b d:D}:fI "pieces" d [(("plan":Str),a),(("numbers":Str),b)]=[(("plan":Str),a),(("numbers":Str),b),(("pieces":Str),d)]:=rfl
theorem dp4{a b e d:D}:fI "most" d [(("plan":Str),a),(("numbers":Str),b),(("pieces":Str),e)]=[(("plan":Str),a),(("numbers":Str),b),(("pieces":Str),e),(("most":Str),d)]:=rfl
theorem dp5{a b e g d:D}:fI "steps" d [(("plan":Str),a),(("numbers":Str),b),(("pieces":Str),e),(("most":Str),g)]=[(("plan":Str),a),(("numbers":Str),b),(("pieces":Str),e),(("most":Str),g),(("steps":Str),d)]:=rfl
def standD(nums pieces:List Int):D:=.tup [.tup (nums.map D.int),.tup (pieces.map D.int)]
section
variable {ad:Ad}{c:Cf}{names:List Str}{rows:List Rw}{mk:Str}{M:Mem}{nums:List Int}
theorem sv{a:Addr}{Q:DK}{E:DX}(ha:M a=none)(hl:names.length=nums.length)(nd:names.Nodup)(h0:0<names.length)(h1:names.length<=1000)
  (h:∀(k:Wk),k.a=a->M k.dn=none->M k.ls=none->Q .non (wM ad k c (planD c names rows mk) ⟨names.zip nums,[]⟩ M)):
  y3 ad [.ref a,planD c names rows mk,standD nums c.pieces,.int (c.most:Nat)] (M.upd a (.ins ad.C_Walk [])) Q E:=by
 simp! [u_q1,wC,planD,standD,Mem.upd_upd,atI_0,atI_1,eM,List.length_map,dp1];refine ⟨by decide,hl,h0,h1,fun dn hdn=>?_⟩
 have n1:a≠dn:=Mem.ne Mem.upd_same hdn;have hdn':M dn=none:=by rw [aj (Ne.symm n1)] at hdn;exact hdn
 simp! [aj n1,Mem.upd_same,dp2,c7 (Ne.symm n1),Mem.upd_upd,mi hl nd];refine ⟨by simp,?_⟩
 simp! [aj n1,Mem.upd_same,dp3,c7 (Ne.symm n1),Mem.upd_upd];refine ⟨by simp,?_⟩
 simp! [aj n1,Mem.upd_same,dp4,c7 (Ne.symm n1),Mem.upd_upd];refine ⟨by simp,szl (by simp),fun ls hls=>?_⟩
 have n2:a≠ls:=by
  intro e;subst e;rw [aj n1,Mem.upd_same] at hls;cases hls
 have n3:dn≠ls:=by
  intro e;subst e;rw [Mem.upd_same] at hls;cases hls
 have hls':M ls=none:=by rw [aj (Ne.symm n3),aj (Ne.symm n2)] at hls;exact hls
 simp! [aj n2,aj n1,Mem.upd_same,dp5];refine ⟨by simp,drp_id ?_⟩
 have:=h ⟨a,dn,ls,n1,n2,n3⟩ rfl hdn' hls';have e:wM ad ⟨a,dn,ls,n1,n2,n3⟩ c (planD c names rows mk) ⟨names.zip nums,[]⟩ M=(((M.upd a (.ins ad.C_Walk [("plan",planD c names rows mk),("numbers",.ref dn),("pieces",.tup (c.pieces.map D.int)),("most",.int (c.most:Nat))])).upd dn (.dK (kvD (names.zip nums)))).upd ls (.lst [])).upd a (.ins ad.C_Walk [("plan",planD c names rows mk),("numbers",.ref dn),("pieces",.tup (c.pieces.map D.int)),("most",.int (c.most:Nat)),("steps",.ref ls)]):=by
  unfold wM;rw [c7 (Ne.symm n2),c7 (Ne.symm n1),Mem.upd_upd];rfl
 rw [e] at this;exact this
def b_(c:Cf)(names:List Str)(rows:List Rw)(nums:List Int):Bool×Sx:=cN c rows [] 0 ⟨names.zip nums,[]⟩
def eR(names:List Str)(r:Bool×Sx):D:=if r.1=true then .tup (names.map fun x=>.int (nm r.2.nums x)) else .non
structure PlOk(c:Cf)(names:List Str)(rows:List Rw)(nums:List Int):Prop where
 co:COk c
 ln:names.length=nums.length
 nd:names.Nodup
 l0:0<names.length
 l1:names.length<=1000
 rng:∀v∈nums,0<=v/\v<c.m
 ok:bV names c.m c.pieces.length rows
 h:di rows<=7
theorem ni:∀{names:List Str} {nums:List Int},names.length=nums.length->(names.zip nums).map (·.1)=names
 |[],[],_=>rfl
 |[],_::_,h=>by simp at h
 |_::_,[],h=>by simp at h
 |x::xs,v::vs,h=>by simp [ni (by simpa using h)]
theorem PlOk.nok(p:PlOk c names rows nums):NOk names c.m (names.zip nums):=⟨ni p.ln,fun q hq=>p.rng _ (List.of_mem_zip hq).2⟩
theorem u9{Q:DK}{E:DX}(p:PlOk c names rows nums)(h:∀l,M l=none->Q (.tup [.ref l,eR names (b_ c names rows nums)]) (M.upd l (.lst (sw (b_ c names rows nums).2.steps)))):
  jo ad [planD c names rows mk,standD nums c.pieces,.int (c.most:Nat)] M Q E:=by
 simp! [FH,mI];intro a ha;refine calls_of fun Q' E' hq _=>sv ha p.ln p.nd p.l0 p.l1 fun k hk hdn hls=>hq _ _ ?_;subst hk;have hsub:∀(s':Sx),∀b o,(M.upd k.ls (.lst (sw s'.steps))) b=some o->wM ad k c (planD c names rows mk) s' M b=some o:=by
  intro s' b o e
  by_cases h1:b=k.ls
  ·subst h1;rw [Mem.upd_same] at e;rw [B7];exact e
  ·rw [aj h1] at e
   have h2:b≠k.dn:=by rintro rfl;rw [hdn] at e;cases e
   have h3:b≠k.a:=by rintro rfl;rw [ha] at e;cases e
   unfold wM;rw [aj h1,aj h2,aj h3];exact e
 have hr:=(ng (ad:=ad) (k:=k) (rows0:=rows) (mk:=mk) p.l1 p.co 24).1 rows [] ⟨names.zip nums,[]⟩ M;unfold planD at hr;simp! [planD,atI_3];refine ⟨szl (by decide),?_⟩
 refine calls_of fun Q2 E2 hq2 he2=>hr Q2 E2 p.ok (by have:=p.h;lia) (by have:=p.h;simp;lia) p.nok (Nat.zero_le _) ⟨fun e=>hq2 _ _ ?_,fun e=>he2 _ _ ⟨rfl,?_⟩⟩
 ·have hn:NOk names c.m (b_ c names rows nums).2.nums:=fh p.co rows p.ok [] 0 ⟨names.zip nums,[]⟩ p.nok
  have e':(b_ c names rows nums).1=true:=e;simp! [wM_a,lf4,atI_1,aP]
  refine bg (fun xs acc δ M'=>∃n1 n2 c0,names=n1++n2/\xs=n2.map D.str/\acc=n1.map (fun x=>D.int (nm (b_ c names rows nums).2.nums x))/\δ=[c0,some (.ref k.a)]/\M'=wM ad k c (planD c names rows mk) (b_ c names rows nums).2 M)
   (fun _ _ _ _ _=>aU) ?_ ?_ ?_ _ _ _ _ ⟨[],names,none,rfl,rfl,rfl,rfl,rfl⟩
  ·rintro acc δ M' ⟨n1,n2,c0,e1,e2,rfl,rfl,rfl⟩
   have:n2=[]:=by cases n2 with|nil=>rfl|cons _ _=>simp at e2
   subst this;intro q hq;simp! [Mem.upd_upd,Mem.upd_del,ai hq];refine ⟨szl (by decide),⟨_,hsub _,?_⟩⟩
   have:=h k.ls hls;unfold eR at this;rw [if_pos e'] at this;have en:n1=names:=by simpa using e1.symm
   rw [en];exact this
  ·rintro x xs acc δ M' ⟨n1,n2,c0,e1,e2,rfl,rfl,rfl⟩ N hN _
   cases n2 with
   |nil=>simp at e2
   |cons y n2=>
    simp only [List.map_cons,List.cons.injEq] at e2;obtain ⟨rfl,rfl⟩:=e2;have hy:y∈names:=by rw [e1];simp
    simp! [wM_a,j_,xj,gq,(hn.at hy).1,Option.map_some];refine hN _ _ _ ?_ ⟨n1++[y],n2,_,by simp [e1],rfl,by simp,rfl,rfl⟩
    have hl:=congrArg List.length e1;have:=p.l1;simp at hl ⊢;exact cX (by lia)
  ·rintro x xs acc δ M' ⟨n1,n2,c0,e1,e2,rfl,rfl,rfl⟩
   have hl:=congrArg List.length e1;have:=p.l1;simp at hl ⊢;exact cX (by lia)
 ·have e':(b_ c names rows nums).1=false:=e
  simp! [wM_a,lf4];refine ⟨szl (by decide),⟨_,hsub _,?_⟩⟩
  have:=h k.ls hls;unfold eR at this;rw [if_neg (by rw [e'];simp)] at this
  exact this
end
end Tw
namespace Tw
open PySem L2 L3
structure Pt where
 p:Addr
 q:Addr
 ne:p≠q
def Has(k:Pt)(M:Mem):Prop:=∃(cells:List Int) (t h sd:Int),cells.length<=63/\M k.p=some (.lst [.ref k.q,.int t,.int h,.int sd])/\M k.q=some (.lst (cells.map D.int))
def Dr(k:Pt)(M M':Mem):Prop:=Has k M'/\∀b,b≠k.p->b≠k.q->M' b=M b
theorem Has.refl{k:Pt}{M:Mem}(h:Has k M):Dr k M M:=⟨h,fun _ _ _=>rfl⟩
theorem Dr.trans{k:Pt}{M M1 M2:Mem}(a:Dr k M M1)(b:Dr k M1 M2):Dr k M M2:=⟨b.1,fun x h1 h2=>(b.2 x h1 h2).trans (a.2 x h1 h2)⟩
theorem Has.nep{k:Pt}{M:Mem}(h:Has k M){l:Addr}(hl:M l=none):l≠k.p/\l≠k.q:=by
 obtain ⟨cells,t,hh,sd,_,e1,e2⟩:=h;exact ⟨fun e=>(by rw [e,e1] at hl;cases hl),fun e=>(by rw [e,e2] at hl;cases hl)⟩
theorem Has.upd{k:Pt}{M:Mem}{l:Addr}{o:MO}(h:Has k M)(h1:l≠k.p/\l≠k.q):Has k (M.upd l o):=by
 obtain ⟨cells,t,hh,sd,hc,e1,e2⟩:=h;exact ⟨cells,t,hh,sd,hc,by rw [aj (Ne.symm h1.1)];exact e1,by rw [aj (Ne.symm h1.2)];exact e2⟩
theorem Has.del{k:Pt}{M:Mem}{l:Addr}(h:Has k M)(h1:l≠k.p/\l≠k.q):Has k (M.del l):=by
 obtain ⟨cells,t,hh,sd,hc,e1,e2⟩:=h;refine ⟨cells,t,hh,sd,hc,?_,?_⟩
 ·unfold Mem.del;rw [if_neg (Ne.symm h1.1)];exact e1
 ·unfold Mem.del;rw [if_neg (Ne.symm h1.2)];exact e2
theorem Dr.none{k:Pt}{M M':Mem}(h0:Has k M)(h:Dr k M M'){l:Addr}(hl:M l=none):M' l=none:=by
 have:=h0.nep hl;rw [h.2 l this.1 this.2];exact hl
theorem kY:∀(n:Nat) (cs:List Int),fits n (cs.map D.int)=true
 |_,[]=>by unfold fits;rfl
 |n,c::cs=>by
  rw [List.map_cons];unfold fits;rw [kY n cs];cases n<;>rfl
theorem gu{ad:Ad}{M:Mem}{Q:DK}{E:DX}{a b:Int}(h:∀r,Q (.int r) M):qc ad [.int a,.int b] M Q E:=by
 simp! [u_q4,uN];refine ⟨.inr (by decide),.inr (by decide),by decide,⟨by decide,by decide⟩,.inr (by decide),by decide,⟨by decide,by decide⟩,drp_id (h _)⟩
theorem tV{α:Type}{x:α}{xs:List α}:atI (x::xs) 0=some x:=by rw [atI_0];rfl
theorem emod_rng{a m:Int}(h:0<m):0<=a % m/\a % m<m:=⟨Int.emod_nonneg _ (by lia),Int.emod_lt_of_pos _ h⟩
theorem wO{n:Nat}{i:Int}(h:0<=i)(h2:i<n):oR n i=some i.toNat:=by unfold oR;rw [if_pos h,if_pos h2]
theorem ix0{n:Nat}:oR (n+1) 0=some 0:=wO (by decide) (by lia)
theorem AR:oR 4 2=some 2:=rfl
theorem ck{s u:aM}{D0:DEnds}{δ:Dl}{M:Mem}(h:s { D0 with nx:=u D0 } δ M):aE s u D0 δ M:=h
theorem xY{D0:DEnds}{δ:Dl}{M:Mem}{k:Pt}{t hh sd:Int}(h0:δ[0]?=some (some (.ref k.p)))(e1:M k.p=some (.lst [.ref k.q,.int t,.int hh,.int sd]))(h:D0.nx δ (M.upd k.p (.lst [.ref k.q,.int (t+1),.int hh,.int sd]))):
  b0 (aB cr (aB bd (ae 0) (dC (.int 1))) (dC (.int 1))) (iD (ae 0) (dC (.int 1))) D0 δ M:=by
 simp! [h0,e1,atI_1,wO (n:=4) (i:=1) (by decide) (by decide),show (1:Int).toNat=1 from rfl]
 exact h
theorem qK{ad:Ad}{EE:DX}{D0:DEnds}{M:Mem}{k:Pt}{t hh sd many:Int}{c2:Option D}(h0:0<many)(h1:many<2 ^ 62)(e1:M k.p=some (.lst [.ref k.q,.int t,.int hh,.int sd]))
  (ha:∀r,D0.rt (.int (r % many)) M) (hb:D0.rt (.int (hh % many)) (M.upd k.p (.lst [.ref k.q,.int t,.int (hh / many),.int sd]))):
  (aE (bi (aI (aB dh (aB bd (ae 0) (dC (.int 2))) (dC (.int 0)))) (aT (aB g9 (aF (ax (qc ad) EE 2 (ac (aB bd (ae 0) (dC (.int 3))) (ac (aB bd (ae 0) (dC (.int 1))) ak)))) (ae 1))) aQ)
  (aE (b0 (aB g9 (aB bd (ae 0) (dC (.int 2))) (ae 1)) (au 3))
  (aE (b0 (aB nF (aB bd (ae 0) (dC (.int 2))) (ae 1)) (iD (ae 0) (dC (.int 2))))
  (aT (ae 3))))) D0 [some (.ref k.p),some (.int many),c2,none] M:=by
 simp! [e1,atI_1,atI_2,atI_3]
 by_cases ez:hh=0
 ·rw [if_pos ez]
  refine calls_of fun Q' E' hq _=>gu fun r=>hq _ _ ?_;simp! [];exact ⟨h0,ha r⟩
 ·rw [if_neg ez]
  simp! [e1,AR];exact ⟨h0,⟨h0,by lia⟩,hb⟩
theorem zJ{ad:Ad}{EE:DX}{D0:DEnds}{M:Mem}{k:Pt}{t hh sd many:Int}{cells:List Int}(h0:0<many)(e1:M k.p=some (.lst [.ref k.q,.int t,.int hh,.int sd]))(e2:M k.q=some (.lst (cells.map D.int)))
  (hA:D0.nx [some (.ref k.p),some (.int many),none,none] M)
  (hB:∀c cs,hh=0->cells=c::cs->∀r,D0.rt (.int (r % many)) (M.upd k.q (.lst (cs.map D.int))))
  (hC:∀c cs,hh=0->cells=c::cs->¬c<10 ^ Int.toNat 18->D0.nx [some (.ref k.p),some (.int many),some (.int c),none] ((M.upd k.q (.lst (cs.map D.int))).upd k.p (.lst [.ref k.q,.int t,.int c,.int sd]))):
  bi (kh (aI (aB dh (aB bd (ae 0) (dC (.int 2))) (dC (.int 0)))) (aI (aB tJ (aB bd (ae 0) (dC (.int 0))) (aF (cC ak))))) (aE (b0 (oq "list" sj (aB bd (ae 0) (dC (.int 0))) (ac (dC (.int 0)) ak)) (au 2))
   (aE (bi (aI (aB Ci (ae 2) (aB BF (dC (.int 10)) (dC (.int 18))))) (aT (aB g9 (aF (ax (qc ad) EE 2 (ac (ae 2) (ac (aB bd (ae 0) (dC (.int 1))) ak)))) (ae 1))) aQ)
   (b0 (ae 2) (iD (ae 0) (dC (.int 2)))))) aQ D0 [some (.ref k.p),some (.int many),none,none] M:=by
 have hne:=k.ne;simp! [e1,atI_2,tV]
 by_cases ez:hh=0
 ·rw [if_pos ez]
  refine ⟨szl (by decide),fun p hp=>?_⟩
  simp only [Mem.upd_del,ai hp,e2];cases cells with
  |nil=>
   simp! [];exact hA
  |cons c cs=>
   have g2:∀o',(M.upd k.q o') k.p=some (.lst [.ref k.q,.int t,.int hh,.int sd]):=fun o'=>by rw [aj hne,e1]
   simp! [tV,e1,e2,g2,kY,ix0,AR,List.eraseIdx_zero,List.tail_cons,atI_1,atI_2,atI_3];refine ⟨⟨by decide,by decide,by decide⟩,?_⟩
   by_cases hb:c<10 ^ Int.toNat 18
   ·rw [if_pos hb]
    refine calls_of fun Q' E' hq _=>gu fun r=>hq _ _ ?_;simp! [];exact ⟨h0,hB c cs ez rfl r⟩
   ·rw [if_neg hb]
    exact hC c cs ez rfl hb
 ·rw [if_neg ez]
  exact hA
theorem gT{ad:Ad}{M:Mem}{Q:DK}{E:DX}{k:Pt}{many:Int}(hp:Has k M)(h0:0<many)(h1:many<2 ^ 62)(h:∀r M',0<=r->r<many->Dr k M M'->Q (.int r) M'):
  bt ad [.ref k.p,.int many] M Q E:=by
 obtain ⟨cells,t,hh,sd,hc,e1,e2⟩:=hp;have hne:=k.ne;have fin:∀(r:Int) (M':Mem) (cells':List Int) (t' hh' sd':Int),cells'.length<=63->(∀b,b≠k.p->b≠k.q->M' b=M b)->M' k.p=some (.lst [.ref k.q,.int t',.int hh',.int sd'])->M' k.q=some (.lst (cells'.map D.int))->drp Q (.int (r % many)) M':=by
  intro r M' cells' t' hh' sd' a1 a2 a3 a4;exact drp_id (h _ _ (emod_rng h0).1 (emod_rng h0).2 ⟨⟨cells',t',hh',sd',a1,a3,a4⟩,a2⟩)
 have g1:∀o,(M.upd k.p o) k.q=some (.lst (cells.map D.int)):=fun o=>by rw [aj (Ne.symm hne)];exact e2
 rw [Ev (n:=0)];unfold ou;refine ck (xY rfl e1 ?_);dsimp only;refine ck (zJ h0 Mem.upd_same (g1 _) ?_ (fun c cs ez ec r=>?_) (fun c cs ez ec hb=>?_))
 ·dsimp only
  refine qK h0 h1 Mem.upd_same (fun r=>?_) ?_
  ·exact fin _ _ cells _ _ _ hc (fun b b1 b2=>aj b1) Mem.upd_same (g1 _)
  ·exact fin _ _ cells _ _ _ hc (fun b b1 b2=>by rw [aj b1,aj b1]) Mem.upd_same (by rw [aj (Ne.symm hne),g1])
 ·subst ec
  exact fin _ _ cs _ _ _ (by simp at hc;lia) (fun b b1 b2=>by rw [aj b2,aj b1]) (by rw [aj hne,Mem.upd_same]) Mem.upd_same
 ·subst ec
  dsimp only;refine qK h0 h1 Mem.upd_same (fun r=>?_) ?_
  ·exact fin _ _ cs _ _ _ (by simp at hc;lia) (fun b b1 b2=>by rw [aj b1,aj b2,aj b1]) Mem.upd_same (by rw [aj (Ne.symm hne),Mem.upd_same])
  ·exact fin _ _ cs _ _ _ (by simp at hc;lia) (fun b b1 b2=>by rw [aj b1,aj b1,aj b2,aj b1]) Mem.upd_same (by rw [aj (Ne.symm hne),aj (Ne.symm hne),Mem.upd_same])
end Tw
namespace Tw
open PySem L2 L3
theorem xV{xs:List D}{k:Nat}:g_ xs none (some (k:Int))=xs.take k:=by
 unfold g_;rw [HT.mx,HT.qq,List.drop_zero,Nat.sub_zero];rcases Nat.le_total k xs.length with h|h
 ·rw [Nat.min_eq_left h]
 ·rw [Nat.min_eq_right h,List.take_of_length_le (Nat.le_refl _),List.take_of_length_le h]
theorem lC{xs:List D}{k:Nat}:g_ xs (some (k:Int)) none=xs.drop k:=by
 unfold g_;rw [HT.mx,HT.qq];rcases Nat.le_total k xs.length with h|h
 ·rw [Nat.min_eq_left h,List.take_of_length_le (by simp)]
 ·rw [Nat.min_eq_right h,List.drop_of_length_le (Nat.le_refl _),List.drop_of_length_le h];simp
theorem wr{ad:Ad}{M:Mem}{Q:DK}{E:DX}{ns:List Int}(h:∀(k:Pt) M',Has k M'->(∀b,b≠k.p->b≠k.q->M' b=M b)->Q (.ref k.p) M'):oK ad [.ml (ns.map D.int)] M Q E:=by
 have c63:g_ (ns.map D.int) none (some 63)=(ns.take 63).map D.int:=by rw [List.map_take];exact xV (k:=63)
 simp! [Ep,nz,dFor,c63];intro a ha;refine forD_inv (fun xs δ M'=>∃(cs:List Int) (sd:Int) (c2:Option D),xs=cs.map D.int/\δ=[some (.ml (ns.map D.int)),some (.int sd),c2]/\M'=M) (fun _ _ _ _=>aU) ?_ ?_ _ _ _ ⟨ns.take 63,7,none,rfl,rfl,by rw [Mem.upd_del,ai ha]⟩
 ·rintro δ M' ⟨cs,sd,c2,_,rfl,rfl⟩
  simp! [c63];intro b hb;rw [Mem.upd_del,ai hb];intro q hq;refine ⟨szl (by decide),fun p hp=>?_⟩
  have ne:p≠q:=by intro e;subst e;rw [Mem.upd_same] at hp;cases hp
  refine drp_id (h ⟨p,q,ne⟩ _ ⟨ns.take 63,0,0,sd,by simp;lia,Mem.upd_same,?_⟩ fun b b1 b2=>?_)
  ·show ((M'.upd q _).upd p _) q=_
   rw [aj (Ne.symm ne),Mem.upd_same]
  ·rw [aj b1,aj b2]
 ·rintro x xs δ M' ⟨cs,sd,c2,e1,rfl,rfl⟩ D' hnx _ _ _
  cases cs with
  |nil=>simp at e1
  |cons c cs=>
   simp only [List.map_cons,List.cons.injEq] at e1;obtain ⟨rfl,rfl⟩:=e1;simp! [];exact ⟨.inr (by decide),by decide,hnx _ _ ⟨cs,_,_,rfl,rfl,rfl⟩⟩
def alpha:Str:="abcdefghijklmnopqrstuvwxyz"
theorem we:∀i<26,alpha.cps.toList[i]?=some (97+i):=by decide +kernel
theorem sm:alpha.length<=sizeLine:=Nat.le_trans (show alpha.length<=100 by decide +kernel) (by decide)
theorem ms{names:List Str}{t:Nat}(hl:names.length<=12)(h:∀(j:Nat) (hj:j<names.length),names[j].cps[0]?=some (97+(t+7*j) % 26)):names.Nodup:=by
 refine List.pairwise_iff_getElem.mpr fun i j hi hj hij e=>?_;have h1:=h i hi;have h2:=h j hj;rw [e,h2] at h1;have h3:=Option.some.inj h1;lia
def pU(x:Str):Prop:=∃(n c:Nat),1<=n/\n<=8/\97<=c/\c<=122/\x=⟨Array.replicate n c⟩
theorem jQ{ad:Ad}{M:Mem}{Q:DK}{E:DX}{k:Pt}{many:Nat}(hp:Has k M)(h1:many<=12)(h:∀(names:List Str) (M':Mem),names.length=many->names.Nodup->(∀x∈names,pU x)->Dr k M M'->Q (.tup (names.map D.str)) M'):vR ad [.ref k.p,.int many] M Q E:=by
 simp! [u_q6,v8,dFor];refine calls_of fun Q' E' hq _=>gT hp (by decide) (by decide) fun turn M1 t0 t1 d1=>hq _ _ ?_
 simp! [];refine ⟨szl (by decide),fun l hl=>?_⟩
 have nel:=d1.1.nep hl;refine ⟨by lia,by lia,?_⟩
 obtain ⟨t,rfl⟩:=Int.eq_ofNat_of_zero_le t0
 refine forD_inv (fun xs δ M'=>∃(j:Nat) (acc:List Str) (c4 c5:Option D),j<=many/\xs=(List.range' j (many-j)).map (fun (i:Nat)=>D.int (0+(i:Int)))/\δ=[some (.ref k.p),some (.int (many:Nat)),some (.int (t:Nat)),some (.ref l),c4,c5]/\acc.length=j/\(∀(i:Nat) (hi:i<acc.length),acc[i].cps[0]?=some (97+(t+7*i) % 26))/\(∀x∈acc,pU x)/\
  Has k M'/\M' l=some (.lst (acc.map D.str))/\∀b,b≠k.p->b≠k.q->b≠l->M' b=M1 b) (fun _ _ _ _=>aU) ?_ ?_ _ _ _ ⟨0,[],none,none,Nat.zero_le _,?_,rfl,rfl,?_,by simp,d1.1.upd nel,Mem.upd_same,fun b _ _ hb=>aj hb⟩
 ·rintro δ M' ⟨j,acc,c4,c5,hj,e,rfl,ha,hf,hone,hh,hm,hs⟩
  have:j=many:=by
   have:=congrArg List.length e;simp at this;lia
  subst this;simp! [hm];refine ⟨M'.del l,fun b o e=>?_,h acc _ ha (ms (by lia) hf) hone ⟨hh.del nel,fun b b1 b2=>?_⟩⟩
  ·unfold Mem.del at e;split at e
   ·cases e
   ·exact e
  ·unfold Mem.del
   split
   ·rename_i e;subst e;rw [<- d1.2 b b1 b2];exact hl.symm
   ·rename_i e;rw [hs b b1 b2 e,d1.2 b b1 b2]
 ·rintro x xs δ M' ⟨j,acc,c4,c5,hj,e,rfl,ha,hf,hone,hh,hm,hs⟩ D' hnx _ _ _
  have hjl:j<many:=by
   have:=congrArg List.length e;simp at this;lia
  obtain ⟨n,hn⟩:∃n,many-j=n+1:=⟨many-j-1,by lia⟩
  rw [hn,List.range'_succ,List.map_cons,List.cons.injEq] at e;obtain ⟨rfl,rfl⟩:=e;have hidx:atI alpha.cps.toList (((t:Nat)+7*(0+(j:Int))) % 26)=some (97+(t+7*j) % 26):=by
   have:(((t:Nat):Int)+7*(0+(j:Int))) % 26=(((t+7*j) % 26:Nat):Int):=by lia
   rw [this,cb (by lia),Int.toNat_natCast,we _ (by lia)]
  simp only [alpha] at hidx;simp! [hidx,hm];refine ⟨.inl (by decide),by decide,sm,?_⟩
  refine calls_of fun Q' E' hq _=>gT hh (by decide) (by decide) fun r M2 r0 r1 d2=>hq _ _ ?_
  have hm2:M2 l=some (.lst (acc.map D.str)):=by rw [d2.2 l nel.1 nel.2];exact hm
  simp! [hm2];refine ⟨by lia,by lia,by simp;exact cX (by lia),hnx _ _ ⟨j+1,acc++[⟨Array.replicate (1+r).toNat (97+(t+7*j) % 26)⟩],_,_,by lia,?_,rfl,by simp [ha],?_,?_,d2.1.upd nel,?_,?_⟩⟩
  ·rw [show many-(j+1)=n by lia]
  ·intro i hi
   by_cases hij:i<acc.length
   ·rw [List.getElem_append_left hij];exact hf i hij
   ·have:i=acc.length:=by simp at hi;lia
    subst this;rw [List.getElem_append_right (Nat.le_refl _)];simp only [Nat.sub_self,List.getElem_cons_zero];rw [Array.getElem?_replicate,if_pos (by lia),ha]
  ·intro x hx
   rcases List.mem_append.mp hx with hx|hx
   ·exact hone x hx
   ·simp at hx;subst hx
    exact ⟨(1+r).toNat,97+(t+7*j) % 26,by lia,by lia,by lia,by lia,rfl⟩
  ·rw [Mem.upd_same];simp
  ·intro b b1 b2 b3
   rw [aj b3,d2.2 b b1 b2,hs b b1 b2 b3]
 ·simp [gj,List.range_eq_range']
 ·intro i hi;simp at hi
end Tw
namespace Tw
open PySem L2 L3
@[simp] theorem atI_5 {α:Type} {xs:List α}:atI xs 5=xs[5]?:=cb (by decide)
@[simp] theorem atI_6 {α:Type} {xs:List α}:atI xs 6=xs[6]?:=cb (by decide)
@[simp] theorem atI_7 {α:Type} {xs:List α}:atI xs 7=xs[7]?:=cb (by decide)
@[simp] theorem atI_8 {α:Type} {xs:List α}:atI xs 8=xs[8]?:=cb (by decide)
theorem iW{names:List Str}{r:Int}(h0:0<=r)(h1:r<names.length):∃y,y∈names/\atI (names.map D.str) r=some (.str y):=by
 have hr:r.toNat<names.length:=by lia
 refine ⟨names[r.toNat],List.getElem_mem hr,?_⟩;rw [cb h0,List.getElem?_map,List.getElem?_eq_getElem hr];rfl
structure ToldOk(names:List Str)(m many:Int):Prop where
 m2:2<=m
 m1:m<=997
 n0:0<names.length
 n1:names.length<=12
 k0:0<=many
 k1:many<=40
def fL(names:List Str)(m many:Int):D:=.tup [.int m,.tup (names.map D.str),.int many]
theorem aV{ad:Ad}{M:Mem}{Q:DK}{EE:DX}{b:BxQ EE Q}{k:Pt}{many:Int}(hp:Has k M)(h0:0<many)(h1:many<2 ^ 62)(h:∀r M',0<=r->r<many->Dr k M M'->Q (.int r) M'):calls (bt ad) EE [.ref k.p,.int many] M Q b:=
 calls_of fun Q' E' hq _=>gT hp h0 h1 fun r M' r0 r1 d=>hq _ _ (h r M' r0 r1 d)
section
variable {ad:Ad}{EE:DX}{D0:DEnds}{δ:Dl}{M:Mem}{k:Pt}
theorem Cm{te:bL}{i:Nat}(h:te δ M fun d M1=>D0.nx (δ.set i (some d)) M1):b0 te (au i) D0 δ M:=h
theorem wq{i:Nat}{d:D}(h:δ[i]?=some (some d)){K:DK}(hK:K d M):ae i δ M K:=by simp only [ae,h];exact hK
theorem pZ{i:Nat}{w c:Str}{A B:aM}(hv:δ[i]?=some (some (.str w)))(h1:w=c->A D0 δ M)(h2:w≠c->B D0 δ M):bi (aI (aB dh (ae i) (dC (.str c)))) A B D0 δ M:=by
 have e:bi (aI (aB dh (ae i) (dC (.str c)))) A B D0 δ M=(if w=c then A D0 δ M else B D0 δ M):=by
  simp [bi,aI,aB,ae,dC,dh,cP,dv,ba,hv]
 rw [e]
 by_cases q:w=c
 ·rw [if_pos q];exact h1 q
 ·rw [if_neg q];exact h2 q
theorem D_{te:bL}{v:Int}{K:DK}(h0:δ[0]?=some (some (.ref k.p)))(ht:∀K:DK,K (.int v) M->te δ M K)(hp:Has k M)(v0:0<v)(v1:v<2 ^ 62)(h:∀r M',0<=r->r<v->Dr k M M'->K (.int r) M'):
  ax (bt ad) EE 2 (ac (ae 0) (ac te ak)) δ M K:=by
 simp only [ax,ac,ae,ak,h0];refine ht _ ?_;exact ⟨rfl,aV hp v0 v1 h⟩
theorem Ar{K:DK}{te:bL}(h:te δ M fun d M'=>frz d M' K):aF te δ M K:=h
theorem B3{te:bL}{v:Int}{K:DK}(h0:δ[0]?=some (some (.ref k.p)))(ht:∀K:DK,K (.int v) M->te δ M K)(hp:Has k M)(v0:0<v)(v1:v<2 ^ 62)(h:∀r M',0<=r->r<v->Dr k M M'->K (.int r) M'):
  aF (ax (bt ad) EE 2 (ac (ae 0) (ac te ak))) δ M K:=
 Ar (D_ h0 ht hp v0 v1 fun r M' a b d=>by simp only [frz];exact h r M' a b d)
theorem C9{i:Nat}{names:List Str}{K:DK}(h0:δ[0]?=some (some (.ref k.p)))(h3:δ[i]?=some (some (.tup (names.map D.str))))(hp:Has k M)(n0:0<names.length)(n1:names.length<=12)(h:∀x M',x∈names->Dr k M M'->K (.str x) M'):
  aB bd (ae i) (aF (ax (bt ad) EE 2 (ac (ae 0) (ac (c9 cV (ac (ae i) ak)) ak)))) δ M K:=by
 have hl:∀K:DK,K (.int names.length) M->c9 cV (ac (ae i) ak) δ M K:=fun K hK=>by
  simp! [h3,List.length_map];exact hK
 simp only [aB];refine wq h3 (B3 h0 hl hp (by lia) (by lia) fun r M' a b d=>?_)
 obtain ⟨x,hx,ex⟩:=iW a b;simp! [ex];exact h x M' hx d
theorem D7{a b:D}{i j:Nat}{te:bL}(hi:δ[i]?=some (some a))(hj:δ[j]?=some (some b))(h:te δ M fun d M'=>3<=sizeLine/\D0.rt (.tup [a,b,d]) M'):aT (bX (ac (ae i) (ac (ae j) (ac te ak)))) D0 δ M:=by
 simp only [aT,bX,ac,ak,ae,hi,hj];exact h
theorem ret4{a b c:D}{i j l:Nat}{te:bL}(hi:δ[i]?=some (some a))(hj:δ[j]?=some (some b))(hl:δ[l]?=some (some c))(h:te δ M fun d M'=>4<=sizeLine/\D0.rt (.tup [a,b,c,d]) M'):aT (bX (ac (ae i) (ac (ae j) (ac (ae l) (ac te ak))))) D0 δ M:=by
 simp only [aT,bX,ac,ak,ae,hi,hj,hl];exact h
theorem AB{a:Option D}{names:List Str}{m many:Int}{s:Dl}(h:D0.nx (a::some (fL names m many)::some (.int m)::some (.tup (names.map D.str))::some (.int many)::s) M){b c d:Option D}:
  b0 (ae 1) (kf 3 (c8 (au 2) (c8 (au 3) (c8 (au 4) ki)))) D0 (a::some (fL names m many)::b::c::d::s) M:=by
 unfold fL at h ⊢;simp! [];exact h
end
def waysL:List Str:=["put","sum","by","less","same","sum","put","take","pick"]
def AY(many:Int)(w:Str):Prop:=w="put"\/(w="sum"\/w="by"\/w="less"\/w="same")\/(0<many/\(w="take"\/w="pick"))
section
variable {ad:Ad}{EE:DX}{D0:DEnds}{δ:Dl}{M:Mem}{k:Pt}{many:Int}
theorem zE(h:D0.nx (δ.set 5 (some (.lst (waysL.map D.str)))) M):
  b0 (aF (cC (ac (dC (.str "put")) (ac (dC (.str "sum")) (ac (dC (.str "by")) (ac (dC (.str "less")) (ac (dC (.str "same")) (ac (dC (.str "sum")) (ac (dC (.str "put")) (ac (dC (.str "take")) (ac (dC (.str "pick")) ak))))))))))) (au 5) D0 δ M:=by
 simp! [];refine ⟨szl (by decide),fun p hpn=>?_⟩
 rw [Mem.upd_del,ai hpn];exact h
theorem Bc(r:Nat)(h1:r<if 0<many then 9 else 7):∃w,atI (waysL.map D.str) (r:Int)=some (.str w)/\AY many w:=by
 rw [cb (by lia),Int.toNat_natCast]
 by_cases hm:0<many
 ·rw [if_pos hm] at h1
  match r,h1 with
  |0,_=>exact ⟨_,rfl,.inl rfl⟩
  |1,_=>exact ⟨_,rfl,.inr (.inl (.inl rfl))⟩
  |2,_=>exact ⟨_,rfl,.inr (.inl (.inr (.inl rfl)))⟩
  |3,_=>exact ⟨_,rfl,.inr (.inl (.inr (.inr (.inl rfl))))⟩
  |4,_=>exact ⟨_,rfl,.inr (.inl (.inr (.inr (.inr rfl))))⟩
  |5,_=>exact ⟨_,rfl,.inr (.inl (.inl rfl))⟩
  |6,_=>exact ⟨_,rfl,.inl rfl⟩
  |7,_=>exact ⟨_,rfl,.inr (.inr ⟨hm,.inl rfl⟩)⟩
  |8,_=>exact ⟨_,rfl,.inr (.inr ⟨hm,.inr rfl⟩)⟩
 ·rw [if_neg hm] at h1
  match r,h1 with
  |0,_=>exact ⟨_,rfl,.inl rfl⟩
  |1,_=>exact ⟨_,rfl,.inr (.inl (.inl rfl))⟩
  |2,_=>exact ⟨_,rfl,.inr (.inl (.inr (.inl rfl)))⟩
  |3,_=>exact ⟨_,rfl,.inr (.inl (.inr (.inr (.inl rfl))))⟩
  |4,_=>exact ⟨_,rfl,.inr (.inl (.inr (.inr (.inr rfl))))⟩
  |5,_=>exact ⟨_,rfl,.inr (.inl (.inl rfl))⟩
  |6,_=>exact ⟨_,rfl,.inl rfl⟩
theorem EG{K:DK}(h0:δ[0]?=some (some (.ref k.p)))(h4:δ[4]?=some (some (.int many)))(h5:δ[5]?=some (some (.lst (waysL.map D.str))))(hp:Has k M)(h:∀w M',AY many w->Dr k M M'->K (.str w) M'):
  aB bd (ae 5) (aF (ax (bt ad) EE 2 (ac (ae 0) (ac (vJ (aI (aB AD (ae 4) (dC (.int 0)))) (dC (.int 9)) (dC (.int 7))) ak)))) δ M K:=by
 have hl:∀K:DK,K (.int (if 0<many then 9 else 7)) M->vJ (aI (aB AD (ae 4) (dC (.int 0)))) (dC (.int 9)) (dC (.int 7)) δ M K:=fun K hK=>by
  simp! [h4]
  by_cases hm:0<many
  ·rw [if_pos hm] at hK ⊢;exact hK
  ·rw [if_neg hm] at hK ⊢;exact hK
 simp only [aB];refine wq h5 (B3 h0 hl hp (by split<;>decide) (by split<;>decide) fun r M' a b d=>?_)
 obtain ⟨r,rfl⟩:=Int.eq_ofNat_of_zero_le a;obtain ⟨w,ew,hw⟩:=Bc (many:=many) r (by split at b<;>(split<;>lia))
 simp! [ew];exact h w M' hw d
end
theorem uE{ad:Ad}{M:Mem}{Q:DK}{E:DX}{k:Pt}{names:List Str}{m many:Int}(hp:Has k M)(ht:ToldOk names m many)(h:∀(r:Rw) M',dl names m many r->Dr k M M'->Q r.d M'):mJ ad [.ref k.p,fL names m many] M Q E:=by
 obtain ⟨m2,m1,n0,n1,k0,k1⟩:=ht;rw [Ek (n:=0)];unfold mY;refine ck (AB ?_);dsimp only;refine ck (zE ?_);dsimp only;refine ck (Cm (EG rfl rfl rfl hp fun w M1 hw d1=>?_));dsimp only;refine ck (Cm (C9 rfl rfl d1.1 n0 n1 fun x M2 hx d2=>?_));dsimp only;refine ck (pZ rfl (fun e=>?_) fun e1=>?_)
 ·subst e
  refine D7 rfl rfl (D_ rfl (fun K q=>wq rfl q) d2.1 (by lia) (by lia) fun r M3 a b d3=>?_)
  exact ⟨szl (by decide),drp_id (h (.put x r) M3 ⟨hx,a,b⟩ (d1.trans (d2.trans d3)))⟩
 dsimp only [aQ];refine ck (pZ rfl (fun e=>?_) fun e2=>?_)
 ·subst e
  have hm:0<many:=by
   rcases hw with e|(e|e|e|e)|e
   ·exact (e1 e).elim
   ·exact absurd e (by decide +kernel)
   ·exact absurd e (by decide +kernel)
   ·exact absurd e (by decide +kernel)
   ·exact absurd e (by decide +kernel)
   ·exact e.1
  refine D7 rfl rfl (D_ rfl (fun K q=>wq rfl q) d2.1 (by lia) (by lia) fun r M3 a b d3=>?_)
  exact ⟨szl (by decide),drp_id (h (.take x r) M3 ⟨hx,a,b⟩ (d1.trans (d2.trans d3)))⟩
 dsimp only [aQ];refine ck (Cm (C9 rfl rfl d2.1 n0 n1 fun y M3 hy d3=>?_));dsimp only;refine ck (pZ rfl (fun e=>?_) fun e3=>?_)
 ·subst e
  have hm:0<many:=by
   rcases hw with e|(e|e|e|e)|e
   ·exact (e1 e).elim
   ·exact absurd e (by decide +kernel)
   ·exact absurd e (by decide +kernel)
   ·exact absurd e (by decide +kernel)
   ·exact absurd e (by decide +kernel)
   ·exact e.1
  exact D7 rfl rfl (wq rfl ⟨szl (by decide),drp_id (h (.pick x y) M3 ⟨hx,hy,hm⟩ (d1.trans (d2.trans d3)))⟩)
 dsimp only [aQ];have w4:w="sum"\/w="by"\/w="less"\/w="same":=by
  rcases hw with e|e|⟨_,e|e⟩
  ·exact (e1 e).elim
  ·exact e
  ·exact (e2 e).elim
  ·exact (e3 e).elim
 refine ret4 rfl rfl rfl (C9 rfl rfl d3.1 n0 n1 fun z M4 hz d4=>?_);exact ⟨szl (by decide),drp_id (h (.two w x y z) M4 ⟨w4,hx,hy,hz⟩ (d1.trans (d2.trans (d3.trans d4))))⟩
end Tw
namespace Tw
open PySem L2 L3
mutual
def Ee:Rw->Prop
 |.ifr _ a b=>(a.length<=200/\dM a)/\b.length<=200/\dM b
 |.again _ a=>a.length<=200/\dM a
 |_=>True
def dM:List Rw->Prop
 |[]=>True
 |r::rs=>Ee r/\dM rs
end
theorem LnRs_append:∀{a b:List Rw},dM (a++b)↔dM a/\dM b
 |[],b=>by simp [dM]
 |r::a,b=>by simp [dM,LnRs_append,and_assoc]
mutual
def cR:Rw->Nat
 |.ifr _ a b=>1+cRs a+cRs b
 |.again _ a=>1+cRs a
 |.put _ _=>1
 |.take _ _=>1
 |.pick _ _=>1
 |.two _ _ _ _=>1
def cRs:List Rw->Nat
 |[]=>0
 |r::rs=>cR r+cRs rs
end
theorem cF:∀{a b:List Rw},cRs (a++b)=cRs a+cRs b
 |[],b=>by simp [cRs]
 |r::a,b=>by simp only [List.cons_append,cRs,cF];lia
theorem Fj{names:List Str}{m many:Int}{r:Rw}(h:dl names m many r):cR r=1:=by
 cases r with
 |ifr=>exact h.elim
 |again=>exact h.elim
 |_=>simp only [cR]
def Rv(rm:Addr)(M:Mem)(v:Int):Prop:=M rm=some (.lst [.int v])/\0<=v
def Kp(k:Pt)(rm:Addr)(M M':Mem):Prop:=Has k M'/\(∃v:Int,M' rm=some (.lst [.int v]))/\∀b o,b≠k.p->b≠k.q->b≠rm->M b=some o->M' b=some o
theorem Kp.trans{k:Pt}{rm:Addr}{M M1 M2:Mem}(a:Kp k rm M M1)(b:Kp k rm M1 M2):Kp k rm M M2:=⟨b.1,b.2.1,fun x o h1 h2 h3 h=>b.2.2 x o h1 h2 h3 (a.2.2 x o h1 h2 h3 h)⟩
structure Rm(k:Pt)(rm:Addr)(M:Mem):Prop where
 h:Has k M
 n1:rm≠k.p
 n2:rm≠k.q
 v:∃v:Int,M rm=some (.lst [.int v])
theorem Rm.kp{k:Pt}{rm:Addr}{M:Mem}(r:Rm k rm M):Kp k rm M M:=⟨r.h,r.v,fun _ _ _ _ _ e=>e⟩
theorem Rm.go{k:Pt}{rm:Addr}{M M':Mem}(r:Rm k rm M)(d:Kp k rm M M'):Rm k rm M':=⟨d.1,r.n1,r.n2,d.2.1⟩
theorem Rm.dr{k:Pt}{rm:Addr}{M M':Mem}(r:Rm k rm M)(d:Dr k M M'):Kp k rm M M':=⟨d.1,by obtain ⟨v,e⟩:=r.v;exact ⟨v,by rw [d.2 rm r.n1 r.n2];exact e⟩,fun b o h1 h2 _ e=>by rw [d.2 b h1 h2];exact e⟩
theorem Rm.new{k:Pt}{rm:Addr}{M:Mem}(r:Rm k rm M){l:Addr}(hl:M l=none)(o:MO):Kp k rm M (M.upd l o):=by
 have a:=r.h.nep hl;obtain ⟨v,e⟩:=r.v;have b:rm≠l:=Mem.ne e hl;exact ⟨r.h.upd a,⟨v,by rw [aj b];exact e⟩,fun c o _ _ _ e=>by rw [aj (Mem.ne e hl)];exact e⟩
theorem Rm.set{k:Pt}{rm:Addr}{M:Mem}(r:Rm k rm M)(v:Int):Kp k rm M (M.upd rm (.lst [.int v])):=
 ⟨r.h.upd ⟨r.n1,r.n2⟩,⟨v,Mem.upd_same⟩,fun c o _ _ h e=>by rw [aj h];exact e⟩
section
variable {ad:Ad}{k:Pt}{rm:Addr}{names:List Str}{m many:Int}
def PRo(ad:Ad)(k:Pt)(rm:Addr)(names:List Str)(m many:Int)(n:Nat):Prop:=∀(deep:Nat) (most:Int) (M:Mem) (Q:DK) (E:DX),deep<=4->2*(4-deep)+1<=n->0<most->most<=30->Rm k rm M->∀v:Int,Rv rm M v->
 (∀(rs:List Rw) (M':Mem),(∃v',Rv rm M' v'/\(cRs rs:Int)+v'<=v)->bV names m many rs/\dM rs->di rs+deep<=4->rs.length<=100->Kp k rm M M'->Q (.tup (ay rs)) M')->S_q14 ad n [.ref k.p,fL names m many,.ref rm,.int deep,.int most] M Q E
def PBl(ad:Ad)(k:Pt)(rm:Addr)(names:List Str)(m many:Int)(n:Nat):Prop:=∀(deep:Nat) (M:Mem) (Q:DK) (E:DX),deep<4->2*(4-deep)<=n->Rm k rm M->∀v:Int,Rv rm M v->
 (∀(rs:List Rw) (l:Addr) (M':Mem),(∃v',Rv rm M' v'/\(cRs rs:Int)+v'<=v+4)->bV names m many rs/\dM rs->di rs+deep<=4->rs.length<=3->Kp k rm M M'->M' l=none->Q (.ref l) (M'.upd l (.lst (ay rs))))->S_q7 ad n [.ref k.p,fL names m many,.ref rm,.int deep] M Q E
theorem OkRs_append:∀{a b:List Rw},bV names m many (a++b)↔bV names m many a/\bV names m many b
 |[],b=>by simp [bV]
 |r::a,b=>by simp [bV,OkRs_append,and_assoc]
theorem dS:∀{a b:List Rw},di (a++b)=max (di a) (di b)
 |[],b=>by simp [di]
 |r::a,b=>by simp only [List.cons_append,di,dS,Nat.max_assoc]
theorem bW:∀{a b:List Rw},ay (a++b)=ay a++ay b
 |[],b=>rfl
 |r::a,b=>by simp [ay,bW]
theorem bn:∀{a:List Rw},(ay a).length=a.length
 |[]=>rfl
 |r::a=>by simp [ay,bn]
theorem Ct{r:Rw}(h:dl names m many r):OkR names m many r:=by
 cases r with
 |ifr=>exact h.elim
 |again=>exact h.elim
 |_=>simpa only [OkR] using h
theorem Fn{r:Rw}(h:dl names m many r):hR r=0:=by
 cases r with
 |ifr=>exact h.elim
 |again=>exact h.elim
 |_=>simp only [hR]
theorem Cp{r:Rw}(h:dl names m many r):Ee r:=by
 cases r with
 |ifr=>exact h.elim
 |again=>exact h.elim
 |_=>simp only [Ee]
theorem pI(ht:ToldOk names m many){n:Nat}(ih:PRo ad k rm names m many n):PBl ad k rm names m many (n+1):=by
 intro deep M Q E hd hn r v rv h;obtain ⟨m2,m1,n0,n1,k0,k1⟩:=ht;have dd:(deep:Int)+1=((deep+1:Nat):Int):=by lia
 simp! [u_q7,vM,fL,List.length_map];refine aV r.h (by lia) (by lia) fun r1 M1 a1 b1 d1=>?_
 have R1:=r.go (r.dr d1);have rv1:Rv rm M1 v:=⟨by rw [d1.2 rm r.n1 r.n2];exact rv.1,rv.2⟩
 obtain ⟨x,hx,ex⟩:=iW a1 b1;simp! [ex,dd];refine calls_of fun Q' E' hq _=>ih (deep+1) 5 M1 Q' E' (by lia) (by lia) (by decide) (by decide) R1 v rv1 fun first M2 c2 o2 h2 l2 d2=>hq _ _ ?_
 obtain ⟨v2,rv2,c2⟩:=c2;have R2:=R1.go d2;simp! [];refine aV R2.h (by decide) (by decide) fun w M3 a3 b3 d3=>?_
 have R3:=R2.go (R2.dr d3);have rv3:Rv rm M3 v2:=⟨by rw [d3.2 rm r.n1 r.n2];exact rv2.1,rv2.2⟩
 simp! [dd]
 by_cases hw:w<2
 ·rw [if_pos hw]
  refine calls_of fun Q' E' hq _=>ih (deep+1) 5 M3 Q' E' (by lia) (by lia) (by decide) (by decide) R3 v2 rv3 fun second M4 c4 o4 h4 l4 d4=>hq _ _ ?_
  obtain ⟨v4,rv4,c4⟩:=c4;simp! [];refine ⟨szl (by decide),szl (by decide),fun l hl=>drp_id (h [.ifr x first second] l M4 ⟨v4,rv4,by simp only [cRs,cR];lia⟩ ?_ ?_ (by simp) ((r.dr d1).trans (d2.trans ((R2.dr d3).trans d4))) hl)⟩
  ·simp only [bV,OkR,dM,Ee];exact ⟨⟨⟨hx,o2.1,o4.1⟩,trivial⟩,⟨⟨by lia,o2.2⟩,by lia,o4.2⟩,trivial⟩
  ·simp only [di,hR];lia
 ·rw [if_neg hw]
  by_cases hw2:w=2
  ·rw [if_pos hw2]
   refine ⟨szl (by decide),szl (by decide),fun l hl=>drp_id (h [.again x first] l M3 ⟨v2,rv3,by simp only [cRs,cR];lia⟩ ?_ ?_ (by simp) ((r.dr d1).trans (d2.trans (R2.dr d3))) hl)⟩
   ·simp only [bV,OkR,dM,Ee];exact ⟨⟨⟨hx,o2.1⟩,trivial⟩,⟨by lia,o2.2⟩,trivial⟩
   ·simp only [di,hR];lia
  ·rw [if_neg hw2]
   simp only [List.length_map];refine aV R3.h (by lia) (by lia) fun r4 M4 a4 b4 d4=>?_
   have R4:=R3.go (R3.dr d4);obtain ⟨y,hy,ey⟩:=iW a4 b4;simp! [ey];refine aV R4.h (by split<;>lia) (by split<;>lia) fun r5 M5 a5 b5 d5=>?_
   have b5':r5<m:=by split at b5<;>lia
   simp! [];refine ⟨szl (by decide),szl (by decide),szl (by decide),szl (by decide),szl (by rw [bn];lia),szl (by decide),szl (by decide),fun l hl=>drp_id ?_⟩
   have:=h [.put x r5,.put y (m-1),.again x (first++[.two "sum" x x y])] l M5 ⟨v2,⟨by rw [d5.2 rm r.n1 r.n2,d4.2 rm r.n1 r.n2];exact rv3.1,rv3.2⟩,by simp only [cRs,cR,cF];lia⟩ ?_ ?_ (by simp) ((r.dr d1).trans (d2.trans ((R2.dr d3).trans ((R3.dr d4).trans (R4.dr d5))))) hl
   ·simp only [ay,Rw.d,bW] at this
    exact this
   ·simp only [bV,OkR,dl,OkRs_append,dM,Ee,LnRs_append]
    exact ⟨⟨⟨hx,a5,b5'⟩,⟨hy,by lia,by lia⟩,⟨hx,o2.1,⟨.inl trivial,hx,hx,hy⟩,trivial⟩,trivial⟩,trivial,trivial,⟨by simp;lia,o2.2,trivial,trivial⟩,trivial⟩
   ·simp only [di,hR,dS];lia
theorem Ff{r:Rw}{M:Mem}{Q:DK}:frz r.d M Q=Q r.d M:=by cases r<;>rfl
theorem q_{c v:Int}{D0:DEnds}{δ:Dl}{M:Mem}(h2:δ[2]?=some (some (.ref rm)))(hv:M rm=some (.lst [.int v]))(h:D0.nx δ (M.upd rm (.lst [.int (v-c)]))):
  b0 (aB oZ (aB bd (ae 2) (dC (.int 0))) (dC (.int c))) (iD (ae 2) (dC (.int 0))) D0 δ M:=by
 simp! [h2,hv,tV,ix0];exact h
theorem Dj{EE:DX}{A B:aM}{D0:DEnds}{δ:Dl}{M:Mem}{v:Int}{deep:Int}(h0:δ[0]?=some (some (.ref k.p)))(h2:δ[2]?=some (some (.ref rm)))(h3:δ[3]?=some (some (.int deep)))(hp:Has k M)(hv:M rm=some (.lst [.int v]))
  (hA:∀M',4<v->deep<4->Dr k M M'->A D0 δ M') (hB:∀M',Dr k M M'->B D0 δ M'):
  bi (kh (aI (aB AD (aB bd (ae 2) (dC (.int 0))) (dC (.int 4)))) (kh (aI (aB Ci (ae 3) (dC (.int 4)))) (aI (aB dh (aF (ax (bt ad) EE 2 (ac (ae 0) (ac (dC (.int 4)) ak)))) (dC (.int 0)))))) A B D0 δ M:=by
 simp! [h0,h2,h3,hv,tV]
 by_cases h4:4<v
 ·rw [if_pos h4]
  by_cases h5:deep<4
  ·rw [if_pos h5]
   refine aV hp (by decide) (by decide) fun w M2 a2 b2 d2=>?_
   simp! []
   by_cases h6:w=0
   ·rw [if_pos h6];exact hA _ h4 h5 d2
   ·rw [if_neg h6];exact hB _ d2
  ·rw [if_neg h5];exact hB _ hp.refl
 ·rw [if_neg h4];exact hB _ hp.refl
theorem yA{A:aM}{D0:DEnds}{δ:Dl}{M:Mem}{v:Int}(h2:δ[2]?=some (some (.ref rm)))(hv:M rm=some (.lst [.int v]))(hA:0<v->A D0 δ M)(hB:D0.nx δ M):
  bi (aI (aB AD (aB bd (ae 2) (dC (.int 0))) (dC (.int 0)))) A aQ D0 δ M:=by
 simp! [h2,hv,tV]
 by_cases h4:0<v
 ·rw [if_pos h4];exact hA h4
 ·rw [if_neg h4];exact hB
theorem Ai{EE:DX}{D0:DEnds}{δ:Dl}{M:Mem}{l:Addr}{acc:List Rw}(h0:δ[0]?=some (some (.ref k.p)))(h1:δ[1]?=some (some (fL names m many)))(h5:δ[5]?=some (some (.ref l)))(hp:Has k M)(ht:ToldOk names m many)(n1:l≠k.p)(n2:l≠k.q)
  (hl:M l=some (.lst (ay acc))) (ha:acc.length<=1000) (h:∀(r:Rw) M',dl names m many r->Dr k M M'->D0.nx δ (M'.upd l (.lst (ay acc++[r.d])))):
  cf (oq "list" cH (ae 5) (ac (aF (ax (mJ ad) EE 2 (ac (ae 0) (ac (ae 1) ak)))) ak)) D0 δ M:=by
 simp! [h0,h1,h5,hl];refine calls_of fun Q' E' hq _=>uE hp ht fun rw1 M3 ok3 d3=>hq _ _ ?_;have hl3:M3 l=some (.lst (ay acc)):=by rw [d3.2 l n1 n2];exact hl
 have fin:=h rw1 M3 ok3 d3;have sz:(ay acc).length+1<=sizeLine:=by rw [bn];exact cX (by lia)
 rw [Ff];simp! [hl3];exact ⟨sz,fin⟩
theorem zP{n:Nat}(ih:PBl ad k rm names m many n){EE:DX}{D0:DEnds}{δ:Dl}{M:Mem}{l:Addr}{acc:List Rw}{deep:Nat}(h0:δ[0]?=some (some (.ref k.p)))(h1:δ[1]?=some (some (fL names m many)))(h2:δ[2]?=some (some (.ref rm)))(h3:δ[3]?=some (some (.int deep)))(h5:δ[5]?=some (some (.ref l)))
  (hd:deep<4) (hn:2*(4-deep)<=n) (R:Rm k rm M) (n1:l≠k.p) (n2:l≠k.q) (n3:l≠rm) (hl:M l=some (.lst (ay acc))) (ha:acc.length<=1000) {v:Int} (rv:Rv rm M v)
  (h:∀(rs:List Rw) (l3:Addr) (M':Mem),(∃v',Rv rm M' v'/\(cRs rs:Int)+v'<=v+4)->bV names m many rs/\dM rs->di rs+deep<=4->rs.length<=3->Kp k rm M M'->M' l3=none->D0.nx (δ.set 5 (some (.ref l3))) (M'.upd l3 (.lst (ay acc++ay rs)))):
  b0 (aB cr (ae 5) (aF (ax (S_q7 ad n) EE 4 (ac (ae 0) (ac (ae 1) (ac (ae 2) (ac (ae 3) ak))))))) (au 5) D0 δ M:=by
 simp! [h0,h1,h2,h3,h5];refine calls_of fun Q' E' hq _=>ih deep M Q' E' hd hn R v rv fun bl l2 M3 c3 ok3 hh len3 k3 nl3=>hq _ _ ?_;have hm3:M3 l=some (.lst (ay acc)):=k3.2.2 l _ n1 n2 n3 hl;simp! [Mem.upd_del,ai nl3,hm3];exact ⟨by rw [bn,bn];exact szl (by lia),fun l3 hl3=>h bl l3 M3 c3 ok3 hh len3 k3 hl3⟩
structure RInv(k:Pt)(rm:Addr)(names:List Str)(m many:Int)(M:Mem)(v:Int)(deep:Nat)(n j:Nat)(acc:List Rw)(l:Addr)(M':Mem):Prop where
 cv:∃v',Rv rm M' v'/\(cRs acc:Int)+v'<=v
 hj:n+j<=30
 ha:acc.length<=3*j
 ok:bV names m many acc
 ln:dM acc
 hh:di acc+deep<=4
 kp:Kp k rm M M'
 hm:M' l=some (.lst (ay acc))
 n1:l≠k.p
 n2:l≠k.q
 n3:l≠rm
 h0:M l=none
theorem RInv.len{M:Mem}{v:Int}{deep n j:Nat}{acc:List Rw}{l:Addr}{M':Mem}(I:RInv k rm names m many M v deep n j acc l M'):acc.length<=100:=by
 have:=I.hj;have:=I.ha;lia
theorem ja(ht:ToldOk names m many){n:Nat}(ih:PBl ad k rm names m many n):PRo ad k rm names m many (n+1):=by
 intro deep most M Q E hd hn h0 h1 r v0 rv0 h;simp! [u_q14,T_q14,dFor];refine ⟨szl (by decide),fun l hl=>?_⟩
 have R1:=r.go (r.new hl (.lst []));refine aV R1.h h0 (by lia) fun cnt M1 a1 b1 d1=>?_
 have nel:=r.h.nep hl;simp! [];refine ⟨by lia,by lia,?_⟩
 refine forD_inv (fun xs δ M'=>∃(j:Nat) (acc:List Rw) (l:Addr) (c6:Option D),RInv k rm names m many M v0 deep xs.length j acc l M'/\δ=[some (.ref k.p),some (fL names m many),some (.ref rm),some (.int deep),some (.int most),some (.ref l),c6]) (fun _ _ _ _=>aU) ?_ ?_ _ _ _ ⟨0,[],l,none,⟨⟨v0,⟨?_,rv0.2⟩,by simp [cRs]⟩,?_,by simp,by simp only [bV],by simp only [dM],by simp only [di];lia,(r.new hl _).trans (R1.dr d1),?_,nel.1,nel.2,?_,hl⟩,rfl⟩
 ·rintro δ M' ⟨j,acc,l,c6,I,rfl⟩
  simp! [I.hm];exact drp_id (h acc M' I.cv ⟨I.ok,I.ln⟩ I.hh I.len I.kp)
 ·rintro x xs δ M' ⟨j,acc,l,c6,I,rfl⟩ D' hnx _ _ _
  have R:=r.go I.kp;have hj:=I.hj;have ha:=I.ha;simp only [List.length_cons] at hj;obtain ⟨v,⟨hv,hv0⟩,hcv⟩:=I.cv;refine Dj rfl rfl rfl R.h hv (fun M2 h4 h5 d2=>?_) fun M2 d2=>?_
  ·have k2:=I.kp.trans (R.dr d2)
   have R2:=r.go k2;refine ck (q_ rfl (by rw [d2.2 rm r.n1 r.n2];exact hv) ?_)
   have hs:=R2.set (v-4);dsimp only;refine zP (deep:=deep) (acc:=acc) ih rfl rfl rfl rfl rfl (by lia) (by lia) (R2.go hs) I.n1 I.n2 I.n3 (by rw [aj I.n3,d2.2 l I.n1 I.n2];exact I.hm) (by lia) (v:=v-4) ⟨Mem.upd_same,by lia⟩ fun bl l3 M3 c3 ok3 hh3 len3 k3 hl3=>?_
   have hk3:=(k2.trans hs).trans k3;have R3:=r.go hk3;have ne3:=R3.h.nep hl3;have ner:l3≠rm:=by
    obtain ⟨u,eu⟩:=R3.v;exact fun e=>by rw [e,eu] at hl3;cases hl3
   have hM3:M l3=none:=by
    cases e:M l3 with
    |none=>rfl
    |some o=>rw [hk3.2.2 l3 o ne3.1 ne3.2 ner e] at hl3;cases hl3
   obtain ⟨v3,rv3,c3⟩:=c3;exact hnx _ _ ⟨j+1,acc++bl,l3,_,⟨⟨v3,⟨by rw [aj (Ne.symm ner)];exact rv3.1,rv3.2⟩,by rw [cF];lia⟩,by lia,by rw [List.length_append];lia,OkRs_append.mpr ⟨I.ok,ok3.1⟩,LnRs_append.mpr ⟨I.ln,ok3.2⟩,by rw [dS];exact Nat.le_trans (Nat.le_of_eq (Nat.add_max_add_right ..).symm) (Nat.max_le.mpr ⟨I.hh,hh3⟩),hk3.trans (R3.new hl3 _),by rw [Mem.upd_same,bW],ne3.1,ne3.2,ner,hM3⟩,rfl⟩
  ·have k2:=I.kp.trans (R.dr d2)
   have R2:=r.go k2;have hm2:M2 l=some (.lst (ay acc)):=by rw [d2.2 l I.n1 I.n2];exact I.hm
   refine yA rfl (by rw [d2.2 rm r.n1 r.n2];exact hv) (fun hz=>?_) ?_
   ·refine ck (q_ rfl (by rw [d2.2 rm r.n1 r.n2];exact hv) ?_)
    have hs:=R2.set (v-1);dsimp only;refine Ai (acc:=acc) rfl rfl rfl hs.1 ht I.n1 I.n2 (by rw [aj I.n3];exact hm2) (by lia) fun rw1 M3 ok3 d3=>?_
    have hk3:=(k2.trans hs).trans ((R2.go hs).dr d3);refine hnx _ _ ⟨j+1,acc++[rw1],l,_,⟨⟨v-1,⟨by rw [aj (Ne.symm I.n3),d3.2 rm r.n1 r.n2,Mem.upd_same],by lia⟩,by rw [cF];simp only [cRs,Fj ok3];lia⟩,by lia,by rw [List.length_append,List.length_singleton];lia,OkRs_append.mpr ⟨I.ok,by simp only [bV];exact ⟨Ct ok3,trivial⟩⟩,LnRs_append.mpr ⟨I.ln,by simp only [dM];exact ⟨Cp ok3,trivial⟩⟩,by rw [dS];simp only [di,Fn ok3,Nat.max_zero,Nat.max_self];exact I.hh,?_,by rw [Mem.upd_same,bW];rfl,I.n1,I.n2,I.n3,I.h0⟩,rfl⟩
    refine ⟨hk3.1.upd ⟨I.n1,I.n2⟩,?_,fun b o h1 h2 h3 e=>?_⟩
    ·obtain ⟨u,eu⟩:=hk3.2.1
     exact ⟨u,by rw [aj (Ne.symm I.n3)];exact eu⟩
    ·rw [aj (Mem.ne e I.h0)];exact hk3.2.2 b o h1 h2 h3 e
   ·exact hnx _ _ ⟨j,acc,l,_,⟨⟨v,⟨by rw [d2.2 rm r.n1 r.n2];exact hv,hv0⟩,hcv⟩,by lia,ha,I.ok,I.ln,I.hh,k2,hm2,I.n1,I.n2,I.n3,I.h0⟩,rfl⟩
 ·rw [d1.2 rm r.n1 r.n2,aj (fun z=>by rw [<- z,rv0.1] at hl;cases hl)];exact rv0.1
 ·simp [gj];lia
 ·rw [d1.2 l nel.1 nel.2,Mem.upd_same];rfl
 ·obtain ⟨v,e⟩:=r.v
  exact fun e'=>by rw [e',e] at hl;cases hl
theorem hW(ht:ToldOk names m many):∀n:Nat,PRo ad k rm names m many n/\PBl ad k rm names m many n
 |0=>⟨fun deep most M Q E _ h=>by lia,fun deep M Q E _ h=>by lia⟩
 |n+1=>⟨ja ht (hW ht n).2,pI ht (hW ht n).1⟩
end
end Tw
namespace Tw
open PySem L2 L3
section
variable {ad:Ad}{k:Pt}{M:Mem}{Q:DK}{E:DX}
def Kq(k:Pt)(M M':Mem):Prop:=Has k M'/\∀b o,b≠k.p->b≠k.q->M b=some o->M' b=some o
theorem Kq.trans{M1 M2:Mem}(a:Kq k M M1)(b:Kq k M1 M2):Kq k M M2:=⟨b.1,fun x o h1 h2 h=>b.2 x o h1 h2 (a.2 x o h1 h2 h)⟩
theorem Dr.kq{M':Mem}(d:Dr k M M'):Kq k M M':=⟨d.1,fun b o h1 h2 e=>by rw [d.2 b h1 h2];exact e⟩
structure PlG(m many:Int)(names:List Str)(rows:List Rw)(mk:Str):Prop where
 t:ToldOk names m many
 nd:names.Nodup
 ok:bV names m many rows
 h:di rows<=4
 cn:cRs rows<=60
 l:rows.length<=100
 ln:dM rows
 mkm:mk∈names
 one:∀x∈names,pU x
def jJ(m many:Int)(names:List Str)(rows:List Rw)(mk:Str):D:=.tup [.int m,.tup (names.map D.str),.int many,.tup (ay rows),.str mk]
theorem tj{v:Int}(v0:0<=v)(v60:v<=60)(hp:Has k M)(h:∀(m many:Int) (names:List Str) (rows:List Rw) (mk:Str) (M':Mem),PlG m many names rows mk->Kq k M M'->Q (jJ m many names rows mk) M'):nw ad [.ref k.p,.int v] M Q E:=by
 simp! [FJ,mT];refine aV hp (by decide) (by decide) fun x1 M1 a1 b1 d1=>?_
 simp! [];refine aV d1.1 (by decide) (by decide) fun x2 M2 a2 b2 d2=>?_
 simp! [];refine ⟨szl (by decide),fun p hpn=>?_⟩
 rw [Mem.upd_del,ai hpn];refine aV d2.1 (by decide) (by decide) fun x3 M3 a3 b3 d3=>?_
 obtain ⟨m,em,m2,m1⟩:∃m:Int,atI [D.int 2,.int 3,.int (2+x1),.int (2+x2)] x3=some (.int m)/\2<=m/\m<=997:=by
  have:x3=0\/x3=1\/x3=2\/x3=3:=by lia
  rcases this with rfl|rfl|rfl|rfl
  ·exact ⟨2,by simp,by lia,by lia⟩
  ·exact ⟨3,by simp,by lia,by lia⟩
  ·exact ⟨2+x1,by simp,by lia,by lia⟩
  ·exact ⟨2+x2,by simp,by lia,by lia⟩
 simp! [em];refine ⟨szl (by decide),fun p hpn=>?_⟩
 rw [Mem.upd_del,ai hpn];refine aV d3.1 (by decide) (by decide) fun x4 M4 a4 b4 d4=>?_
 obtain ⟨w,ew,w2,w1⟩:∃m:Int,atI [D.int 3,.int 5,.int 12] x4=some (.int m)/\0<m/\m<=12:=by
  have:x4=0\/x4=1\/x4=2:=by lia
  rcases this with rfl|rfl|rfl
  ·exact ⟨3,by simp,by lia,by lia⟩
  ·exact ⟨5,by simp,by lia,by lia⟩
  ·exact ⟨12,by simp,by lia,by lia⟩
 simp! [ew];refine aV d4.1 w2 (by lia) fun x5 M5 a5 b5 d5=>?_
 simp! [];obtain ⟨nn,hnn⟩:∃nn:Nat,(1:Int)+x5=nn:=⟨(1+x5).toNat,by lia⟩
 rw [hnn];refine calls_of fun Q' E' hq _=>jQ d5.1 (by lia) fun names M6 n6 nd6 on6 d6=>hq _ _ ?_
 simp! [];refine aV d6.1 (by decide) (by decide) fun x7 M7 a7 b7 d7=>?_
 simp! [];refine aV d7.1 (by decide) (by decide) fun x8 M8 a8 b8 d8=>?_
 simp! [];refine ⟨szl (by decide),fun p hpn=>?_⟩
 rw [Mem.upd_del,ai hpn];refine aV d8.1 (by decide) (by decide) fun x9 M9 a9 b9 d9=>?_
 obtain ⟨many,ek,k0,k1⟩:∃m:Int,atI [D.int 0,.int (1+x7),.int x8] x9=some (.int m)/\0<=m/\m<=40:=by
  have:x9=0\/x9=1\/x9=2:=by lia
  rcases this with rfl|rfl|rfl
  ·exact ⟨0,by simp,by lia,by lia⟩
  ·exact ⟨1+x7,by simp,by lia,by lia⟩
  ·exact ⟨x8,by simp,by lia,by lia⟩
 simp! [ek];refine ⟨szl (by decide),szl (by decide),fun rm hrm=>⟨szl (by decide),fun p hpn=>?_⟩⟩
 rw [Mem.upd_del,ai hpn];have D9:=d1.trans (d2.trans (d3.trans (d4.trans (d5.trans (d6.trans (d7.trans (d8.trans d9)))))));have nrm:=d9.1.nep hrm;have R9:Rm k rm (M9.upd rm (.lst [.int v])):=⟨d9.1.upd nrm,nrm.1,nrm.2,v,Mem.upd_same⟩;refine aV R9.h (by decide) (by decide) fun x10 M10 a10 b10 d10=>?_
 have R10:=R9.go (R9.dr d10);obtain ⟨most,eo,o0,o1⟩:∃m:Int,atI [D.int 6,.int 12,.int 30] x10=some (.int m)/\0<m/\m<=30:=by
  have:x10=0\/x10=1\/x10=2:=by lia
  rcases this with rfl|rfl|rfl
  ·exact ⟨6,by simp,by lia,by lia⟩
  ·exact ⟨12,by simp,by lia,by lia⟩
  ·exact ⟨30,by simp,by lia,by lia⟩
 simp! [eo];have ht:ToldOk names m many:=⟨m2,m1,by lia,by lia,k0,k1⟩
 refine calls_of fun Q' E' hq _=>(hW ht 24).1 0 most M10 Q' E' (by decide) (by decide) o0 o1 R10 v ⟨by rw [d10.2 rm nrm.1 nrm.2,Mem.upd_same],v0⟩ fun rows M11 c11 ok11 h11 l11 k11=>hq _ _ ?_
 obtain ⟨v11,rv11,c11⟩:=c11;have v110:=rv11.2;simp! [List.length_map];refine aV k11.1 (by lia) (by lia) fun x12 M12 a12 b12 d12=>?_
 obtain ⟨mk,hmk,emk⟩:=iW a12 b12;simp! [emk];refine ⟨szl (by decide),drp_id (h m many names rows mk M12 ⟨ht,nd6,ok11.1,by lia,by lia,l11,ok11.2,hmk,on6⟩ ?_)⟩
 refine D9.kq.trans (Kq.trans ?_ d12.kq);refine ⟨k11.1,fun b o h1 h2 e=>?_⟩;have hb:b≠rm:=Mem.ne e hrm;have:=(R9.dr d10).2.2 b o h1 h2 hb (by rw [aj hb];exact e)
 exact k11.2.2 b o h1 h2 hb this
theorem qo{m many:Int}{names:List Str}{rows:List Rw}{mk:Str}(hp:Has k M)(pl:PlG m many names rows mk)
  (h:∀(nums pieces:List Int) (M':Mem),nums.length=names.length->(pieces.length:Int)=many->(∀v∈nums,0<=v/\v<m)->(∀v∈pieces,0<=v/\v<m)->Kq k M M'->Q (standD nums pieces) M'):ut ad [.ref k.p,jJ m many names rows mk] M Q E:=by
 have t1:=pl.t.m1;have t2:=pl.t.m2;have t3:=pl.t.n1;have t4:=pl.t.k0;have t5:=pl.t.k1;simp! [u_q8,vy,jJ,aP,atI_1];refine bg (fun xs acc δ M'=>∃(nums:List Int) (c0:Option D),xs.length+nums.length=names.length/\acc=nums.map D.int/\δ=[c0,some (.ref k.p),some (jJ m many names rows mk)]/\Dr k M M'/\∀v∈nums,0<=v/\v<m) (fun _ _ _ _ _=>aU) ?_ ?_ ?_ _ _ _ _ ⟨[],none,by simp,rfl,rfl,hp.refl,by simp⟩
 ·rintro acc δ M' ⟨nums,c0,e1,rfl,rfl,d1,hv⟩
  intro p hpn;simp! [Mem.upd_del,ai hpn,atI_2];refine ⟨by lia,by lia,?_⟩
  refine bg (fun xs acc δ M'=>∃(ps:List Int) (c0:Option D),xs.length+ps.length=many.toNat/\acc=ps.map D.int/\δ=[c0,some (.ref k.p),some (jJ m many names rows mk)]/\Dr k M M'/\∀v∈ps,0<=v/\v<m) (fun _ _ _ _ _=>aU) ?_ ?_ ?_ _ _ _ _ ⟨[],none,by simp [gj],rfl,rfl,d1,by simp⟩
  ·rintro acc δ M' ⟨ps,c0,e2,rfl,rfl,d2,hv2⟩
   intro p hpn;simp! [Mem.upd_del,ai hpn];refine ⟨szl (by decide),drp_id (h nums ps M' (by simpa using e1) (by simp at e2;lia) hv hv2 d2.kq)⟩
  ·rintro x xs acc δ M' ⟨ps,c0,e2,rfl,rfl,d2,hv2⟩ N hN _
   simp! [jJ,atI_0];refine aV d2.1 (by lia) (by lia) fun r M3 a3 b3 d3=>?_
   simp! [];simp only [List.length_cons] at e2;refine hN _ _ _ (by simp;exact cX (by lia)) ⟨ps++[r],_,by simp;lia,by simp,rfl,d2.trans d3,fun v hv=>?_⟩
   rcases List.mem_append.mp hv with hv|hv
   ·exact hv2 v hv
   ·simp at hv;subst hv;exact ⟨a3,b3⟩
  ·rintro x xs acc δ M' ⟨ps,c0,e2,rfl,rfl,d2,hv2⟩
   simp at e2 ⊢;exact cX (by lia)
 ·rintro x xs acc δ M' ⟨ps,c0,e2,rfl,rfl,d2,hv2⟩ N hN _
  simp! [jJ,atI_0];refine aV d2.1 (by lia) (by lia) fun r M3 a3 b3 d3=>?_
  simp! [];simp only [List.length_cons] at e2;refine hN _ _ _ (by simp;exact cX (by lia)) ⟨ps++[r],_,by simp;lia,by simp,rfl,d2.trans d3,fun v hv=>?_⟩
  rcases List.mem_append.mp hv with hv|hv
  ·exact hv2 v hv
  ·simp at hv;subst hv;exact ⟨a3,b3⟩
 ·rintro x xs acc δ M' ⟨ps,c0,e2,rfl,rfl,d2,hv2⟩
  simp at e2 ⊢;exact cX (by lia)
end
end Tw
namespace Tw
open PySem L2 L3
def tM:Nat->D->Prop
 |_,.non=>True
 |_,.bl _=>True
 |_,.int _=>True
 |_,.str _=>True
 |n+1,.tup xs=>xs.length<=100000/\∀x∈xs,tM n x
 |n+1,.lst xs=>xs.length<=100000/\∀x∈xs,tM n x
 |_,_=>False
theorem dJ:∀n:Nat,gi (List.replicate n (.bl true))=some (List.replicate n true)
 |0=>rfl
 |n+1=>by rw [List.replicate_succ,gi,dJ n];rfl
theorem i_{n:Nat}:(List.replicate n true).all id=true:=by simp
theorem i1:bQ "tuple" "bool"=false:=by decide +kernel
theorem i2:bQ "tuple" "int"=false:=by decide +kernel
theorem i3:bQ "tuple" "str"=false:=by decide +kernel
theorem i4:bQ "tuple" "tuple"=true:=by decide +kernel
theorem i5:bQ "tuple" "list"=false:=by decide +kernel
theorem i6:bQ "list" "bool"=false:=by decide +kernel
theorem i7:bQ "list" "int"=false:=by decide +kernel
theorem i8:bQ "list" "str"=false:=by decide +kernel
theorem i9:bQ "list" "tuple"=false:=by decide +kernel
theorem i10:bQ "list" "list"=true:=by decide +kernel
theorem i11:bQ "bool" "bool"=true:=by decide +kernel
theorem i12:bQ "int" "bool"=false:=by decide +kernel
theorem i13:bQ "int" "int"=true:=by decide +kernel
theorem i14:bQ "str" "bool"=false:=by decide +kernel
theorem i15:bQ "str" "int"=false:=by decide +kernel
theorem oQ:bQ "str" "str"=true:=by decide +kernel
theorem t1:pQ "bool"=true:=by decide +kernel
theorem t2:pQ "int"=true:=by decide +kernel
theorem t3:pQ "str"=true:=by decide +kernel
theorem t4:pQ "tuple"=true:=by decide +kernel
theorem t5:pQ "list"=true:=by decide +kernel
theorem jE:∀xs:List D,lY xs xs=xs.map (fun z=>D.tup [z,z])
 |[]=>rfl
 |x::xs=>by
  have:=jE xs;simp only [lY] at this ⊢;simp [this]
theorem fO{ad:Ad}:∀(n:Nat) (x:D) (M:Mem) (Q:DK) (E:DX),tM n x->Q (.bl true) M->S_q11 ad (n+1) [x,x] M Q E
 |n,x,M,Q,E,hx,h=>by
  cases x with
  |non=>simp! [kK,fG];exact drp_id h
  |bl b=>simp! [kK,fG,i11,t1,beq_self_eq_true];exact drp_id h
  |int i=>simp! [kK,fG,i12,i13,t1,t2];exact drp_id h
  |str i=>simp! [kK,fG,i14,i15,oQ,t1,t2,t3];exact drp_id h
  |tup xs=>
   cases n with
   |zero=>exact hx.elim
   |succ n=>
    obtain ⟨hl,hx⟩:=hx;simp! [kK,fG,i1,i2,i3,i4,i5,t1,t2,t3,t4,t5,aP];rw [if_neg (by decide),if_neg (by decide),if_neg (by decide)]
    refine bg (fun ys acc δ M'=>∃(zs:List D) (j:Nat) (c0 c1:Option D),ys=zs.map (fun z=>D.tup [z,z])/\(∀z∈zs,tM n z)/\zs.length+j<=100000/\acc=List.replicate j (.bl true)/\δ=[c0,c1]/\M'=M) (fun _ _ _ _ _=>aU) ?_ ?_ ?_ _ _ _ _ ⟨xs,0,none,none,jE xs,hx,by omega,rfl,rfl,rfl⟩
    ·rintro acc δ M' ⟨zs,j,c0,c1,e1,e2,e3,rfl,rfl,rfl⟩ p hpn
     simp! [Mem.upd_del,ai hpn,dJ,i_];exact drp_id h
    ·rintro y ys acc δ M' ⟨zs,j,c0,c1,e1,e2,e3,rfl,rfl,rfl⟩ N hN _
     cases zs with
     |nil=>simp at e1
     |cons z zs=>
      simp only [List.map_cons,List.cons.injEq] at e1;obtain ⟨rfl,rfl⟩:=e1;simp only [List.length_cons] at e3;simp! [];refine bh (d:=.bl true) (fun Q' E' q=>fO n z M' Q' E' (e2 z (List.mem_cons_self ..)) q) ?_;simp! [];exact hN _ _ _ (by simp;exact cX (by omega)) ⟨zs,j+1,_,_,rfl,fun w hw=>e2 w (List.mem_cons_of_mem _ hw),by omega,by rw [List.replicate_succ'],rfl,rfl⟩
    ·rintro y ys acc δ M' ⟨zs,j,c0,c1,e1,e2,e3,rfl,rfl,rfl⟩
     simp;exact cX (by omega)
  |lst xs=>
   cases n with
   |zero=>exact hx.elim
   |succ n=>
    obtain ⟨hl,hx⟩:=hx;simp! [kK,fG,i6,i7,i8,i9,i10,t1,t2,t3,t4,t5,aP];rw [if_neg (by decide),if_neg (by decide),if_neg (by decide)]
    refine bg (fun ys acc δ M'=>∃(zs:List D) (j:Nat) (c0 c1:Option D),ys=zs.map (fun z=>D.tup [z,z])/\(∀z∈zs,tM n z)/\zs.length+j<=100000/\acc=List.replicate j (.bl true)/\δ=[c0,c1]/\M'=M) (fun _ _ _ _ _=>aU) ?_ ?_ ?_ _ _ _ _ ⟨xs,0,none,none,jE xs,hx,by omega,rfl,rfl,rfl⟩
    ·rintro acc δ M' ⟨zs,j,c0,c1,e1,e2,e3,rfl,rfl,rfl⟩ p hpn
     simp! [Mem.upd_del,ai hpn,dJ,i_];exact drp_id h
    ·rintro y ys acc δ M' ⟨zs,j,c0,c1,e1,e2,e3,rfl,rfl,rfl⟩ N hN _
     cases zs with
     |nil=>simp at e1
     |cons z zs=>
      simp only [List.map_cons,List.cons.injEq] at e1;obtain ⟨rfl,rfl⟩:=e1;simp only [List.length_cons] at e3;simp! [];refine bh (d:=.bl true) (fun Q' E' q=>fO n z M' Q' E' (e2 z (List.mem_cons_self ..)) q) ?_;simp! [];exact hN _ _ _ (by simp;exact cX (by omega)) ⟨zs,j+1,_,_,rfl,fun w hw=>e2 w (List.mem_cons_of_mem _ hw),by omega,by rw [List.replicate_succ'],rfl,rfl⟩
    ·rintro y ys acc δ M' ⟨zs,j,c0,c1,e1,e2,e3,rfl,rfl,rfl⟩
     simp;exact cX (by omega)
  |_=>cases n<;>exact hx.elim
end Tw
namespace Tw
open PySem L2 L3
section
variable {c c':Cf}
def fv(N:Nat)(s:Sx):Prop:=∀p∈s.steps,p.1≠[]/\p.1.length<=N
theorem AF{N:Nat}{pl:List Int}{v:Int}{s:Sx}(h0:pl≠[])(h1:pl.length<=N)(h:fv N s):fv N (nt c pl v s).2:=by
 unfold nt
 split
 ·intro p hp
  rcases List.mem_append.mp hp with hp|hp
  ·exact h p hp
  ·simp at hp;subst hp;exact ⟨h0,h1⟩
 ·exact h
theorem iV{N:Nat}{r:Rw}{pl:List Int}{s:Sx}(h0:pl≠[])(h1:pl.length<=N)(h:fv N s):fv N (gA c r pl s).2:=by
 unfold gA
 split
 ·intro p hp
  rcases List.mem_append.mp hp with hp|hp
  ·exact h p hp
  ·simp at hp;subst hp;exact ⟨h0,h1⟩
 ·exact h
theorem rq{N:Nat}{x:Str}{pl:List Int}{body:Nat->Sx->Bool×Sx}(h1:pl.length+1<=N)(hb:∀t s,fv N s->fv N (body t s).2):∀(f t:Nat) (s:Sx),fv N s->fv N (dy c x pl body f t s).2
 |0,_,s,h=>h
 |f+1,t,s,h=>by
  have h2:fv N (nt c (pl++[(t:Int)]) (lk s.nums x) s).2:=AF (by simp) (by simp;lia) h
  unfold dy
  split
  ·split
   ·split
    ·exact rq h1 hb f (t+1) _ (hb t _ h2)
    ·exact hb t _ h2
   ·exact h2
  ·exact h2
mutual
theorem CQ{N:Nat}:∀(r:Rw) (pl:List Int) (s:Sx),pl≠[]->pl.length+2*hR r+1<=N->fv N s->fv N (exR c r pl s).2
 |.ifr x a b,pl,s,h0,h1,h=>by
  simp only [hR] at h1;have h2:fv N (nt c pl (lk s.nums x) s).2:=AF h0 (by lia) h
  unfold exR
  split
  ·split
   ·exact gB a _ _ _ (by simp;lia) h2
   ·exact gB b _ _ _ (by simp;lia) h2
  ·exact h2
 |.again x a,pl,s,h0,h1,h=>by
  simp only [hR] at h1;unfold exR;exact rq (by lia) (fun t s hs=>gB a _ _ _ (by simp;lia) hs) _ _ _ h
 |.put x k,pl,s,h0,h1,h=>by rw [bC rfl];exact iV h0 (by lia) h
 |.take x k,pl,s,h0,h1,h=>by rw [bC rfl];exact iV h0 (by lia) h
 |.pick x k,pl,s,h0,h1,h=>by rw [bC rfl];exact iV h0 (by lia) h
 |.two w x y z,pl,s,h0,h1,h=>by rw [bC rfl];exact iV h0 (by lia) h
theorem gB{N:Nat}:∀(rs:List Rw) (pl:List Int) (j:Nat) (s:Sx),pl.length+2*di rs+2<=N->fv N s->fv N (cN c rs pl j s).2
 |[],_,_,s,_,h=>by simpa only [cN] using h
 |r::rs,pl,j,s,h1,h=>by
  simp only [di] at h1;have h2:fv N (exR c r (pl++[(j:Int)]) s).2:=CQ r _ _ (by simp) (by simp;lia) h
  unfold cN
  split
  ·exact gB rs _ _ _ (by lia) h2
  ·exact h2
end
variable {P:List (List Int×Int)}{a:Int}
end
end Tw
namespace Tw
open PySem L2 L3
section
variable {ad:Ad}{c:Cf}{names:List Str}{rows:List Rw}{mk:Str}{M:Mem}{nums:List Int}
def ui(names:List Str)(r:Bool×Sx):D:=.tup [.lst (sw r.2.steps),eR names r]
theorem jO{Q:DK}{EE:DX}{b:BxQ EE fun d M'=>vW d M' Q}(p:PlOk c names rows nums)(h:Q (ui names (b_ c names rows nums)) M):
  calls (jo ad) EE [planD c names rows mk,standD nums c.pieces,.int (c.most:Nat)] M (fun d M'=>vW d M' Q) b:=by
 refine calls_of fun Q' E' hq _=>u9 p fun l hl=>hq _ _ ?_;unfold ui eR at h;unfold eR;cases e:(b_ c names rows nums).1 with
 |true=>
  rw [e,if_pos rfl] at h;rw [if_pos rfl];simp! [Mem.upd_del,ai hl];exact h
 |false=>
  rw [e,if_neg (by simp)] at h
  rw [if_neg (by simp)]
  simp! [Mem.upd_del,ai hl];exact h
theorem v5(p:PlOk c names rows nums):(b_ c names rows nums).2.steps.length<=c.most:=(ff (c:=c) rows [] 0 ⟨names.zip nums,[]⟩).2 (Nat.zero_le _)
theorem C3(p:PlOk c names rows nums):fv 100 (b_ c names rows nums).2:=gB rows [] 0 _ (by have:=p.h;simp;lia) (fun _ h=>by simp at h)
theorem xI{n:Nat}{r:Bool×Sx}(h:names.length<=1000):tM (n+1) (eR names r):=by
 unfold eR
 split
 ·refine ⟨by simp;lia,fun x hx=>?_⟩
  simp only [List.mem_map] at hx;obtain ⟨y,_,rfl⟩:=hx;cases n<;>trivial
 ·trivial
theorem tD{n:Nat}{l:List (List Int×Int)}(h1:l.length<=10000)(h2:∀p∈l,p.1.length<=1000):tM (n+3) (.lst (sw l)):=by
 refine ⟨by simp [sw];lia,fun x hx=>?_⟩
 simp only [sw,List.mem_map] at hx;obtain ⟨p,hp,rfl⟩:=hx;refine ⟨by simp,fun y hy=>?_⟩
 simp only [List.mem_cons,List.not_mem_nil,or_false] at hy;rcases hy with rfl|rfl
 ·refine ⟨by have:=h2 p hp;simp;lia,fun z hz=>?_⟩
  simp only [List.mem_map] at hz;obtain ⟨w,_,rfl⟩:=hz;cases n<;>trivial
 ·trivial
theorem xw{n:Nat}(p:PlOk c names rows nums):tM (n+4) (ui names (b_ c names rows nums)):=by
 refine ⟨by simp,fun x hx=>?_⟩
 simp only [List.mem_cons,List.not_mem_nil,or_false] at hx;rcases hx with rfl|rfl
 ·have:=v5 p
  have:=p.co.most;exact tD (by lia) fun q hq=>by have:=(C3 p q hq).2;lia
 ·exact xI p.l1
end
section
variable {ad:Ad}{M:Mem}{Q:DK}{EE:DX}{b:BxQ EE Q}{k:Pt}
theorem vI{ns:List Int}(h:∀(k:Pt) M',Has k M'->(∀b,b≠k.p->b≠k.q->M' b=M b)->Q (.ref k.p) M'):calls (oK ad) EE [.ml (ns.map D.int)] M Q b:=
 calls_of fun Q' E' hq _=>wr fun k M1 h1 h2=>hq _ _ (h k M1 h1 h2)
theorem tz{v:Int}(v0:0<=v)(v60:v<=60)(hp:Has k M)(h:∀(m many:Int) (names:List Str) (rows:List Rw) (mk:Str) (M':Mem),PlG m many names rows mk->Kq k M M'->Q (jJ m many names rows mk) M'):calls (nw ad) EE [.ref k.p,.int v] M Q b:=
 calls_of fun Q' E' hq _=>tj v0 v60 hp fun m many names rows mk M2 pl k2=>hq _ _ (h m many names rows mk M2 pl k2)
theorem qd{m many:Int}{names:List Str}{rows:List Rw}{mk:Str}(hp:Has k M)(pl:PlG m many names rows mk)
  (h:∀(nums pieces:List Int) (M':Mem),nums.length=names.length->(pieces.length:Int)=many->(∀v∈nums,0<=v/\v<m)->(∀v∈pieces,0<=v/\v<m)->Kq k M M'->Q (standD nums pieces) M'):calls (ut ad) EE [.ref k.p,jJ m many names rows mk] M Q b:=
 calls_of fun Q' E' hq _=>qo hp pl fun nums pieces M3 ln lp rn rp k3=>hq _ _ (h nums pieces M3 ln lp rn rp k3)
theorem ee{n:Nat}{x y:D}(e:x=y)(hx:tM n x)(h:Q (.bl true) M):calls (S_q11 ad (n+1)) EE [x,y] M Q b:=by
 subst e;exact bh (fun Q' E' q=>fO n x M Q' E' hx q) h
end
end Tw
namespace Tw
open PySem L2 L3 LS
mutual
def sR:Rw->List Rw
 |.ifr _ a b=>cU a++cU b
 |.again _ a=>cU a
 |.put x k=>[.put x k]
 |.take x i=>[.take x i]
 |.pick x y=>[.pick x y]
 |.two w x y z=>[.two w x y z]
def cU:List Rw->List Rw
 |[]=>[]
 |r::rs=>sR r++cU rs
end
def wR:Rw->List (List Rw)
 |.ifr _ a b=>[a,b]
 |.again _ a=>[a]
 |_=>[]
def tR:Rw->List Rw
 |.ifr _ _ _=>[]
 |.again _ _=>[]
 |r=>[r]
theorem AU(r:Rw):sR r=tR r++(wR r).flatMap cU:=by cases r<;>simp [sR,tR,wR]
theorem j8:∀{a b:List Rw},cU (a++b)=cU a++cU b
 |[],b=>by simp [cU]
 |r::a,b=>by simp only [List.cons_append,cU,j8,List.append_assoc]
mutual
theorem vO:∀r:Rw,(sR r).length<=cR r
 |.ifr _ a b=>by have:=cW a;have:=cW b;simp only [sR,cR,List.length_append];lia
 |.again _ a=>by have:=cW a;simp only [sR,cR];lia
 |.put _ _=>by simp [sR,cR]
 |.take _ _=>by simp [sR,cR]
 |.pick _ _=>by simp [sR,cR]
 |.two _ _ _ _=>by simp [sR,cR]
theorem cW:∀rs:List Rw,(cU rs).length<=cRs rs
 |[]=>by simp [cU]
 |r::rs=>by have:=vO r;have:=cW rs;simp only [cU,cRs,List.length_append];lia
end
theorem FQ{r:Rw}{a:List Rw}(h:a∈wR r):di a<hR r/\cRs a<cR r:=by
 cases r with
 |ifr x a b=>simp [wR] at h;rcases h with rfl|rfl<;>(simp only [hR,cR];lia)
 |again x a=>simp [wR] at h;subst h;simp only [hR,cR];lia
 |_=>simp [wR] at h
theorem Er{r:Rw}{names:List Str}{m many:Int}(o:OkR names m many r){a:List Rw}(h:a∈wR r):bV names m many a:=by
 cases r with
 |ifr x a b=>simp [wR] at h;rcases h with rfl|rfl;exact o.2.1;exact o.2.2
 |again x a=>simp [wR] at h;subst h;exact o.2
 |_=>simp [wR] at h
theorem lH:∀{rs:List Rw} {r:Rw},r∈rs->hR r<=di rs
 |s::rs,r,h=>by
  rcases List.mem_cons.mp h with rfl|h
  ·simp only [di];lia
  ·have:=lH h;simp only [di];lia
theorem k6{names:List Str}{m many:Int}:∀{rs:List Rw} {r:Rw},bV names m many rs->r∈rs->OkR names m many r
 |s::rs,r,o,h=>by
  rcases List.mem_cons.mp h with rfl|h
  ·exact o.1
  ·exact k6 o.2 h
section
variable {ad:Ad}{M:Mem}{Q:DK}{E:DX}{names:List Str}{m many:Int}
def jk(a:List Rw):D:=.tup (ay a)
theorem mz{r:Rw}(o:OkR names m many r)(h:∀p,M p=none->Q (.ref p) (M.upd p (.lst ((wR r).map jk)))):qi ad [r.d] M Q E:=by
 cases r with
 |ifr x a b=>
  simp! [mP,iE,Rw.d,atI_0,atI_2,atI_3];exact ⟨szl (by decide),fun p hp=>drp_id (h p hp)⟩
 |again x a=>
  simp! [mP,iE,Rw.d,atI_0,atI_2];exact ⟨szl (by decide),fun p hp=>drp_id (h p hp)⟩
 |two w x y z=>
  rcases o.1 with rfl|rfl|rfl|rfl
  all_goals
   simp! [mP,iE,Rw.d,atI_0];exact ⟨szl (by decide),fun p hp=>drp_id (h p hp)⟩
 |_=>
  simp! [mP,iE,Rw.d,atI_0];exact ⟨szl (by decide),fun p hp=>drp_id (h p hp)⟩
end
end Tw
namespace Tw
open PySem L2 L3 LS
def oU:Rw->Str
 |.ifr _ _ _=>"if"
 |.again _ _=>"again"
 |.put _ _=>"put"
 |.take _ _=>"take"
 |.pick _ _=>"pick"
 |.two w _ _ _=>w
def reR:Rw->List D
 |.ifr _ a b=>[.tup (ay a),.tup (ay b)]
 |.again _ a=>[.tup (ay a)]
 |.put _ k=>[.int k]
 |.take _ k=>[.int k]
 |.pick _ y=>[.str y]
 |.two _ _ y z=>[.str y,.str z]
theorem rD(r:Rw):r.d=.tup (.str (oU r)::.str (o_ r)::reR r):=by cases r<;>simp only [Rw.d,oU,o_,reR]
section
variable {ad:Ad}{names:List Str}{m many:Int}
theorem Bk{r:Rw}(o:OkR names m many r):(oU r="if"\/oU r="again")/\tR r=[]/\reR r=(wR r).map jk\/(oU r≠"if"/\oU r≠"again")/\tR r=[r]/\wR r=[]:=by
 cases r with
 |ifr x a b=>exact .inl ⟨.inl rfl,rfl,rfl⟩
 |again x a=>exact .inl ⟨.inr rfl,rfl,rfl⟩
 |put x a=>exact .inr ⟨⟨by simp only [oU];decide +kernel,by simp only [oU];decide +kernel⟩,rfl,rfl⟩
 |take x a=>exact .inr ⟨⟨by simp only [oU];decide +kernel,by simp only [oU];decide +kernel⟩,rfl,rfl⟩
 |pick x a=>exact .inr ⟨⟨by simp only [oU];decide +kernel,by simp only [oU];decide +kernel⟩,rfl,rfl⟩
 |two w x y z=>
  rcases o.1 with rfl|rfl|rfl|rfl
  all_goals exact .inr ⟨⟨by simp only [oU];decide +kernel,by simp only [oU];decide +kernel⟩,rfl,rfl⟩
theorem tY(dn:List Rw)(r:Rw):cU (dn++[r])=cU dn++(tR r++(wR r).flatMap cU):=by
 rw [j8];simp only [cU,List.append_nil,AU]
theorem tU(r:Rw):(tR r++(wR r).flatMap cU).length<=cR r:=by rw [<- AU];exact vO r
theorem dR:∀(n:Nat) (rows:List Rw),di rows<n->bV names m many rows->cRs rows<=60->∀(M:Mem) (Q:DK) (E:DX),(∀p,M p=none->Q (.ref p) (M.upd p (.lst (ay (cU rows)))))->S_q2 ad n [.tup (ay rows)] M Q E
 |0,rows,hn,_,_,M,Q,E,h=>by lia
 |n+1,rows,hn,ok,cn,M,Q,E,h=>by
  simp! [u_q2,wQ,↓dFor];refine ⟨szl (by decide),fun p hp=>?_⟩
  refine forD_inv (fun xs δ N=>∃(dn rs:List Rw) (c2 c3:Option D),rows=dn++rs/\xs=ay rs/\δ=[some (.tup (ay rows)),some (.ref p),c2,c3]/\N=M.upd p (.lst (ay (cU dn)))) (fun _ _ _ _=>aU) ?_ ?_ _ _ _ ⟨[],rows,_,_,rfl,rfl,rfl,rfl⟩
  ·rintro δ N ⟨dn,rs,c2,c3,e1,e2,rfl,rfl⟩
   have:rs=[]:=by cases rs with
    |nil=>rfl
    |cons r rs=>simp [ay] at e2
   subst this;rw [List.append_nil] at e1;subst e1;simp! [];exact drp_id (h p hp)
  ·rintro x xs δ N ⟨dn,rs,c2,c3,e1,e2,rfl,rfl⟩ D' hnx _ _ _
   cases rs with
   |nil=>simp [ay] at e2
   |cons r rs=>
    simp only [ay,List.cons.injEq] at e2;obtain ⟨rfl,rfl⟩:=e2;have hr:r∈rows:=by rw [e1];simp
    have okr:=k6 ok hr;have hh:=lH hr;have hln:(cU dn).length+cR r<=60:=by
     have:=cW dn;have:cRs rows=cRs dn+cRs (r::rs):=by rw [e1,cF]
     simp only [cRs] at this;lia
    have hwl:=tU r;have hnx':∀c2 c3,D'.nx [some (.tup (ay rows)),some (.ref p),c2,c3] (M.upd p (.lst (ay (cU (dn++[r]))))):=fun c2 c3=>hnx _ _ ⟨dn++[r],rs,c2,c3,by rw [e1];simp,rfl,rfl,rfl⟩
    -- the parts within
    have parts:∀c2,(dFor (dw (aF (ax (qi ad) (drpX E) 1 (ac (ae 2) ak)))) (au 3) (cf (oq "list" gp (ae 1) (ac (aF (ax (S_q2 ad n) (drpX E) 1 (ac (ae 3) ak))) ak)))) D' [some (.tup (ay rows)),some (.ref p),some r.d,c2] (M.upd p (.lst (ay (cU dn++tR r)))):=by
     intro c2;simp! [↓dFor];refine calls_of fun Q' E' hq _=>mz okr fun q hqn=>hq _ _ ?_;simp! [Mem.upd_del,ai hqn];refine forD_inv (fun xs δ N=>∃(d2 r2:List (List Rw)) (c3:Option D),wR r=d2++r2/\xs=r2.map jk/\δ=[some (.tup (ay rows)),some (.ref p),some r.d,c3]/\N=M.upd p (.lst (ay (cU dn++(tR r++d2.flatMap cU))))) (fun _ _ _ _=>aU) ?_ ?_ _ _ _ ⟨[],wR r,_,rfl,rfl,rfl,by simp⟩
     ·rintro δ N ⟨d2,r2,c3,e1,e2,rfl,rfl⟩
      have:r2=[]:=by cases r2 with
       |nil=>rfl
       |cons r rs=>simp at e2
      subst this;rw [List.append_nil] at e1;rw [<- e1,<- tY];exact hnx' _ _
     ·rintro x xs δ N ⟨d2,r2,c3,e1,e2,rfl,rfl⟩ D2 hnx2 _ _ _
      cases r2 with
      |nil=>simp at e2
      |cons a r2=>
       simp only [List.map_cons,List.cons.injEq] at e2;obtain ⟨rfl,rfl⟩:=e2;have ha:a∈wR r:=by rw [e1];simp
       have hlt:=FQ ha;have oka:=Er okr ha;have hl2:(tR r).length+((d2.flatMap cU).length+(cU a).length)<=cR r:=by
        rw [e1] at hwl;simp only [List.flatMap_append,List.flatMap_cons,List.length_append] at hwl;lia
       simp! [jk];refine calls_of fun Q' E' hq _=>dR n a (by lia) oka (by lia) _ _ _ fun q2 hq2=>hq _ _ ?_
       simp! [Mem.upd_del,ai hq2,Mem.upd_same,Mem.upd_upd];refine ⟨szl ?_,?_⟩
       ·simp only [bn,List.length_append];lia
       ·exact hnx2 _ _ ⟨d2++[a],r2,_,by rw [e1];simp,rfl,rfl,by rw [<- bW];simp⟩
    rcases Bk okr with ⟨hw,ht,_⟩|⟨⟨n1,n2⟩,ht,_⟩
    ·have hp2:=parts
     rw [ht,List.append_nil] at hp2;rcases hw with hw|hw
     ·rw [rD r] at hp2 ⊢
      simp! [hw,atI_0];rw [if_neg (by decide),<- hw]
      exact hp2 _
     ·rw [rD r] at hp2 ⊢
      simp! [hw,atI_0];rw [if_pos (by decide),if_neg (by decide),<- hw]
      exact hp2 _
    ·have e1:(oU r="if")=False:=eq_false n1
     have e2:(oU r="again")=False:=eq_false n2;have hp2:=parts;rw [ht,bW] at hp2;simp only [ay] at hp2;rw [rD r] at hp2 ⊢;simp! [e1,e2,atI_0];rw [if_pos (by decide),if_pos (by decide)]
     exact ⟨by rw [bn];exact cX (by lia),by rw [Mem.upd_upd];exact hp2 _⟩
end
end Tw
namespace Tw
open PySem L2 L3 LS
def x6(rows:List Rw):List Str:=(cU rows).map o_
theorem z8{rows:List Rw}:(x6 rows).length<=cRs rows:=by unfold x6;rw [List.length_map];exact cW rows
theorem strsOf_map:∀names:List Str,dQ (names.map D.str)=some names
 |[]=>rfl
 |x::names=>by rw [List.map_cons,dQ,strsOf_map names]
section
variable {ad:Ad}{names:List Str}{m many:Int}
theorem kG{rows:List Rw}{M:Mem}{Q:DK}{E:DX}(hn:di rows<=4)(ok:bV names m many rows)(cn:cRs rows<=60)(h:∀p,M p=none->Q (.ref p) (M.upd p (.lst ((d_ oStr (x6 rows)).map D.str)))):mB ad [.tup (ay rows)] M Q E:=by
 simp! [Es,nT,↓aP];refine calls_of fun Q' E' hq _=>dR 24 rows (by lia) ok cn _ _ _ fun p hp=>hq _ _ ?_
 simp! [Mem.upd_del,ai hp];have hl:=cW rows;refine bg (fun xs acc δ N=>∃(dn rs:List Rw) (c0:Option D),cU rows=dn++rs/\xs=ay rs/\acc=(dn.map o_).map D.str/\δ=[c0]/\N=M) (fun _ _ _ _ _=>aU) ?_ ?_ ?_ _ _ _ _ ⟨[],cU rows,none,rfl,rfl,rfl,rfl,rfl⟩
 ·rintro acc δ N ⟨dn,rs,c0,e1,e2,rfl,rfl,rfl⟩ p hp
  have:rs=[]:=by cases rs with
   |nil=>rfl
   |cons r rs=>simp [ay] at e2
  subst this;rw [List.append_nil] at e1;rw [<- e1];simp! [Mem.upd_del,ai hp,strsOf_map];exact ⟨by rw [List.length_map];lia,fun p hp=>drp_id (h p hp)⟩
 ·rintro x xs acc δ N ⟨dn,rs,c0,e1,e2,rfl,rfl,rfl⟩ N' hN _
  cases rs with
  |nil=>simp [ay] at e2
  |cons r rs=>
   simp only [ay,List.cons.injEq] at e2;obtain ⟨rfl,rfl⟩:=e2;have hd:dn.length<=60:=by have:=congrArg List.length e1;simp at this;lia
   rw [rD r];simp! [atI_1];exact hN _ _ _ (by simp;exact cX (by lia)) ⟨dn++[r],rs,_,by rw [e1];simp,rfl,by simp,rfl,rfl⟩
 ·rintro x xs acc δ N ⟨dn,rs,c0,e1,e2,rfl,rfl,rfl⟩
  have hd:dn.length<=60:=by have:=congrArg List.length e1;simp at this;lia
  simp;exact cX (by lia)
end
theorem ku{n:Nat}:∀ss:List Str,fits n (ss.map D.str)=true
 |[]=>rfl
 |x::ss=>by rw [List.map_cons,fits,ku ss,cP];rfl
theorem jT(x:Str):∀ss:List Str,((ss.map D.str).any fun d=>ba d (.str x))=decide (x∈ss)
 |[]=>by simp
 |y::ss=>by
  rw [List.map_cons,List.any_cons,jT x ss,ba]
  by_cases e:y=x
  ·subst e;simp
  ·simp [e,Ne.symm e]
end Tw
namespace Tw
open PySem L2 L3 LS
def tk1:Rw->Option Int
 |.take _ i=>some i
 |_=>none
def tf(l:List Rw):List Int:=l.filterMap tk1
def xa:Rw->Bool
 |.pick _ _=>true
 |_=>false
mutual
theorem ET{names:List Str}{m many:Int}:∀r:Rw,OkR names m many r->∀s∈sR r,OkR names m many s
 |.ifr _ a b,o,s,h=>by
  simp only [sR,List.mem_append] at h;rcases h with h|h
  ·exact gL a o.2.1 s h
  ·exact gL b o.2.2 s h
 |.again _ a,o,s,h=>gL a o.2 s h
 |.put _ _,o,s,h=>by simp only [sR,List.mem_singleton] at h;subst h;exact o
 |.take _ _,o,s,h=>by simp only [sR,List.mem_singleton] at h;subst h;exact o
 |.pick _ _,o,s,h=>by simp only [sR,List.mem_singleton] at h;subst h;exact o
 |.two _ _ _ _,o,s,h=>by simp only [sR,List.mem_singleton] at h;subst h;exact o
theorem gL{names:List Str}{m many:Int}:∀rs:List Rw,bV names m many rs->∀s∈cU rs,OkR names m many s
 |[],_,s,h=>by simp [cU] at h
 |r::rs,o,s,h=>by
  simp only [cU,List.mem_append] at h;rcases h with h|h
  ·exact ET r o.1 s h
  ·exact gL rs o.2 s h
end
section
variable {ad:Ad}{names:List Str}{m many:Int}{M:Mem}
theorem s_{l:List Rw}(ok:∀r∈l,OkR names m many r)(hl:l.length<=60){okM:Mem->Prop}(ho:okM M){Q:List D->Mem->Prop}{b:BxC (au 0) (aI (aB dh (aB bd (ae 0) (dC (.int 0))) (dC (.str "take")))) (aB bd (ae 0) (dC (.int 2))) okM Q}{c:Option D}
  (h:Q ((tf l).map D.int) M):cD (au 0) (aI (aB dh (aB bd (ae 0) (dC (.int 0))) (dC (.str "take")))) (aB bd (ae 0) (dC (.int 2))) okM Q b (ay l) [] [c] M:=by
 refine bg (fun xs acc δ N=>∃(dn rs:List Rw) (c0:Option D),l=dn++rs/\xs=ay rs/\acc=(tf dn).map D.int/\δ=[c0]/\N=M) (fun _ _ _ _ z=>by obtain ⟨_,_,_,_,_,_,_,e⟩:=z;subst e;exact ho) ?_ ?_ ?_ _ _ _ _ ⟨[],l,c,rfl,rfl,rfl,rfl,rfl⟩
 ·rintro acc δ N ⟨dn,rs,c0,e1,e2,rfl,rfl,rfl⟩
  have:rs=[]:=by cases rs with
   |nil=>rfl
   |cons r rs=>simp [ay] at e2
  subst this;rw [List.append_nil] at e1;rw [<- e1];exact h
 ·rintro x xs acc δ N ⟨dn,rs,c0,e1,e2,rfl,rfl,rfl⟩ N' hN hN0
  cases rs with
  |nil=>simp [ay] at e2
  |cons r rs=>
   simp only [ay,List.cons.injEq] at e2;obtain ⟨rfl,rfl⟩:=e2;have hd:dn.length<=60:=by have:=congrArg List.length e1;simp at this;lia
   have hf:(tf dn).length<=dn.length:=List.length_filterMap_le ..;have okr:=ok r (by rw [e1];simp)
   have no:tk1 r=none->∀c0,N' false .non [c0] N:=fun z c0=>hN0 _ _ _ ⟨dn++[r],rs,c0,by rw [e1];simp,rfl,by simp [tf,z],rfl,rfl⟩
   cases r with
   |take x i=>
    simp! [Rw.d,atI_0,atI_2];exact hN _ _ _ (by simp;exact cX (by lia)) ⟨dn++[.take x i],rs,_,by rw [e1];simp,rfl,by simp [tf,tk1],rfl,rfl⟩
   |two w x y z=>
    rcases okr.1 with rfl|rfl|rfl|rfl
    all_goals
     simp! [Rw.d,atI_0];exact no rfl _
   |_=>
    simp! [Rw.d,atI_0];exact no rfl _
 ·rintro x xs acc δ N ⟨dn,rs,c0,e1,e2,rfl,rfl,rfl⟩
  have hd:dn.length<=60:=by have:=congrArg List.length e1;simp at this;lia
  have hf:(tf dn).length<=dn.length:=List.length_filterMap_le ..;simp;exact cX (by lia)
theorem wu{l:List Rw}(ok:∀r∈l,OkR names m many r)(hl:l.length<=60){okM:Mem->Prop}(ho:okM M){Q:List D->Mem->Prop}{b:BxC (au 0) cg (aB dh (aB bd (ae 0) (dC (.int 0))) (dC (.str "pick"))) okM Q}{c:Option D}
  (h:Q ((l.map xa).map D.bl) M):cD (au 0) cg (aB dh (aB bd (ae 0) (dC (.int 0))) (dC (.str "pick"))) okM Q b (ay l) [] [c] M:=by
 refine bg (fun xs acc δ N=>∃(dn rs:List Rw) (c0:Option D),l=dn++rs/\xs=ay rs/\acc=(dn.map xa).map D.bl/\δ=[c0]/\N=M) (fun _ _ _ _ z=>by obtain ⟨_,_,_,_,_,_,_,e⟩:=z;subst e;exact ho) ?_ ?_ ?_ _ _ _ _ ⟨[],l,c,rfl,rfl,rfl,rfl,rfl⟩
 ·rintro acc δ N ⟨dn,rs,c0,e1,e2,rfl,rfl,rfl⟩
  have:rs=[]:=by cases rs with
   |nil=>rfl
   |cons r rs=>simp [ay] at e2
  subst this;rw [List.append_nil] at e1;rw [<- e1];exact h
 ·rintro x xs acc δ N ⟨dn,rs,c0,e1,e2,rfl,rfl,rfl⟩ N' hN hN0
  cases rs with
  |nil=>simp [ay] at e2
  |cons r rs=>
   simp only [ay,List.cons.injEq] at e2;obtain ⟨rfl,rfl⟩:=e2;have hd:dn.length<=60:=by have:=congrArg List.length e1;simp at this;lia
   have okr:=ok r (by rw [e1];simp)
   have yes:∀c0 z,xa r=z->N' true (.bl z) [c0] N:=fun c0 z hz=>hN _ _ _ (by simp;exact cX (by lia)) ⟨dn++[r],rs,c0,by rw [e1];simp,rfl,by simp [hz],rfl,rfl⟩
   cases r with
   |two w x y z=>
    rcases okr.1 with rfl|rfl|rfl|rfl
    all_goals
     simp! [Rw.d,atI_0];exact yes _ _ rfl
   |_=>
    simp! [Rw.d,atI_0];exact yes _ _ rfl
 ·rintro x xs acc δ N ⟨dn,rs,c0,e1,e2,rfl,rfl,rfl⟩
  have hd:dn.length<=60:=by have:=congrArg List.length e1;simp at this;lia
  simp;exact cX (by lia)
theorem fq:∀bs:List Bool,gi (bs.map D.bl)=some bs
 |[]=>rfl
 |b::bs=>by rw [List.map_cons,gi,fq bs]
def pO(many:Int)(rows:List Rw):List Int:=if (cU rows).any xa=true then (List.range many.toNat).map (fun (i:Nat)=>(i:Int)) else d_ oJ (tf (cU rows))
theorem qR(n:Nat):gj 0 n=((List.range n).map fun (i:Nat)=>(i:Int)).map D.int:=by
 unfold gj;rw [List.map_map];exact List.map_congr_left fun i _=>by simp
theorem ot{rows:List Rw}{Q:DK}{E:DX}{dm dn dr dk:D}(k0:0<=many)(k1:many<=40)(hn:di rows<=4)(ok:bV names m many rows)(cn:cRs rows<=60)(h:∀p,M p=none->Q (.ref p) (M.upd p (.lst ((pO many rows).map D.int)))):nA ad [.tup [dm,dn,.int many,dr,dk],.tup (ay rows)] M Q E:=by
 have hl:=cW rows;have hok:=gL rows ok;have ho:∀ys,DIt.ok ⟨ys,srcOf (.lst (ay (cU rows))) (ay (cU rows))⟩ M:=fun ys=>aU;simp! [Fl,mm,↓aP];refine calls_of fun Q' E' hq _=>dR 24 rows (by lia) ok cn _ _ _ fun p hp=>hq _ _ ?_
 simp! [Mem.upd_del,ai hp,↓aP];refine wu hok (by lia) aU fun p hp=>?_
 simp! [Mem.upd_del,ai hp,fq,↓aP];have ea:((cU rows).map xa).any id=(cU rows).any xa:=by rw [List.any_map];rfl
 rw [ea];unfold pO at h;cases hc:(cU rows).any xa with
 |true=>
  rw [hc,if_pos rfl,<- qR] at h;simp! [atI_2];exact ⟨⟨by lia,by lia⟩,fun p hp=>drp_id (h p hp)⟩
 |false=>
  rw [hc,if_neg (by simp)] at h
  simp! [↓aP];refine s_ hok (by lia) aU fun p hp=>?_
  simp! [Mem.upd_del,ai hp,k7];have hf:(tf (cU rows)).length<=(cU rows).length:=List.length_filterMap_le ..;exact ⟨by lia,fun p hp=>drp_id (h p hp)⟩
end
end Tw
namespace Tw
open PySem L2 L3 LS
def bS(l:List (Str×Str)):List (bR×D):=l.map fun p=>(Sum.inr p.1,D.str p.2)
def ph(l:List (Str×Str))(x:Str):Str:=((l.find? fun p=>decide (p.1=x)).map (·.2)).getD ""
theorem valD_kvs:∀{l:List (Str×Str)} {x:Str},x∈l.map (·.1)->iC (bS l) (Sum.inr x)=some (.str (ph l x))
 |[],x,h=>by simp at h
 |p::l,x,h=>by
  unfold iC bS ph
  by_cases c:p.1=x
  ·simp [c]
  ·have h2:x∈l.map (·.1):=by
    rcases List.mem_cons.mp h with z|z
    ·exact absurd z.symm c
    ·exact z
   have:=valD_kvs h2;unfold iC bS ph at this;simpa [c] using this
theorem w6{l:List (Str×Str)}{x v:Str}(h:x∉l.map (·.1)):fU (bS l) (Sum.inr x) (.str v)=bS (l++[(x,v)]):=by
 unfold fU;rw [if_neg]
 ·simp [bS]
 ·intro z
  rw [List.any_eq_true] at z;obtain ⟨q,hq,e⟩:=z;simp only [bS,List.mem_map] at hq;obtain ⟨r,hr,rfl⟩:=hq;simp at e;exact h (List.mem_map.mpr ⟨r,hr,e⟩)
mutual
def mR(l:List (Str×Str)):Rw->Rw
 |.ifr x a b=>.ifr (ph l x) (dI l a) (dI l b)
 |.again x a=>.again (ph l x) (dI l a)
 |.put x k=>.put (ph l x) k
 |.take x k=>.take (ph l x) k
 |.pick x y=>.pick (ph l x) (ph l y)
 |.two w x y z=>.two w (ph l x) (ph l y) (ph l z)
def dI(l:List (Str×Str)):List Rw->List Rw
 |[]=>[]
 |r::rs=>mR l r::dI l rs
end
theorem jI(l:List (Str×Str)):∀a b:List Rw,dI l (a++b)=dI l a++dI l b
 |[],b=>rfl
 |r::a,b=>by simp only [List.cons_append,dI,jI l a b]
theorem cI(l:List (Str×Str)):∀a:List Rw,(dI l a).length=a.length
 |[]=>rfl
 |r::a=>by simp [dI,cI l a]
mutual
theorem mR_h(l:List (Str×Str)):∀r:Rw,hR (mR l r)=hR r
 |.ifr x a b=>by simp only [mR,hR,mw l a,mw l b]
 |.again x a=>by simp only [mR,hR,mw l a]
 |.put _ _=>by simp [mR,hR]
 |.take _ _=>by simp [mR,hR]
 |.pick _ _=>by simp [mR,hR]
 |.two _ _ _ _=>by simp [mR,hR]
theorem mw(l:List (Str×Str)):∀a:List Rw,di (dI l a)=di a
 |[]=>rfl
 |r::a=>by simp only [dI,di,mR_h l r,mw l a]
end
mutual
theorem mR_c(l:List (Str×Str)):∀r:Rw,cR (mR l r)=cR r
 |.ifr x a b=>by simp only [mR,cR,on l a,on l b]
 |.again x a=>by simp only [mR,cR,on l a]
 |.put _ _=>by simp [mR,cR]
 |.take _ _=>by simp [mR,cR]
 |.pick _ _=>by simp [mR,cR]
 |.two _ _ _ _=>by simp [mR,cR]
theorem on(l:List (Str×Str)):∀a:List Rw,cRs (dI l a)=cRs a
 |[]=>rfl
 |r::a=>by simp only [dI,cRs,mR_c l r,on l a]
end
def rZ(l:List (Str×Str)):D->D
 |.str x=>.str (ph l x)
 |d=>d
theorem i17:bQ "int" "str"=false:=by decide +kernel
section
variable {ad:Ad}{names:List Str}{m many:Int}{l:List (Str×Str)}{d:Addr}{M:Mem}
theorem db{es:List D}(hM:M d=some (.dK (bS l)))(he:∀e∈es,(∃x,e=.str x/\x∈l.map (·.1))\/∃k,e=.int k)(hlen:es.length<=5){okM:Mem->Prop}(ho:okM M){Q:List D->Mem->Prop}{b:BxC (au 0) cg (vJ (cY (c9 bY (ac (ae 0) (ac (dC (.ty "str")) ak)))) (aB bd (ae 1) (ae 0)) (ae 0)) okM Q}{c:Option D}
  (h:Q (es.map (rZ l)) M):cD (au 0) cg (vJ (cY (c9 bY (ac (ae 0) (ac (dC (.ty "str")) ak)))) (aB bd (ae 1) (ae 0)) (ae 0)) okM Q b es [] [c,some (.ref d)] M:=by
 refine bg (fun xs acc δ N=>∃(dn:List D) (c0:Option D),es=dn++xs/\acc=dn.map (rZ l)/\δ=[c0,some (.ref d)]/\N=M) (fun _ _ _ _ z=>by obtain ⟨_,_,_,_,_,e⟩:=z;subst e;exact ho) ?_ ?_ ?_ _ _ _ _ ⟨[],c,rfl,rfl,rfl,rfl⟩
 ·rintro acc δ N ⟨dn,c0,e1,rfl,rfl,rfl⟩
  rw [List.append_nil] at e1;rw [<- e1];exact h
 ·rintro x xs acc δ N ⟨dn,c0,e1,rfl,rfl,rfl⟩ N' hN hN0
  have hd:dn.length<=5:=by have:=congrArg List.length e1;simp at this;lia
  have hx:=he x (by rw [e1];simp)
  have e2:es=(dn++[x])++xs:=by rw [e1];simp
  rcases hx with ⟨y,rfl,hy⟩|⟨k,rfl⟩
  ·simp! [oQ,t3,hM,valD_kvs hy]
   exact hN _ _ _ (by simp;exact cX (by lia)) ⟨dn++[.str y],_,e2,by simp [rZ],rfl,rfl⟩
  ·simp! [i17,t3]
   exact hN _ _ _ (by simp;exact cX (by lia)) ⟨dn++[.int k],_,e2,by simp [rZ],rfl,rfl⟩
 ·rintro x xs acc δ N ⟨dn,c0,e1,rfl,rfl,rfl⟩
  have hd:dn.length<=5:=by have:=congrArg List.length e1;simp at this;lia
  simp;exact cX (by lia)
theorem nc{n:Nat}{as:List (List Rw)}(hr:∀a∈as,∀(M:Mem) (Q:DK) (E:DX),M d=some (.dK (bS l))->Q (jk (dI l a)) M->S_q3 ad n [.tup (ay a),.ref d] M Q E)(hM:M d=some (.dK (bS l)))(hlen:as.length<=5){okM:Mem->Prop}(ho:okM M){Q:List D->Mem->Prop}{b:BxC (au 0) cg (aF (ax (S_q3 ad n) NoX 2 (ac (ae 0) (ac (ae 1) ak)))) okM Q}{c:Option D}
  (h:Q ((as.map (dI l)).map jk) M):cD (au 0) cg (aF (ax (S_q3 ad n) NoX 2 (ac (ae 0) (ac (ae 1) ak)))) okM Q b (as.map jk) [] [c,some (.ref d)] M:=by
 refine bg (fun xs acc δ N=>∃(dn rs:List (List Rw)) (c0:Option D),as=dn++rs/\xs=rs.map jk/\acc=(dn.map (dI l)).map jk/\δ=[c0,some (.ref d)]/\N=M) (fun _ _ _ _ z=>by obtain ⟨_,_,_,_,_,_,_,e⟩:=z;subst e;exact ho) ?_ ?_ ?_ _ _ _ _ ⟨[],as,c,rfl,rfl,rfl,rfl,rfl⟩
 ·rintro acc δ N ⟨dn,rs,c0,e1,e2,rfl,rfl,rfl⟩
  have:rs=[]:=by cases rs with
   |nil=>rfl
   |cons r rs=>simp at e2
  subst this;rw [List.append_nil] at e1;rw [<- e1];exact h
 ·rintro x xs acc δ N ⟨dn,rs,c0,e1,e2,rfl,rfl,rfl⟩ N' hN hN0
  cases rs with
  |nil=>simp at e2
  |cons r rs=>
   simp only [List.map_cons,List.cons.injEq] at e2;obtain ⟨rfl,rfl⟩:=e2;have hd:dn.length<=5:=by have:=congrArg List.length e1;simp at this;lia
   simp! [jk];refine bh (d:=jk (dI l r)) (fun Q' E' q=>hr r (by rw [e1];simp) _ _ _ hM q) ?_
   simp! [jk];exact hN _ _ _ (by simp;exact cX (by lia)) ⟨dn++[r],rs,_,by rw [e1];simp,rfl,by simp [jk],rfl,rfl⟩
 ·rintro x xs acc δ N ⟨dn,rs,c0,e1,e2,rfl,rfl,rfl⟩
  have hd:dn.length<=5:=by have:=congrArg List.length e1;simp at this;lia
  simp;exact cX (by lia)
end
end Tw
namespace Tw
open PySem L2 L3 LS
theorem lL{Q:DK}{d:D}{M:Mem}{p:Addr}{o:MO}(hp:M p=none)(h:Q d M):drp Q d (M.upd p o):=
 ⟨M,fun b u e=>by rw [aj (Mem.ne e hp)];exact e,h⟩
theorem z_(x:Str):([D.str "if",D.str "again"].any fun d=>ba d (.str x))=decide (x∈[("if":Str),"again"]):=jT _ ["if","again"]
theorem in1:decide ((Str.ofString "if":Str)∈[("if":Str),"again"])=true:=by decide +kernel
theorem in2:decide ((Str.ofString "again":Str)∈[("if":Str),"again"])=true:=by decide +kernel
theorem B8:∀w∈[("put":Str),"take","pick","sum","by","less","same"],decide (w∈[("if":Str),"again"])=false:=by decide +kernel
theorem pj{x:D}{xs:List D}:g_ (x::xs) (some 1) none=xs:=lC (k:=1)
theorem F4{x y:D}{xs:List D}:g_ (x::y::xs) (some 2) none=xs:=lC (k:=2)
mutual
theorem Fh:∀r:Rw,1<=cR r
 |.ifr _ _ _=>by simp only [cR];lia
 |.again _ _=>by simp only [cR];lia
 |.put _ _=>by simp [cR]
 |.take _ _=>by simp [cR]
 |.pick _ _=>by simp [cR]
 |.two _ _ _ _=>by simp [cR]
theorem tS:∀a:List Rw,a.length<=cRs a
 |[]=>by simp
 |r::a=>by have:=Fh r;have:=tS a;simp only [List.length_cons,cRs];lia
end
section
variable {ad:Ad}{names:List Str}{m many:Int}{l:List (Str×Str)}{d:Addr}
theorem jX(hk:∀x∈names,x∈l.map (·.1)):∀(n:Nat) (rows:List Rw),di rows<n->bV names m many rows->cRs rows<=60->∀(M:Mem) (Q:DK) (E:DX),M d=some (.dK (bS l))->Q (jk (dI l rows)) M->S_q3 ad n [.tup (ay rows),.ref d] M Q E
 |0,rows,hn,_,_,M,Q,E,_,h=>by lia
 |n+1,rows,hn,ok,cn,M,Q,E,hM,h=>by
  simp! [u_q3,u6,↓dFor];refine ⟨szl (by decide),fun p hp=>?_⟩
  have hdp:d≠p:=Mem.ne hM hp;refine forD_inv (fun xs δ N=>∃(dn rs:List Rw) (c3:Option D),rows=dn++rs/\xs=ay rs/\δ=[some (.tup (ay rows)),some (.ref d),some (.ref p),c3]/\N=M.upd p (.lst (ay (dI l dn)))) (fun _ _ _ _=>aU) ?_ ?_ _ _ _ ⟨[],rows,_,rfl,rfl,rfl,rfl⟩
  ·rintro δ N ⟨dn,rs,c3,e1,e2,rfl,rfl⟩
   have:rs=[]:=by cases rs with
    |nil=>rfl
    |cons r rs=>simp [ay] at e2
   subst this;rw [List.append_nil] at e1;subst e1;simp! [];exact lL hp h
  ·rintro x xs δ N ⟨dn,rs,c3,e1,e2,rfl,rfl⟩ D' hnx _ _ _
   cases rs with
   |nil=>simp [ay] at e2
   |cons r rs=>
    simp only [ay,List.cons.injEq] at e2;obtain ⟨rfl,rfl⟩:=e2;have hr:r∈rows:=by rw [e1];simp
    have okr:=k6 ok hr;have hh:=lH hr;have hcs:cRs rows=cRs dn+(cR r+cRs rs):=by rw [e1,cF];simp only [cRs]
    have hdl:dn.length<=60:=by
     have:=tS dn;lia
    have hN:(M.upd p (.lst (ay (dI l dn)))) d=some (.dK (bS l)):=by rw [aj hdp];exact hM
    have fin:∀c3,D'.nx [some (.tup (ay rows)),some (.ref d),some (.ref p),c3] (M.upd p (.lst (ay (dI l dn)++[(mR l r).d]))):=fun c3=>hnx _ _ ⟨dn++[r],rs,c3,by rw [e1];simp,rfl,rfl,by rw [jI,bW];rfl⟩
    cases r with
    |ifr y a b=>
     have oy:=hk y okr.1;simp only [hR] at hh;simp only [cR] at hcs;simp! [Rw.d,atI_0,z_,in1];refine ⟨szl (by decide),fun q hq=>?_⟩
     simp! [Mem.upd_del,ai hq,atI_0,atI_1,hN,valD_kvs oy,F4,↓aP];refine ⟨szl (by decide),nc (as:=[a,b]) (fun a' ha M' Q' E' e q=>jX hk n a' ?_ ?_ ?_ M' Q' E' e q) hN (by simp) aU fun q2 hq2=>?_⟩
     ·simp only [List.mem_cons,List.not_mem_nil,or_false] at ha
      rcases ha with rfl|rfl<;>lia
     ·simp only [List.mem_cons,List.not_mem_nil,or_false] at ha
      rcases ha with rfl|rfl
      ·exact okr.2.1
      ·exact okr.2.2
     ·simp only [List.mem_cons,List.not_mem_nil,or_false] at ha
      rcases ha with rfl|rfl<;>lia
     ·simp! [Mem.upd_del,ai hq2,Mem.upd_same,Mem.upd_upd]
      exact ⟨szl (by decide),cX (by rw [bn,cI];lia),by simpa [mR,Rw.d,jk] using fin _⟩
    |again y a=>
     have oy:=hk y okr.1;simp only [hR] at hh;simp only [cR] at hcs;simp! [Rw.d,atI_0,z_,in2];refine ⟨szl (by decide),fun q hq=>?_⟩
     simp! [Mem.upd_del,ai hq,atI_0,atI_1,hN,valD_kvs oy,F4,↓aP];refine ⟨szl (by decide),nc (as:=[a]) (fun a' ha M' Q' E' e q=>jX hk n a' ?_ ?_ ?_ M' Q' E' e q) hN (by simp) aU fun q2 hq2=>?_⟩
     ·simp only [List.mem_cons,List.not_mem_nil,or_false] at ha
      subst ha;lia
     ·simp only [List.mem_cons,List.not_mem_nil,or_false] at ha
      subst ha;exact okr.2
     ·simp only [List.mem_cons,List.not_mem_nil,or_false] at ha
      subst ha;lia
     ·simp! [Mem.upd_del,ai hq2,Mem.upd_same,Mem.upd_upd]
      exact ⟨szl (by decide),cX (by rw [bn,cI];lia),by simpa [mR,Rw.d,jk] using fin _⟩
    |put y k=>
     simp! [Rw.d,atI_0,z_,B8 "put" (by simp)]
     refine ⟨szl (by decide),fun q hq=>?_⟩
     simp! [Mem.upd_del,ai hq,atI_0,atI_1,hN,pj,↓aP];refine ⟨szl (by decide),db (es:=[.str y,.int k]) hN (fun e he=>?_) (by simp) aU fun q2 hq2=>?_⟩
     ·simp only [List.mem_cons,List.not_mem_nil,or_false] at he
      rcases he with rfl|rfl
      ·exact .inl ⟨_,rfl,hk _ okr.1⟩
      ·exact .inr ⟨_,rfl⟩
     ·simp! [rZ,Mem.upd_del,ai hq2,Mem.upd_same,Mem.upd_upd]
      exact ⟨szl (by decide),cX (by rw [bn,cI];lia),by simpa [mR,Rw.d] using fin _⟩
    |take y k=>
     simp! [Rw.d,atI_0,z_,B8 "take" (by simp)]
     refine ⟨szl (by decide),fun q hq=>?_⟩
     simp! [Mem.upd_del,ai hq,atI_0,atI_1,hN,pj,↓aP];refine ⟨szl (by decide),db (es:=[.str y,.int k]) hN (fun e he=>?_) (by simp) aU fun q2 hq2=>?_⟩
     ·simp only [List.mem_cons,List.not_mem_nil,or_false] at he
      rcases he with rfl|rfl
      ·exact .inl ⟨_,rfl,hk _ okr.1⟩
      ·exact .inr ⟨_,rfl⟩
     ·simp! [rZ,Mem.upd_del,ai hq2,Mem.upd_same,Mem.upd_upd]
      exact ⟨szl (by decide),cX (by rw [bn,cI];lia),by simpa [mR,Rw.d] using fin _⟩
    |pick y u=>
     simp! [Rw.d,atI_0,z_,B8 "pick" (by simp)]
     refine ⟨szl (by decide),fun q hq=>?_⟩
     simp! [Mem.upd_del,ai hq,atI_0,atI_1,hN,pj,↓aP];refine ⟨szl (by decide),db (es:=[.str y,.str u]) hN (fun e he=>?_) (by simp) aU fun q2 hq2=>?_⟩
     ·simp only [List.mem_cons,List.not_mem_nil,or_false] at he
      rcases he with rfl|rfl
      ·exact .inl ⟨_,rfl,hk _ okr.1⟩
      ·exact .inl ⟨_,rfl,hk _ okr.2.1⟩
     ·simp! [rZ,Mem.upd_del,ai hq2,Mem.upd_same,Mem.upd_upd]
      exact ⟨szl (by decide),cX (by rw [bn,cI];lia),by simpa [mR,Rw.d] using fin _⟩
    |two w y u v=>
     rcases (show w="sum"\/w="by"\/w="less"\/w="same" from okr.1) with rfl|rfl|rfl|rfl
     ·simp! [Rw.d,atI_0,z_,B8 "sum" (by simp)]
      refine ⟨szl (by decide),fun q hq=>?_⟩
      simp! [Mem.upd_del,ai hq,atI_0,atI_1,hN,pj,↓aP];refine ⟨szl (by decide),db (es:=[.str y,.str u,.str v]) hN (fun e he=>?_) (by simp) aU fun q2 hq2=>?_⟩
      ·simp only [List.mem_cons,List.not_mem_nil,or_false] at he
       rcases he with rfl|rfl|rfl
       ·exact .inl ⟨_,rfl,hk _ okr.2.1⟩
       ·exact .inl ⟨_,rfl,hk _ okr.2.2.1⟩
       ·exact .inl ⟨_,rfl,hk _ okr.2.2.2⟩
      ·simp! [rZ,Mem.upd_del,ai hq2,Mem.upd_same,Mem.upd_upd]
       exact ⟨szl (by decide),cX (by rw [bn,cI];lia),by simpa [mR,Rw.d] using fin _⟩
     ·simp! [Rw.d,atI_0,z_,B8 "by" (by simp)]
      refine ⟨szl (by decide),fun q hq=>?_⟩
      simp! [Mem.upd_del,ai hq,atI_0,atI_1,hN,pj,↓aP];refine ⟨szl (by decide),db (es:=[.str y,.str u,.str v]) hN (fun e he=>?_) (by simp) aU fun q2 hq2=>?_⟩
      ·simp only [List.mem_cons,List.not_mem_nil,or_false] at he
       rcases he with rfl|rfl|rfl
       ·exact .inl ⟨_,rfl,hk _ okr.2.1⟩
       ·exact .inl ⟨_,rfl,hk _ okr.2.2.1⟩
       ·exact .inl ⟨_,rfl,hk _ okr.2.2.2⟩
      ·simp! [rZ,Mem.upd_del,ai hq2,Mem.upd_same,Mem.upd_upd]
       exact ⟨szl (by decide),cX (by rw [bn,cI];lia),by simpa [mR,Rw.d] using fin _⟩
     ·simp! [Rw.d,atI_0,z_,B8 "less" (by simp)]
      refine ⟨szl (by decide),fun q hq=>?_⟩
      simp! [Mem.upd_del,ai hq,atI_0,atI_1,hN,pj,↓aP];refine ⟨szl (by decide),db (es:=[.str y,.str u,.str v]) hN (fun e he=>?_) (by simp) aU fun q2 hq2=>?_⟩
      ·simp only [List.mem_cons,List.not_mem_nil,or_false] at he
       rcases he with rfl|rfl|rfl
       ·exact .inl ⟨_,rfl,hk _ okr.2.1⟩
       ·exact .inl ⟨_,rfl,hk _ okr.2.2.1⟩
       ·exact .inl ⟨_,rfl,hk _ okr.2.2.2⟩
      ·simp! [rZ,Mem.upd_del,ai hq2,Mem.upd_same,Mem.upd_upd]
       exact ⟨szl (by decide),cX (by rw [bn,cI];lia),by simpa [mR,Rw.d] using fin _⟩
     ·simp! [Rw.d,atI_0,z_,B8 "same" (by simp)]
      refine ⟨szl (by decide),fun q hq=>?_⟩
      simp! [Mem.upd_del,ai hq,atI_0,atI_1,hN,pj,↓aP];refine ⟨szl (by decide),db (es:=[.str y,.str u,.str v]) hN (fun e he=>?_) (by simp) aU fun q2 hq2=>?_⟩
      ·simp only [List.mem_cons,List.not_mem_nil,or_false] at he
       rcases he with rfl|rfl|rfl
       ·exact .inl ⟨_,rfl,hk _ okr.2.1⟩
       ·exact .inl ⟨_,rfl,hk _ okr.2.2.1⟩
       ·exact .inl ⟨_,rfl,hk _ okr.2.2.2⟩
      ·simp! [rZ,Mem.upd_del,ai hq2,Mem.upd_same,Mem.upd_upd]
       exact ⟨szl (by decide),cX (by rw [bn,cI];lia),by simpa [mR,Rw.d] using fin _⟩
end
end Tw
namespace Tw
open PySem L2 L3 LS
theorem i18:bQ "NoneType" "str"=false:=by decide +kernel
def Let(x:Str):Prop:=x.length<=100/\∀c∈x.cps.toList,97<=c/\c<=122
def uK(x:Str):Bool:=decide (1<=x.length)&&decide (x.length<=8)
section
variable {ad:Ad}{M:Mem}{Q:DK}{E:DX}
theorem dZ{i lo hi:Int}(h:Q (.bl (decide (lo<=i)&&decide (i<=hi))) M):jV ad [.int i,.int lo,.int hi] M Q E:=by
 simp! [Fu,mQ,i12,i13,t1,t2]
 by_cases c:lo<=i
 ·rw [decide_eq_true c] at h ⊢
  exact drp_id h
 ·rw [decide_eq_false c] at h ⊢
  exact drp_id h
theorem Let.ascii{x:Str}(h:Let x):x.cps.all (· < 128)=true:=by
 rw [<- Array.all_toList,List.all_eq_true];intro c hc;have:=h.2 c hc;simp;lia
theorem zL{c:Nat}(h:97<=c):(!decide (([c]:List Nat)<(Str.ofString "a").cps.toList))=true:=by
 have e:(Str.ofString "a").cps.toList=[97]:=by decide +kernel
 rw [e,Bool.not_eq_true',decide_eq_false_iff_not];intro z;have:=(List.cons_lt_cons_iff).mp z;rcases this with y|⟨_,y⟩
 ·lia
 ·exact absurd y (by simp)
theorem zq{c:Nat}(h:c<=122):(!decide ((Str.ofString "z").cps.toList<([c]:List Nat)))=true:=by
 have e:(Str.ofString "z").cps.toList=[122]:=by decide +kernel
 rw [e,Bool.not_eq_true',decide_eq_false_iff_not];intro z;have:=(List.cons_lt_cons_iff).mp z;rcases this with y|⟨_,y⟩
 ·lia
 ·exact absurd y (by simp)
theorem nv{x:Str}(hx:Let x)(h:Q (.bl (uK x)) M):rA ad [.str x] M Q E:=by
 simp! [EM,n_,oQ,t3,↓aP];refine ⟨szl (Nat.le_trans hx.1 (by decide)),?_⟩
 unfold uK at h
 by_cases c:1<=x.length
 ·rw [decide_eq_true c,Bool.true_and] at h
  rw [decide_eq_true (by lia)]
  by_cases c2:x.length<=8
  ·rw [decide_eq_true c2] at h
   simp only [decide_eq_true (show ((x.length:Nat):Int)<=8 by lia),Bool.not_true,Bool.false_eq_true,if_false]
   refine ⟨hx.ascii,?_⟩;have hxl:x.cps.toList.length<=100:=by have:=hx.1;rw [Array.length_toList];exact this
   refine bg (fun ys acc δ M'=>∃(zs:List Nat) (j:Nat) (c0:Option D),ys=zs.map (fun c=>D.str ⟨#[c]⟩)/\(∀z∈zs,97<=z/\z<=122)/\zs.length+j<=100/\acc=List.replicate j (.bl true)/\δ=[c0]/\M'=M) (fun _ _ _ _ _=>aU) ?_ ?_ ?_ _ _ _ _ ⟨x.cps.toList,0,none,rfl,hx.2,by lia,rfl,rfl,rfl⟩
   ·rintro acc δ M' ⟨zs,j,c0,e1,e2,e3,rfl,rfl,rfl⟩ p hpn
    simp! [Mem.upd_del,ai hpn,dJ,i_];exact drp_id h
   ·rintro y ys acc δ M' ⟨zs,j,c0,e1,e2,e3,rfl,rfl,rfl⟩ N hN _
    cases zs with
    |nil=>simp at e1
    |cons z zs=>
     simp only [List.map_cons,List.cons.injEq] at e1;obtain ⟨rfl,rfl⟩:=e1;simp only [List.length_cons] at e3;have hz:=e2 z (List.mem_cons_self ..);simp! [zL hz.1,zq hz.2];exact hN _ _ _ (by simp;exact cX (by lia)) ⟨zs,j+1,_,rfl,fun w hw=>e2 w (List.mem_cons_of_mem _ hw),by lia,by rw [List.replicate_succ'],rfl,rfl⟩
   ·rintro y ys acc δ M' ⟨zs,j,c0,e1,e2,e3,rfl,rfl,rfl⟩
    simp;exact cX (by lia)
  ·rw [decide_eq_false c2] at h
   simp only [decide_eq_false (show ¬((x.length:Nat):Int)<=8 by lia),Bool.not_false,if_true]
   exact drp_id h
 ·rw [decide_eq_false c,Bool.false_and] at h
  rw [decide_eq_false (by lia)]
  exact drp_id h
def sL(names:List Str):Bool:=(decide (1<=names.length)&&decide (names.length<=12))&&(names.all uK&&decide ((cw [] names).length=names.length))
theorem ke{names:List Str}(hx:∀x∈names,Let x)(hn:names.length<=60)(h:Q (.bl (sL names)) M):rB ad [.tup (names.map D.str)] M Q E:=by
 simp! [G1,nK,i4,t4,↓aP,List.length_map];unfold sL at h
 by_cases c:1<=names.length
 ·rw [decide_eq_true c,Bool.true_and] at h
  rw [decide_eq_true (by lia)]
  by_cases c2:names.length<=12
  ·rw [decide_eq_true c2,Bool.true_and] at h
   simp only [decide_eq_true (show ((names.length:Nat):Int)<=12 by lia),Bool.not_true,Bool.false_eq_true,if_false]
   refine bg (fun ys acc δ M'=>∃(dn rs:List Str) (c0:Option D),names=dn++rs/\ys=rs.map D.str/\acc=(dn.map uK).map D.bl/\δ=[c0]/\M'=M) (fun _ _ _ _ _=>aU) ?_ ?_ ?_ _ _ _ _ ⟨[],names,none,rfl,rfl,rfl,rfl,rfl⟩
   ·rintro acc δ M' ⟨dn,rs,c0,e1,e2,rfl,rfl,rfl⟩ p hpn
    have:rs=[]:=by cases rs with
     |nil=>rfl
     |cons r rs=>simp at e2
    subst this;rw [List.append_nil] at e1;subst e1;have ea:(names.map uK).all id=names.all uK:=by rw [List.all_map];rfl
    simp! [Mem.upd_del,ai hpn,fq,ea];cases hc:names.all uK with
    |true=>
     rw [hc,Bool.true_and] at h;simp! [strsOf_map,List.length_map];refine ⟨by lia,?_⟩
     have e3:decide (((cw [] names).length:Int)=(names.length:Int))=decide ((cw [] names).length=names.length):=by
      by_cases z:(cw [] names).length=names.length
      ·rw [decide_eq_true z,decide_eq_true (by lia)]
      ·rw [decide_eq_false z,decide_eq_false (by lia)]
     rw [e3];exact drp_id h
    |false=>
     rw [hc,Bool.false_and] at h;exact drp_id h
   ·rintro y ys acc δ M' ⟨dn,rs,c0,e1,e2,rfl,rfl,rfl⟩ N hN _
    cases rs with
    |nil=>simp at e2
    |cons r rs=>
     simp only [List.map_cons,List.cons.injEq] at e2;obtain ⟨rfl,rfl⟩:=e2;have hd:dn.length<=60:=by have:=congrArg List.length e1;simp at this;lia
     simp! [];refine bh (d:=.bl (uK r)) (fun Q' E' q=>nv (hx r (by rw [e1];simp)) q) ?_
     simp! [];exact hN _ _ _ (by simp;exact cX (by lia)) ⟨dn++[r],rs,_,by rw [e1];simp,rfl,by simp,rfl,rfl⟩
   ·rintro y ys acc δ M' ⟨dn,rs,c0,e1,e2,rfl,rfl,rfl⟩
    have hd:dn.length<=60:=by have:=congrArg List.length e1;simp at this;lia
    simp;exact cX (by lia)
  ·rw [decide_eq_false c2,Bool.false_and] at h
   simp only [decide_eq_false (show ¬((names.length:Nat):Int)<=12 by lia),Bool.not_false,if_true]
   exact drp_id h
 ·rw [decide_eq_false c,Bool.false_and,Bool.false_and] at h
  rw [decide_eq_false (by lia)]
  exact drp_id h
def iN(names:List Str):D->Bool
 |.str x=>decide (x∈names)
 |_=>false
def Mk0:D->Prop
 |.str _=>True
 |.int _=>True
 |.non=>True
 |.tup _=>True
 |_=>False
theorem qJ{names:List Str}{d0 d2 d3 d4:D}{d:D}(hd:Mk0 d)(h:Q (.bl (iN names d)) M):uB ad [.tup [d0,.tup (names.map D.str),d2,d3,d4],d] M Q E:=by
 cases d with
 |str x=>
  simp! [Ax,nj,oQ,t3,atI_1,ku,jT];exact drp_id h
 |int x=>
  simp! [Ax,nj,i17,t3];exact drp_id h
 |non=>
  simp! [Ax,nj,i18,t3];exact drp_id h
 |tup x=>
  simp! [Ax,nj,i3,t3];exact drp_id h
 |_=>exact hd.elim
end
end Tw
namespace Tw
open PySem L2 L3 LS
def wOk:Rw->Prop
 |.two w _ _ _=>w="sum"\/w="by"\/w="less"\/w="same"
 |_=>True
section
variable {ad:Ad}{M:Mem}{Q:DK}{E:DX}{names:List Str}{m many:Int}{d3 d4:D}
def fK(m many:Int)(names:List Str)(d3 d4:D):D:=.tup [.int m,.tup (names.map D.str),.int many,d3,d4]
def iw(names:List Str)(m many:Int)(d:Nat):Rw->Bool
 |.put x k=>decide (x∈names)&&(decide (0<=k)&&decide (k<=m-1))
 |.take x k=>decide (x∈names)&&(decide (0<=k)&&decide (k<=many-1))
 |.pick x y=>decide (many≠0)&&(decide (x∈names)&&decide (y∈names))
 |.two _ x y z=>decide (x∈names)&&(decide (y∈names)&&decide (z∈names))
 |.ifr x _ _=>decide (d≠4)&&decide (x∈names)
 |.again x _=>decide (d≠4)&&decide (x∈names)
theorem bD{d:D}(hd:Mk0 d)(h:Q (.bl (iN names d)) M):fH ad [fK m many names d3 d4,.str "name",d] M Q E:=by
 simp! [qL,il,fK];refine calls_of fun Q' E' hq _=>qJ hd (hq _ _ ?_);exact drp_id h
theorem n1:((Str.ofString "number":Str)=Str.ofString "name")=False:=eq_false (by decide +kernel)
theorem n2:((Str.ofString "piece":Str)=Str.ofString "name")=False:=eq_false (by decide +kernel)
theorem n3:((Str.ofString "piece":Str)=Str.ofString "number")=False:=eq_false (by decide +kernel)
theorem n4:((Str.ofString "rows":Str)=Str.ofString "name")=False:=eq_false (by decide +kernel)
theorem n5:((Str.ofString "rows":Str)=Str.ofString "number")=False:=eq_false (by decide +kernel)
theorem n6:((Str.ofString "rows":Str)=Str.ofString "piece")=False:=eq_false (by decide +kernel)
theorem sS{i:Int}(h:Q (.bl (decide (0<=i)&&decide (i<=m-1))) M):fH ad [fK m many names d3 d4,.str "number",.int i] M Q E:=by
 simp! [qL,il,fK,n1,atI_0];refine calls_of fun Q' E' hq _=>dZ (hq _ _ ?_);exact drp_id h
theorem ul{i:Int}(h:Q (.bl (decide (0<=i)&&decide (i<=many-1))) M):fH ad [fK m many names d3 d4,.str "piece",.int i] M Q E:=by
 simp! [qL,il,fK,n2,n3,atI_2];refine calls_of fun Q' E' hq _=>dZ (hq _ _ ?_);exact drp_id h
theorem lm{d:D}(h:Q (.bl true) M):fH ad [fK m many names d3 d4,.str "rows",d] M Q E:=by
 simp! [qL,il,fK,n4,n5,n6];exact drp_id h
end
end Tw
namespace Tw
open PySem L2 L3 LS
theorem BM:bN aS "put"=some (.mt [.str "name",.str "number"]):=by simp! [aS,bN]
theorem Ah:bN aS "take"=some (.mt [.str "name",.str "piece"]):=by simp! [aS,bN]
theorem qV:bN aS "pick"=some (.mt [.str "name",.str "name"]):=by simp! [aS,bN]
theorem Ca:bN aS "sum"=some (.mt [.str "name",.str "name",.str "name"]):=by simp! [aS,bN]
theorem Fm:bN aS "by"=some (.mt [.str "name",.str "name",.str "name"]):=by simp! [aS,bN]
theorem A1:bN aS "less"=some (.mt [.str "name",.str "name",.str "name"]):=by simp! [aS,bN]
theorem zj:bN aS "same"=some (.mt [.str "name",.str "name",.str "name"]):=by simp! [aS,bN]
theorem AJ:bN aS "if"=some (.mt [.str "name",.str "rows",.str "rows"]):=by simp! [aS,bN]
theorem mH:bN aS "again"=some (.mt [.str "name",.str "rows"]):=by simp! [aS,bN]
section
variable {ad:Ad}{M:Mem}{Q:DK}{E:DX}{names:List Str}{m many:Int}{d3 d4:D}
theorem bT{ks:List (Str×D×Bool)}(hp:∀p∈ks,∀(M:Mem) (Q:DK) (E:DX),Q (.bl p.2.2) M->fH ad [fK m many names d3 d4,.str p.1,p.2.1] M Q E)(hl:ks.length<=10){okM:Mem->Prop}(ho:okM M){Q:List D->Mem->Prop}{b:BxC (kf 2 (c8 (au 0) (c8 (au 1) ki))) cg (aF (ax (fH ad) NoX 3 (ac (ae 2) (ac (ae 0) (ac (ae 1) ak))))) okM Q}{c0 c1:Option D}
  (h:Q ((ks.map (·.2.2)).map D.bl) M):cD (kf 2 (c8 (au 0) (c8 (au 1) ki))) cg (aF (ax (fH ad) NoX 3 (ac (ae 2) (ac (ae 0) (ac (ae 1) ak))))) okM Q b (ks.map fun p=>D.tup [.str p.1,p.2.1]) [] [c0,c1,some (fK m many names d3 d4)] M:=by
 refine bg (fun xs acc δ N=>∃(dn rs:List (Str×D×Bool)) (c0 c1:Option D),ks=dn++rs/\xs=(rs.map fun p=>D.tup [.str p.1,p.2.1])/\acc=(dn.map (·.2.2)).map D.bl/\δ=[c0,c1,some (fK m many names d3 d4)]/\N=M) (fun _ _ _ _ z=>by obtain ⟨_,_,_,_,_,_,_,_,e⟩:=z;subst e;exact ho) ?_ ?_ ?_ _ _ _ _ ⟨[],ks,c0,c1,rfl,rfl,rfl,rfl,rfl⟩
 ·rintro acc δ N ⟨dn,rs,c0,c1,e1,e2,rfl,rfl,rfl⟩
  have:rs=[]:=by cases rs with
   |nil=>rfl
   |cons r rs=>simp at e2
  subst this;rw [List.append_nil] at e1;rw [<- e1];exact h
 ·rintro x xs acc δ N ⟨dn,rs,c0,c1,e1,e2,rfl,rfl,rfl⟩ N' hN hN0
  cases rs with
  |nil=>simp at e2
  |cons r rs=>
   simp only [List.map_cons,List.cons.injEq] at e2;obtain ⟨rfl,rfl⟩:=e2;have hd:dn.length<=10:=by have:=congrArg List.length e1;simp at this;lia
   simp! [];refine bh (d:=.bl r.2.2) (fun Q' E' q=>hp r (by rw [e1];simp) _ _ _ q) ?_
   simp! [];exact hN _ _ _ (by simp;exact cX (by lia)) ⟨dn++[r],rs,_,_,by rw [e1];simp,rfl,by simp,rfl,rfl⟩
 ·rintro x xs acc δ N ⟨dn,rs,c0,c1,e1,e2,rfl,rfl,rfl⟩
  have hd:dn.length<=10:=by have:=congrArg List.length e1;simp at this;lia
  simp;exact cX (by lia)
theorem eB{x:D}{xs:List D}:g_ (x::xs) (some 1) none=xs:=lC (k:=1)
theorem z2{a b c d:D}:lY [a,b] [c,d]=[.tup [a,c],.tup [b,d]]:=rfl
theorem z3{a b c d e f:D}:lY [a,b,c] [d,e,f]=[.tup [a,d],.tup [b,e],.tup [c,f]]:=rfl
theorem nr2:([D.str "name",D.str "number"].any fun d=>ba d (D.str "rows"))=false:=by decide +kernel
theorem nr3:([D.str "name",D.str "piece"].any fun d=>ba d (D.str "rows"))=false:=by decide +kernel
theorem nr4:([D.str "name",D.str "name"].any fun d=>ba d (D.str "rows"))=false:=by decide +kernel
theorem nr5:([D.str "name",D.str "name",D.str "name"].any fun d=>ba d (D.str "rows"))=false:=by decide +kernel
theorem nr6:([D.str "name",D.str "rows",D.str "rows"].any fun d=>ba d (D.str "rows"))=true:=by decide +kernel
theorem nr7:([D.str "name",D.str "rows"].any fun d=>ba d (D.str "rows"))=true:=by decide +kernel
theorem pB{d:Nat}{r:Rw}(o:wOk r)(h:Q (.bl (iw names m many d r)) M):kP ad [fK m many names d3 d4,r.d,.int (d:Nat)] M Q E:=by
 cases r with
 |put x k=>
  simp! [el,cQ,Rw.d,i4,t4,oQ,t3,atI_0,atI_2,BM,↓aP,nr2,eB,z2,fK];rw [if_neg (by decide),if_neg (by decide)]
  refine bT (ks:=[("name",.str x,iN names (.str x)),("number",.int k,decide (0<=k)&&decide (k<=m-1))]) (fun p hp=>?_) (by simp) aU fun p hp=>?_
  ·simp only [List.mem_cons,List.not_mem_nil,or_false] at hp
   rcases hp with rfl|rfl
   ·exact fun M Q E q=>bD trivial q
   ·exact fun M Q E q=>sS q
  ·simp! [Mem.upd_del,ai hp,List.all_cons,List.all_nil,Bool.and_true,id]
   exact drp_id h
 |take x k=>
  simp! [el,cQ,Rw.d,i4,t4,oQ,t3,atI_0,atI_2,Ah,↓aP,nr3,eB,z2,fK];rw [if_neg (by decide),if_neg (by decide)]
  refine bT (ks:=[("name",.str x,iN names (.str x)),("piece",.int k,decide (0<=k)&&decide (k<=many-1))]) (fun p hp=>?_) (by simp) aU fun p hp=>?_
  ·simp only [List.mem_cons,List.not_mem_nil,or_false] at hp
   rcases hp with rfl|rfl
   ·exact fun M Q E q=>bD trivial q
   ·exact fun M Q E q=>ul q
  ·simp! [Mem.upd_del,ai hp,List.all_cons,List.all_nil,Bool.and_true,id]
   exact drp_id h
 |pick x y=>
  simp only [iw] at h
  by_cases hm:many=0
  ·rw [decide_eq_false (by simpa using hm),Bool.false_and] at h
   simp! [el,cQ,Rw.d,i4,t4,oQ,t3,atI_0,atI_2,qV,↓aP,nr4,eB,z2,fK];rw [if_neg (by decide),if_neg (by decide),if_pos hm]
   exact drp_id h
  ·rw [decide_eq_true (by simpa using hm),Bool.true_and] at h
   simp! [el,cQ,Rw.d,i4,t4,oQ,t3,atI_0,atI_2,qV,↓aP,nr4,eB,z2,fK];rw [if_neg (by decide),if_neg (by decide),if_neg hm]
   refine bT (ks:=[("name",.str x,iN names (.str x)),("name",.str y,iN names (.str y))]) (fun p hp=>?_) (by simp) aU fun p hp=>?_
   ·simp only [List.mem_cons,List.not_mem_nil,or_false] at hp
    rcases hp with rfl|rfl
    ·exact fun M Q E q=>bD trivial q
    ·exact fun M Q E q=>bD trivial q
   ·simp! [Mem.upd_del,ai hp,List.all_cons,List.all_nil,Bool.and_true,id]
    exact drp_id h
 |two w x y z=>
  rcases o with rfl|rfl|rfl|rfl
  ·simp! [el,cQ,Rw.d,i4,t4,oQ,t3,atI_0,atI_2,Ca,↓aP,nr5,eB,z3,fK]
   rw [if_neg (by decide),if_neg (by decide)]
   refine bT (ks:=[("name",.str x,iN names (.str x)),("name",.str y,iN names (.str y)),("name",.str z,iN names (.str z))]) (fun p hp=>?_) (by simp) aU fun p hp=>?_
   ·simp only [List.mem_cons,List.not_mem_nil,or_false] at hp
    rcases hp with rfl|rfl|rfl
    ·exact fun M Q E q=>bD trivial q
    ·exact fun M Q E q=>bD trivial q
    ·exact fun M Q E q=>bD trivial q
   ·simp! [Mem.upd_del,ai hp,List.all_cons,List.all_nil,Bool.and_true,id]
    exact drp_id h
  ·simp! [el,cQ,Rw.d,i4,t4,oQ,t3,atI_0,atI_2,Fm,↓aP,nr5,eB,z3,fK]
   rw [if_neg (by decide),if_neg (by decide)]
   refine bT (ks:=[("name",.str x,iN names (.str x)),("name",.str y,iN names (.str y)),("name",.str z,iN names (.str z))]) (fun p hp=>?_) (by simp) aU fun p hp=>?_
   ·simp only [List.mem_cons,List.not_mem_nil,or_false] at hp
    rcases hp with rfl|rfl|rfl
    ·exact fun M Q E q=>bD trivial q
    ·exact fun M Q E q=>bD trivial q
    ·exact fun M Q E q=>bD trivial q
   ·simp! [Mem.upd_del,ai hp,List.all_cons,List.all_nil,Bool.and_true,id]
    exact drp_id h
  ·simp! [el,cQ,Rw.d,i4,t4,oQ,t3,atI_0,atI_2,A1,↓aP,nr5,eB,z3,fK]
   rw [if_neg (by decide),if_neg (by decide)]
   refine bT (ks:=[("name",.str x,iN names (.str x)),("name",.str y,iN names (.str y)),("name",.str z,iN names (.str z))]) (fun p hp=>?_) (by simp) aU fun p hp=>?_
   ·simp only [List.mem_cons,List.not_mem_nil,or_false] at hp
    rcases hp with rfl|rfl|rfl
    ·exact fun M Q E q=>bD trivial q
    ·exact fun M Q E q=>bD trivial q
    ·exact fun M Q E q=>bD trivial q
   ·simp! [Mem.upd_del,ai hp,List.all_cons,List.all_nil,Bool.and_true,id]
    exact drp_id h
  ·simp! [el,cQ,Rw.d,i4,t4,oQ,t3,atI_0,atI_2,zj,↓aP,nr5,eB,z3,fK]
   rw [if_neg (by decide),if_neg (by decide)]
   refine bT (ks:=[("name",.str x,iN names (.str x)),("name",.str y,iN names (.str y)),("name",.str z,iN names (.str z))]) (fun p hp=>?_) (by simp) aU fun p hp=>?_
   ·simp only [List.mem_cons,List.not_mem_nil,or_false] at hp
    rcases hp with rfl|rfl|rfl
    ·exact fun M Q E q=>bD trivial q
    ·exact fun M Q E q=>bD trivial q
    ·exact fun M Q E q=>bD trivial q
   ·simp! [Mem.upd_del,ai hp,List.all_cons,List.all_nil,Bool.and_true,id]
    exact drp_id h
 |ifr x a b=>
  simp only [iw] at h
  by_cases hm:d=4
  ·rw [decide_eq_false (by simpa using hm),Bool.false_and] at h
   simp! [el,cQ,Rw.d,i4,t4,oQ,t3,atI_0,atI_2,AJ,↓aP,nr6,eB,z3,fK];rw [if_neg (by decide),if_neg (by decide),if_pos (by lia)]
   exact drp_id h
  ·rw [decide_eq_true (by simpa using hm),Bool.true_and] at h
   simp! [el,cQ,Rw.d,i4,t4,oQ,t3,atI_0,atI_2,AJ,↓aP,nr6,eB,z3,fK];rw [if_neg (by decide),if_neg (by decide),if_neg (by lia)]
   refine bT (ks:=[("name",.str x,iN names (.str x)),("rows",.tup (ay a),true),("rows",.tup (ay b),true)]) (fun p hp=>?_) (by simp) aU fun p hp=>?_
   ·simp only [List.mem_cons,List.not_mem_nil,or_false] at hp
    rcases hp with rfl|rfl|rfl
    ·exact fun M Q E q=>bD trivial q
    ·exact fun M Q E q=>lm q
    ·exact fun M Q E q=>lm q
   ·simp! [Mem.upd_del,ai hp,List.all_cons,List.all_nil,Bool.and_true,id]
    exact drp_id h
 |again x a=>
  simp only [iw] at h
  by_cases hm:d=4
  ·rw [decide_eq_false (by simpa using hm),Bool.false_and] at h
   simp! [el,cQ,Rw.d,i4,t4,oQ,t3,atI_0,atI_2,mH,↓aP,nr7,eB,z2,fK];rw [if_neg (by decide),if_neg (by decide),if_pos (by lia)]
   exact drp_id h
  ·rw [decide_eq_true (by simpa using hm),Bool.true_and] at h
   simp! [el,cQ,Rw.d,i4,t4,oQ,t3,atI_0,atI_2,mH,↓aP,nr7,eB,z2,fK];rw [if_neg (by decide),if_neg (by decide),if_neg (by lia)]
   refine bT (ks:=[("name",.str x,iN names (.str x)),("rows",.tup (ay a),true)]) (fun p hp=>?_) (by simp) aU fun p hp=>?_
   ·simp only [List.mem_cons,List.not_mem_nil,or_false] at hp
    rcases hp with rfl|rfl
    ·exact fun M Q E q=>bD trivial q
    ·exact fun M Q E q=>lm q
   ·simp! [Mem.upd_del,ai hp,List.all_cons,List.all_nil,Bool.and_true,id]
    exact drp_id h
end
end Tw
namespace Tw
open PySem L2 L3 LS
theorem fN{c:eD}{tb:aM}{DD:DEnds}{b:BxW c tb DD}(I:Nat->Dl->Mem->Prop)
  (hs:∀m δ M,I m δ M->∀D':DEnds,(∀m' δ' M',m'<m->I m' δ' M'->D'.nx δ' M')->D'.rt=DD.rt->c δ M fun k M1=>if k=true then tb D' δ M1 else DD.nx δ M1):∀n m δ M,m<n->I m δ M->whileD c tb DD b n δ M
 |0,m,δ,M,h,_=>by lia
 |n+1,m,δ,M,h,i=>hs m δ M i { DD with nx:=whileD c tb DD b n,ct:=whileD c tb DD b n,bk:=DD.nx } (fun m' δ' M' q i'=>fN I hs n m' δ' M' (by lia) i') rfl
mutual
def EQ:Rw->Prop
 |.ifr _ a b=>iH a/\iH b
 |.again _ a=>iH a
 |.put _ _=>True
 |.take _ _=>True
 |.pick _ _=>True
 |.two w _ _ _=>w="sum"\/w="by"\/w="less"\/w="same"
def iH:List Rw->Prop
 |[]=>True
 |r::rs=>EQ r/\iH rs
end
theorem uh{r:Rw}(h:EQ r):wOk r:=by cases r<;>first|exact h|trivial
theorem gc:∀{rs:List Rw} {r:Rw},iH rs->r∈rs->EQ r
 |s::rs,r,o,h=>by
  rcases List.mem_cons.mp h with rfl|h
  ·exact o.1
  ·exact gc o.2 h
theorem Db{r:Rw}(o:EQ r){a:List Rw}(h:a∈wR r):iH a:=by
 cases r with
 |ifr x a b=>simp [wR] at h;rcases h with rfl|rfl;exact o.1;exact o.2
 |again x a=>simp [wR] at h;subst h;exact o
 |_=>simp [wR] at h
section
variable (names:List Str)(m many:Int)
mutual
def rV(d:Nat):Rw->Bool
 |.ifr x a b=>iw names m many d (.ifr x a b)&&(m_ (d+1) a&&m_ (d+1) b)
 |.again x a=>iw names m many d (.again x a)&&m_ (d+1) a
 |.put x k=>iw names m many d (.put x k)
 |.take x k=>iw names m many d (.take x k)
 |.pick x y=>iw names m many d (.pick x y)
 |.two w x y z=>iw names m many d (.two w x y z)
def m_(d:Nat):List Rw->Bool
 |[]=>true
 |r::rs=>rV d r&&m_ d rs
end
theorem EO(d:Nat)(r:Rw):rV names m many d r=(iw names m many d r&&(wR r).all (m_ names m many (d+1))):=by cases r<;>simp [rV,wR]
theorem uP(d:Nat):∀rs:List Rw,m_ names m many d rs=(rs.all (iw names m many d)&&(rs.flatMap wR).all (m_ names m many (d+1)))
 |[]=>rfl
 |r::rs=>by
  rw [m_,EO,uP d rs,List.all_cons,List.flatMap_cons,List.all_append];cases iw names m many d r<;>cases (wR r).all (m_ names m many (d+1))<;>simp
end
def sC:List (List Rw×Nat)->Nat
 |[]=>0
 |w::l=>cRs w.1+sC l
theorem cE:∀a b:List (List Rw×Nat),sC (a++b)=sC a+sC b
 |[],b=>by simp [sC]
 |x::a,b=>by simp only [List.cons_append,sC,cE a b];lia
def within(d:Nat)(rows:List Rw):List (List Rw×Nat):=(rows.flatMap wR).map fun a=>(a,d)
theorem ko(d:Nat)(a b:List Rw):within d (a++b)=within d a++within d b:=by simp [within]
theorem Fq(d:Nat)(r:Rw):sC ((wR r).map fun a=>(a,d))+1=cR r:=by cases r<;>simp only [wR,List.map_cons,List.map_nil,sC,cR]<;>lia
theorem wV(r:Rw):(wR r).length<=2:=by cases r<;>simp [wR]
theorem kN(d:Nat):∀rows:List Rw,sC (within d rows)+rows.length=cRs rows
 |[]=>rfl
 |r::rows=>by
  have h1:=Fq d r;have h2:=kN d rows;have:within d (r::rows)=((wR r).map fun a=>(a,d))++within d rows:=by simp [within]
  rw [this,cE];simp only [List.length_cons,cRs];lia
theorem fM(d:Nat):∀rows:List Rw,(within d rows).length<=2*rows.length
 |[]=>by simp [within]
 |r::rows=>by
  have h1:=wV r;have h2:=fM d rows;have:within d (r::rows)=((wR r).map fun a=>(a,d))++within d rows:=by simp [within]
  rw [this];simp only [List.length_append,List.length_map,List.length_cons];lia
def nH(W:List (List Rw×Nat)):Nat:=W.length+2*sC W
def tK(w:List Rw×Nat):D:=.tup [jk w.1,.int (w.2:Nat)]
section
variable {ad:Ad}{M:Mem}{Q:DK}{E:DX}{names:List Str}{m many:Int}{d3 d4:D}
theorem lc{r:Rw}(o:wOk r)(h:∀p,M p=none->Q (.ref p) (M.upd p (.lst ((wR r).map jk)))):qi ad [r.d] M Q E:=by
 cases r with
 |ifr x a b=>
  simp! [mP,iE,Rw.d,atI_0,atI_2,atI_3];exact ⟨szl (by decide),fun p hp=>drp_id (h p hp)⟩
 |again x a=>
  simp! [mP,iE,Rw.d,atI_0,atI_2];exact ⟨szl (by decide),fun p hp=>drp_id (h p hp)⟩
 |two w x y z=>
  rcases o with rfl|rfl|rfl|rfl
  all_goals
   simp! [mP,iE,Rw.d,atI_0];exact ⟨szl (by decide),fun p hp=>drp_id (h p hp)⟩
 |_=>
  simp! [mP,iE,Rw.d,atI_0];exact ⟨szl (by decide),fun p hp=>drp_id (h p hp)⟩
def jR(names:List Str)(m many:Int)(rows:List Rw):Bool:=m_ names m many 0 rows&&decide (cRs rows<=60)
theorem rS{l:List Rw}{d:Nat}(o:iH l)(hl:l.length<=500){okM:Mem->Prop}(ho:okM M){Q:List D->Mem->Prop}{b:BxC (au 0) cg (aF (ax (kP ad) NoX 3 (ac (ae 1) (ac (ae 0) (ac (ae 2) ak))))) okM Q}{c:Option D}
  (h:Q ((l.map (iw names m many d)).map D.bl) M):cD (au 0) cg (aF (ax (kP ad) NoX 3 (ac (ae 1) (ac (ae 0) (ac (ae 2) ak))))) okM Q b (ay l) [] [c,some (fK m many names d3 d4),some (.int (d:Nat))] M:=by
 refine bg (fun xs acc δ N=>∃(dn rs:List Rw) (c0:Option D),l=dn++rs/\xs=ay rs/\acc=(dn.map (iw names m many d)).map D.bl/\δ=[c0,some (fK m many names d3 d4),some (.int (d:Nat))]/\N=M) (fun _ _ _ _ z=>by obtain ⟨_,_,_,_,_,_,_,e⟩:=z;subst e;exact ho) ?_ ?_ ?_ _ _ _ _ ⟨[],l,c,rfl,rfl,rfl,rfl,rfl⟩
 ·rintro acc δ N ⟨dn,rs,c0,e1,e2,rfl,rfl,rfl⟩
  have:rs=[]:=by cases rs with
   |nil=>rfl
   |cons r rs=>simp [ay] at e2
  subst this;rw [List.append_nil] at e1;rw [<- e1];exact h
 ·rintro x xs acc δ N ⟨dn,rs,c0,e1,e2,rfl,rfl,rfl⟩ N' hN hN0
  cases rs with
  |nil=>simp [ay] at e2
  |cons r rs=>
   simp only [ay,List.cons.injEq] at e2;obtain ⟨rfl,rfl⟩:=e2;have hd:dn.length<=500:=by have:=congrArg List.length e1;simp at this;lia
   simp! [];refine bh (d:=.bl (iw names m many d r)) (fun Q' E' q=>pB (uh (gc o (by rw [e1];simp))) q) ?_
   simp! [];exact hN _ _ _ (by simp;exact cX (by lia)) ⟨dn++[r],rs,_,by rw [e1];simp,rfl,by simp,rfl,rfl⟩
 ·rintro x xs acc δ N ⟨dn,rs,c0,e1,e2,rfl,rfl,rfl⟩
  have hd:dn.length<=500:=by have:=congrArg List.length e1;simp at this;lia
  simp;exact cX (by lia)
theorem sO{l:List (List Rw)}{d:Nat}(hl:l.length<=10){okM:Mem->Prop}(ho:okM M){Q:List D->Mem->Prop}{b:BxC (au 0) cg (bX (ac (ae 0) (ac (aB cr (ae 1) (dC (.int 1))) ak))) okM Q}{c:Option D}
  (h:Q ((l.map fun a=>(a,d+1)).map tK) M):cD (au 0) cg (bX (ac (ae 0) (ac (aB cr (ae 1) (dC (.int 1))) ak))) okM Q b (l.map jk) [] [c,some (.int (d:Nat))] M:=by
 refine bg (fun xs acc δ N=>∃(dn rs:List (List Rw)) (c0:Option D),l=dn++rs/\xs=rs.map jk/\acc=(dn.map fun a=>(a,d+1)).map tK/\δ=[c0,some (.int (d:Nat))]/\N=M) (fun _ _ _ _ z=>by obtain ⟨_,_,_,_,_,_,_,e⟩:=z;subst e;exact ho) ?_ ?_ ?_ _ _ _ _ ⟨[],l,c,rfl,rfl,rfl,rfl,rfl⟩
 ·rintro acc δ N ⟨dn,rs,c0,e1,e2,rfl,rfl,rfl⟩
  have:rs=[]:=by cases rs with
   |nil=>rfl
   |cons r rs=>simp at e2
  subst this;rw [List.append_nil] at e1;rw [<- e1];exact h
 ·rintro x xs acc δ N ⟨dn,rs,c0,e1,e2,rfl,rfl,rfl⟩ N' hN hN0
  cases rs with
  |nil=>simp at e2
  |cons r rs=>
   simp only [List.map_cons,List.cons.injEq] at e2;obtain ⟨rfl,rfl⟩:=e2;have hd:dn.length<=10:=by have:=congrArg List.length e1;simp at this;lia
   simp! [];refine ⟨szl (by decide),hN _ _ _ (by simp;exact cX (by lia)) ⟨dn++[r],rs,_,by rw [e1];simp,rfl,by simp [tK],rfl,rfl⟩⟩
 ·rintro x xs acc δ N ⟨dn,rs,c0,e1,e2,rfl,rfl,rfl⟩
  have hd:dn.length<=10:=by have:=congrArg List.length e1;simp at this;lia
  simp;exact cX (by lia)
theorem lU{rows:List Rw}(o:iH rows)(hc:cRs rows<=200)(h:Q (.bl (jR names m many rows)) M):rj ad [fK m many names (.tup (ay rows)) d4] M Q E:=by
 simp! [Em,mD,fK,atI_3,dWhile];refine ⟨szl (by decide),szl (by decide),fun p hp=>⟨2*cRs rows+2,?_⟩⟩
 refine fN (fun k δ N=>∃(W:List (List Rw×Nat)) (c:Nat) (c3 c4 c5 c6:Option D),k=nH W/\k<=1000/\(∀w∈W,iH w.1)/\c<=60/\((W.all fun w=>m_ names m many w.2 w.1)&&decide (c+sC W<=60))=jR names m many rows/\δ=[some (fK m many names (.tup (ay rows)) d4),some (.int (c:Nat)),some (.ref p),c3,c4,c5,c6]/\N=M.upd p (.lst (W.map tK))) ?_ _ (nH [(rows,0)]) _ _ (by simp only [nH,sC,List.length_singleton];lia) ⟨[(rows,0)],0,_,_,_,_,rfl,by simp only [nH,sC,List.length_singleton];lia,fun w hw=>by rw [List.mem_singleton] at hw;subst hw;exact o,by lia,?_,rfl,rfl⟩
 ·rintro k δ N ⟨W,c,c3,c4,c5,c6,hk,hk2,hw,h60,hB,rfl,rfl⟩ D' hnx hrt
  rcases List.eq_nil_or_concat W with rfl|⟨W0,⟨a,d⟩,rfl⟩
  ·simp! [List.isEmpty_nil]
   rw [List.all_nil,Bool.true_and,sC,Nat.add_zero,decide_eq_true h60] at hB;rw [<- hB] at h;exact lL hp h
  ·rw [List.concat_eq_append] at*
   have hE:(List.map tK (W0++[(a,d)])).isEmpty=false:=by simp
   have hG:(List.map tK (W0++[(a,d)]))[(List.map tK (W0++[(a,d)])).length-1]?=some (.tup [.tup (ay a),.int (d:Nat)]):=by simp [tK,jk]
   have hL:(List.map tK (W0++[(a,d)])).dropLast=W0.map tK:=by simp
   have hlen:(ay a).length=a.length:=bn;simp only [nH,List.length_append,List.length_singleton,cE,sC,Nat.add_zero] at hk;have hin:=kN (d+1) a;have hin2:=fM (d+1) a;have oa:iH a:=hw (a,d) (by simp)
   have hB2:jR names m many rows=((W0.all fun w=>m_ names m many w.2 w.1)&&(a.all (iw names m many d)&&((a.flatMap wR).all (m_ names m many (d+1))&&decide (c+(sC W0+cRs a)<=60)))):=by
    rw [<- hB,List.all_append,List.all_cons,List.all_nil,Bool.and_true,cE,sC,sC,Nat.add_zero,uP,Bool.and_assoc,Bool.and_assoc]
   have fls:jR names m many rows=false->drp Q (.bl false) (M.upd p (.lst (W0.map tK))):=fun z=>lL hp (by rw [z] at h;exact h)
   simp! [hE,hG,hL,atI_0,atI_1,i4,t4,Mem.upd_upd,hlen,↓aP,↓dFor,hrt]
   by_cases h1:60<(c:Int)+(a.length:Int)
   ·rw [if_pos h1]
    refine fls ?_;rw [hB2,decide_eq_false (by lia),Bool.and_false,Bool.and_false,Bool.and_false]
   rw [if_neg h1];refine rS oa (by lia) aU fun q hq=>?_
   have ea:(a.map (iw names m many d)).all id=a.all (iw names m many d):=by rw [List.all_map];rfl
   simp! [Mem.upd_del,ai hq,fq,ea];cases hs:a.all (iw names m many d) with
   |false=>
    simp! [hrt];refine fls ?_;rw [hB2,hs,Bool.false_and,Bool.and_false]
   |true=>
    rw [hs,Bool.true_and] at hB2;simp! [↓dFor];refine forD_inv (fun xs δ N=>∃(dn rs:List Rw) (c6:Option D),a=dn++rs/\xs=ay rs/\δ=[some (fK m many names (.tup (ay rows)) d4),some (.int ((c:Int)+(a.length:Int))),some (.ref p),some (.tup [.tup (ay a),.int (d:Nat)]),some (.tup (ay a)),some (.int (d:Nat)),c6]/\N=M.upd p (.lst ((W0++within (d+1) dn).map tK))) (fun _ _ _ _=>aU) ?_ ?_ _ _ _ ⟨[],a,_,rfl,rfl,rfl,by simp [within]⟩
    ·rintro δ N ⟨dn,rs,c6,e1,e2,rfl,rfl⟩
     have:rs=[]:=by cases rs with
      |nil=>rfl
      |cons r rs=>simp [ay] at e2
     subst this;rw [List.append_nil] at e1;subst e1;refine hnx (nH (W0++within (d+1) a)) _ _ ?_ ⟨W0++within (d+1) a,c+a.length,_,_,_,_,rfl,?_,?_,by lia,?_,by rw [Int.natCast_add],rfl⟩
     ·simp only [nH,List.length_append,cE];lia
     ·simp only [nH,List.length_append,cE];lia
     ·intro w hw2
      rcases List.mem_append.mp hw2 with z|z
      ·exact hw w (by simp [z])
      ·simp only [within,List.mem_map,List.mem_flatMap] at z
       obtain ⟨b,⟨r,hr,hb⟩,rfl⟩:=z;exact Db (gc oa hr) hb
     ·rw [hB2,List.all_append,cE]
      have e3:(within (d+1) a).all (fun w=>m_ names m many w.2 w.1)=(a.flatMap wR).all (m_ names m many (d+1)):=by
       unfold within;rw [List.all_map];rfl
      have e4:decide (c+(sC W0+cRs a)<=60)=decide (c+a.length+(sC W0+sC (within (d+1) a))<=60):=by rw [decide_eq_decide];lia
      rw [e3,e4,Bool.and_assoc]
    ·rintro x xs δ N ⟨dn,rs,c6,e1,e2,rfl,rfl⟩ D2 hnx2 _ _ _
     cases rs with
     |nil=>simp [ay] at e2
     |cons r rs=>
      simp only [ay,List.cons.injEq] at e2;obtain ⟨rfl,rfl⟩:=e2;have hr:r∈a:=by rw [e1];simp
      have or:=uh (gc oa hr);have hl1:=wV r;have hl2:=fM (d+1) dn;have hl3:dn.length<=200:=by have:=congrArg List.length e1;simp at this;lia
      simp! [↓aP];refine calls_of fun Q' E' hq _=>lc or fun q hqn=>hq _ _ ?_;simp! [Mem.upd_del,ai hqn];refine sO (by lia) aU fun q2 hq2=>?_
      simp! [Mem.upd_del,ai hq2,Mem.upd_same,Mem.upd_upd];refine ⟨szl ?_,hnx2 _ _ ⟨dn++[r],rs,_,by rw [e1];simp,rfl,rfl,?_⟩⟩
      ·simp only [List.length_map,List.length_append];lia
      ·rw [ko,<- List.map_append,List.append_assoc]
       simp [within]
 ·simp only [List.all_cons,List.all_nil,Bool.and_true,sC,Nat.zero_add,Nat.add_zero];rfl
def qr(m many:Int)(names:List Str)(rows:List Rw)(mk:D):Bool:=
 (decide (2<=m)&&decide (m<=997))&&((decide (0<=many)&&decide (many<=40))&&(sL names&&(iN names mk&&jR names m many rows)))
theorem oi{rows:List Rw}{mk:D}(hx:∀x∈names,Let x)(hn:names.length<=60)(o:iH rows)(hc:cRs rows<=200)(hmk:Mk0 mk)(h:Q (.bl (qr m many names rows mk)) M):nB ad [fK m many names (.tup (ay rows)) mk] M Q E:=by
 unfold qr at h;simp! [Ez,mU,fK,i4,t4,atI_0,atI_1,atI_2,atI_4];rw [if_neg (by decide)]
 refine bh (d:=.bl (decide (2<=m)&&decide (m<=997))) (fun Q' E' q=>dZ q) ?_;cases h1:(decide (2<=m)&&decide (m<=997)) with
 |false=>rw [h1,Bool.false_and] at h;simp! [];exact drp_id h
 |true=>
  rw [h1,Bool.true_and] at h;simp! [atI_2];refine bh (d:=.bl (decide (0<=many)&&decide (many<=40))) (fun Q' E' q=>dZ q) ?_;cases h2:(decide (0<=many)&&decide (many<=40)) with
  |false=>rw [h2,Bool.false_and] at h;simp! [];exact drp_id h
  |true=>
   rw [h2,Bool.true_and] at h;simp! [atI_1];refine bh (d:=.bl (sL names)) (fun Q' E' q=>ke hx hn q) ?_;cases h3:sL names with
   |false=>rw [h3,Bool.false_and] at h;simp! [];exact drp_id h
   |true=>
    rw [h3,Bool.true_and] at h;simp! [atI_4];refine bh (d:=.bl (iN names mk)) (fun Q' E' q=>qJ hmk q) ?_;cases h4:iN names mk with
    |false=>rw [h4,Bool.false_and] at h;simp! [];exact drp_id h
    |true=>
     rw [h4,Bool.true_and] at h;simp! [];refine bh (d:=.bl (jR names m many rows)) (fun Q' E' q=>lU o hc q) ?_;simp! [];exact drp_id h
end
end Tw
namespace Tw
open PySem L2 L3 LS
structure RnS(names:List Str)(f:Str->Str)(s s':Sx):Prop where
 st:s'.steps=s.steps
 k:∀x∈names,x∈s.nums.map (·.1)/\f x∈s'.nums.map (·.1)
 g:∀x∈names,gN s'.nums (f x)=gN s.nums x
structure RnR(names:List Str)(f:Str->Str)(r r':Bool×Sx):Prop where
 b:r'.1=r.1
 s:RnS names f r.2 r'.2
section
variable {names:List Str}{f:Str->Str}{s s':Sx}{c:Cf}{pl:List Int}{m many:Int}
theorem RnS.nm(h:RnS names f s s'){x:Str}(hx:x∈names):nm s'.nums (f x)=nm s.nums x:=by unfold Tw.nm;rw [h.g x hx]
theorem RnS.lk(h:RnS names f s s'){x:Str}(hx:x∈names):lk s'.nums (f x)=lk s.nums x:=by unfold Tw.lk;rw [h.nm hx]
theorem B5{v:Int}(h:RnS names f s s'):RnR names f (nt c pl v s) (nt c pl v s'):=by
 unfold nt;rw [h.st]
 by_cases e:s.steps.length<c.most
 ·rw [if_pos e,if_pos e];exact ⟨rfl,rfl,h.k,h.g⟩
 ·rw [if_neg e,if_neg e];exact ⟨rfl,h⟩
theorem Fb(hf:∀x∈names,∀y∈names,f x=f y->x=y)(h:RnS names f s s'){x:Str}(hx:x∈names){v:Int}{st:List (List Int×Int)}:RnS names f ⟨sN s.nums x v,st⟩ ⟨sN s'.nums (f x) v,st⟩:=⟨rfl,fun y hy=>by
 simp only [rP];exact h.k y hy,fun y hy=>by
 simp only [AK (h.k x hx).1,AK (h.k x hx).2]
 by_cases e:y=x
 ·subst e;simp
 ·rw [if_neg e,if_neg (fun z=>e (hf y hy x hx z))];exact h.g y hy⟩
theorem qF{x:Str}(hx:x∈names){b b':Nat->Sx->Bool×Sx}(hb:∀t s s',RnS names f s s'->RnR names f (b t s) (b' t s')):∀(k t:Nat) (s s':Sx),RnS names f s s'->RnR names f (dy c x pl b k t s) (dy c (f x) pl b' k t s')
 |0,t,s,s',h=>⟨rfl,h⟩
 |k+1,t,s,s',h=>by
  have n:=B5 (c:=c) (pl:=pl++[(t:Int)]) (v:=lk s.nums x) h;simp only [dy];rw [h.lk hx,n.b]
  by_cases e:(nt c (pl++[(t:Int)]) (lk s.nums x) s).1=true
  ·rw [if_pos e,if_pos e]
   by_cases e2:lk s.nums x=1
   ·rw [if_pos e2,if_pos e2]
    have q:=hb t _ _ n.s;rw [q.b]
    by_cases e3:(b t (nt c (pl++[(t:Int)]) (lk s.nums x) s).2).1=true
    ·rw [if_pos e3,if_pos e3];exact qF hx hb k _ _ _ q.s
    ·rw [if_neg e3,if_neg e3];exact q
   ·rw [if_neg e2,if_neg e2];exact n
  ·rw [if_neg e,if_neg e];exact n
theorem C0{l:List (Str×Str)}(h:RnS names (ph l) s s'){r:Rw}(o:dl names m many r):fm c s'.nums (mR l r)=fm c s.nums r/\o_ (mR l r)=ph l (o_ r)/\oC (mR l r)=true/\oC r=true/\o_ r∈names:=by
 cases r with
 |ifr=>exact o.elim
 |again=>exact o.elim
 |put x k=>exact ⟨rfl,rfl,rfl,rfl,o.1⟩
 |take x k=>exact ⟨rfl,rfl,rfl,rfl,o.1⟩
 |pick x y=>exact ⟨by simp only [fm,mR,h.nm o.2.1],rfl,rfl,rfl,o.1⟩
 |two w x y z=>exact ⟨by simp only [fm,mR,h.nm o.2.2.1,h.nm o.2.2.2],rfl,rfl,rfl,o.2.1⟩
theorem lZ{l:List (Str×Str)}(hf:∀x∈names,∀y∈names,ph l x=ph l y->x=y)(h:RnS names (ph l) s s'){r:Rw}(o:dl names m many r):RnR names (ph l) (exR c r pl s) (exR c (mR l r) pl s'):=by
 obtain ⟨e1,e2,e3,e4,e5⟩:=C0 (c:=c) h o;rw [bC e3,bC e4];unfold gA;rw [e1,e2,h.st]
 by_cases e:s.steps.length<c.most
 ·rw [if_pos e,if_pos e];exact ⟨rfl,Fb hf h e5⟩
 ·rw [if_neg e,if_neg e];exact ⟨rfl,h⟩
mutual
theorem Dt{l:List (Str×Str)}(hf:∀x∈names,∀y∈names,ph l x=ph l y->x=y):∀(r:Rw),OkR names m many r->∀(pl:List Int) (s s':Sx),RnS names (ph l) s s'->RnR names (ph l) (exR c r pl s) (exR c (mR l r) pl s')
 |.ifr x a b,o,pl,s,s',h=>by
  have n:=B5 (c:=c) (pl:=pl) (v:=lk s.nums x) h;simp only [exR,mR];rw [h.lk o.1,n.b]
  by_cases e:(nt c pl (lk s.nums x) s).1=true
  ·rw [if_pos e,if_pos e]
   by_cases e2:lk s.nums x=1
   ·rw [if_pos e2,if_pos e2];exact gC hf a o.2.1 _ _ _ _ n.s
   ·rw [if_neg e2,if_neg e2];exact gC hf b o.2.2 _ _ _ _ n.s
  ·rw [if_neg e,if_neg e];exact n
 |.again x a,o,pl,s,s',h=>by
  simp only [exR,mR];exact qF o.1 (fun t s s' q=>gC hf a o.2 (pl++[(t:Int)]) 0 s s' q) _ _ _ _ h
 |.put x k,o,pl,s,s',h=>lZ (m:=m) (many:=many) hf h o
 |.take x k,o,pl,s,s',h=>lZ (m:=m) (many:=many) hf h o
 |.pick x y,o,pl,s,s',h=>lZ (m:=m) (many:=many) hf h o
 |.two w x y z,o,pl,s,s',h=>lZ (m:=m) (many:=many) hf h o
theorem gC{l:List (Str×Str)}(hf:∀x∈names,∀y∈names,ph l x=ph l y->x=y):∀(a:List Rw),bV names m many a->∀(pl:List Int) (j:Nat) (s s':Sx),RnS names (ph l) s s'->RnR names (ph l) (cN c a pl j s) (cN c (dI l a) pl j s')
 |[],_,pl,j,s,s',h=>⟨rfl,h⟩
 |r::a,o,pl,j,s,s',h=>by
  have q:=Dt hf r o.1 (pl++[(j:Int)]) s s' h;simp only [cN,dI];rw [q.b]
  by_cases e:(exR c r (pl++[(j:Int)]) s).1=true
  ·rw [if_pos e,if_pos e];exact gC hf a o.2 _ _ _ _ q.s
  ·rw [if_neg e,if_neg e];exact q
end
end
theorem lI{α:Type}{fr:Nat->Str}{nu:Nat->α}{i:Nat}:∀{os:List Nat},i∈os->(∀k∈os,fr k=fr i->k=i)->((os.map fun k=>(fr k,nu k)).find? fun p=>decide (p.1=fr i)).map (·.2)=some (nu i)
 |[],h,_=>by simp at h
 |k::os,h,hk=>by
  by_cases e:fr k=fr i
  ·have:=hk k (by simp) e
   subst this;simp
  ·have hi:i∈os:=by
    rcases List.mem_cons.mp h with rfl|h
    ·exact absurd rfl e
    ·exact h
   have:=lI (nu:=nu) hi fun k hk'=>hk k (List.mem_cons_of_mem _ hk');simpa [e] using this
theorem ly{α β:Type}{n:Nat}{a:Nat->α}{b:Nat->β}:((List.range n).map a).zip ((List.range n).map b)=(List.range n).map fun k=>(a k,b k):=by
 rw [List.zip_map']
theorem jl{α:Type}(d:α)(l:List α):l=(List.range l.length).map fun k=>(l[k]?).getD d:=by
 apply List.ext_getElem (by simp)
 intro i h1 h2;simp [List.getElem?_eq_getElem h1]
section
variable {n:Nat}{na fr:Nat->Str}{nu:Nat->Int}{os:List Nat}{c:Cf}{rows:List Rw}{m many:Int}
theorem wo(hn:∀i<n,∀k<n,na k=na i->k=i){i:Nat}(hi:i<n):ph ((List.range n).map fun k=>(na k,fr k)) (na i)=fr i:=by
 unfold ph;rw [lI (List.mem_range.mpr hi) fun k hk=>hn i hi k (List.mem_range.mp hk)];rfl
theorem AN{is:List Nat}(h:∀i∈is,i<n)(hn:∀i<n,∀k<n,na k=na i->k=i){i:Nat}(hi:i∈is):gN (is.map fun k=>(na k,nu k)) (na i)=some (nu i):=by
 unfold gN;rw [lI hi fun k hk=>hn i (h i hi) k (h k hk)]
theorem tQ(ho:∀i,i∈os↔i<n)(hn:∀i<n,∀k<n,na k=na i->k=i)(hr:∀i<n,∀k<n,fr k=fr i->k=i):
  RnS ((List.range n).map na) (ph ((List.range n).map fun k=>(na k,fr k))) ⟨((List.range n).map na).zip ((List.range n).map nu),[]⟩ ⟨(os.map fr).zip (os.map nu),[]⟩:=by
 refine ⟨rfl,fun x hx=>?_,fun x hx=>?_⟩
 ·obtain ⟨i,hi,rfl⟩:=List.mem_map.mp hx
  have hi':=List.mem_range.mp hi;rw [wo hn hi',ly,List.zip_map'];exact ⟨List.mem_map.mpr ⟨(na i,nu i),List.mem_map.mpr ⟨i,hi,rfl⟩,rfl⟩,List.mem_map.mpr ⟨(fr i,nu i),List.mem_map.mpr ⟨i,(ho i).mpr hi',rfl⟩,rfl⟩⟩
 ·obtain ⟨i,hi,rfl⟩:=List.mem_map.mp hx
  have hi':=List.mem_range.mp hi;rw [wo hn hi',ly,List.zip_map',AN (fun i h=>List.mem_range.mp h) hn hi,AN (fun i h=>(ho i).mp h) hr ((ho i).mpr hi')]
end
end Tw
namespace Tw
open PySem L2 L3 LS
section
variable {l:List (Str×Str)}{names:List Str}{m many:Int}
mutual
theorem Fv{ns:List Str}(hs:∀x∈names,ph l x∈ns):∀r:Rw,OkR names m many r->OkR ns m many (mR l r)
 |.ifr x a b,h=>by simp only [OkR,mR] at h ⊢;exact ⟨hs _ h.1,j5 hs a h.2.1,j5 hs b h.2.2⟩
 |.again x a,h=>by simp only [OkR,mR] at h ⊢;exact ⟨hs _ h.1,j5 hs a h.2⟩
 |.put x k,h=>by simp only [OkR,dl,mR] at h ⊢;exact ⟨hs _ h.1,h.2⟩
 |.take x k,h=>by simp only [OkR,dl,mR] at h ⊢;exact ⟨hs _ h.1,h.2⟩
 |.pick x y,h=>by simp only [OkR,dl,mR] at h ⊢;exact ⟨hs _ h.1,hs _ h.2.1,h.2.2⟩
 |.two w x y z,h=>by simp only [OkR,dl,mR] at h ⊢;exact ⟨h.1,hs _ h.2.1,hs _ h.2.2.1,hs _ h.2.2.2⟩
theorem j5{ns:List Str}(hs:∀x∈names,ph l x∈ns):∀a:List Rw,bV names m many a->bV ns m many (dI l a)
 |[],_=>trivial
 |r::a,o=>⟨Fv hs r o.1,j5 hs a o.2⟩
end
mutual
theorem F7:∀r:Rw,sR (mR l r)=(sR r).map (mR l)
 |.ifr x a b=>by simp only [sR,mR,fk a,fk b,List.map_append]
 |.again x a=>by simp only [sR,mR,fk a]
 |.put x k=>rfl
 |.take x k=>rfl
 |.pick x y=>rfl
 |.two w x y z=>rfl
theorem fk:∀a:List Rw,cU (dI l a)=(cU a).map (mR l)
 |[]=>rfl
 |r::a=>by simp only [cU,dI,F7 r,fk a,List.map_append]
end
theorem zr(a:List Rw):x6 (dI l a)=(x6 a).map (ph l):=by
 unfold x6;rw [fk,List.map_map,List.map_map];apply List.map_congr_left;intro r _;cases r<;>rfl
theorem r9:∀a:List Rw,tf (a.map (mR l))=tf a
 |[]=>rfl
 |r::a=>by
  have:=r9 a;unfold tf at this ⊢;cases r<;>simp [mR,tk1,List.filterMap_cons,this]
theorem any_map:∀a:List Rw,(a.map (mR l)).any xa=a.any xa
 |[]=>rfl
 |r::a=>by
  rw [List.map_cons,List.any_cons,List.any_cons,any_map a];cases r<;>rfl
theorem uU(a:List Rw):pO many (dI l a)=pO many a:=by unfold pO;rw [fk,any_map,r9]
theorem mem_sset{K:Type}[DecidableEq K]{o:LS.Ord K}{xs:List K}{x:K}:x∈d_ o xs↔x∈xs:=by
 unfold d_;rw [e_];simp [(cL o xs).mem_iff]
theorem Ab{K:Type}[DecidableEq K]{o:LS.Ord K}{xs:List K}:(d_ o xs).Nodup:=gb _ _ (by simp)
theorem wv{f:Str->Str}{xs:List Str}(hf:∀x∈xs,∀y∈xs,f x=f y->x=y):xk oStr ((d_ oStr xs).map f)=d_ oStr (xs.map f):=by
 refine lg oStr (iX oStr _) (ld _ _ ?_ (gb _ _ (by simp)) fun x=>?_)
 ·rw [(cL oStr _).nodup_iff]
  refine List.pairwise_map.mpr (List.Pairwise.imp_of_mem ?_ (Ab (o:=oStr) (xs:=xs)));intro x y hx hy n e;exact n (hf x (mem_sset.mp hx) y (mem_sset.mp hy) e)
 ·rw [(cL oStr _).mem_iff,e_]
  simp [mem_sset]
end
section
variable {names:List Str}{m many:Int}
mutual
theorem E3:∀r:Rw,OkR names m many r->EQ r
 |.ifr x a b,h=>⟨gE a h.2.1,gE b h.2.2⟩
 |.again x a,h=>gE a h.2
 |.put x k,h=>trivial
 |.take x k,h=>trivial
 |.pick x k,h=>trivial
 |.two w x y z,h=>h.1
theorem gE:∀a:List Rw,bV names m many a->iH a
 |[],_=>trivial
 |r::a,o=>⟨E3 r o.1,gE a o.2⟩
end
mutual
theorem EN:∀(r:Rw) (d:Nat),OkR names m many r->hR r+d<=4->rV names m many d r=true
 |.ifr x a b,d,o,h=>by
  simp only [hR] at h;simp only [rV,iw,jS a (d+1) o.2.1 (by lia),jS b (d+1) o.2.2 (by lia),decide_eq_true o.1,decide_eq_true (show d≠4 by lia),Bool.and_self]
 |.again x a,d,o,h=>by
  simp only [hR] at h;simp only [rV,iw,jS a (d+1) o.2 (by lia),decide_eq_true o.1,decide_eq_true (show d≠4 by lia),Bool.and_self]
 |.put x k,d,o,h=>by
  have:=o.2.2;simp only [rV,iw,decide_eq_true o.1,decide_eq_true o.2.1,decide_eq_true (show k<=m-1 by lia),Bool.and_self]
 |.take x k,d,o,h=>by
  have:=o.2.2;simp only [rV,iw,decide_eq_true o.1,decide_eq_true o.2.1,decide_eq_true (show k<=many-1 by lia),Bool.and_self]
 |.pick x k,d,o,h=>by
  have:=o.2.2;simp only [rV,iw,decide_eq_true o.1,decide_eq_true o.2.1,decide_eq_true (show many≠0 by lia),Bool.and_self]
 |.two w x y z,d,o,h=>by
  simp only [rV,iw,decide_eq_true o.2.1,decide_eq_true o.2.2.1,decide_eq_true o.2.2.2,Bool.and_self]
theorem jS:∀(a:List Rw) (d:Nat),bV names m many a->di a+d<=4->m_ names m many d a=true
 |[],d,_,_=>rfl
 |r::a,d,o,h=>by
  simp only [di] at h;rw [m_,EN r d o.1 (by lia),jS a d o.2 (by lia)];rfl
end
theorem nq:∀(ss l:List Str),(l++ss).Nodup->(cw l ss).length=l.length+ss.length
 |[],l,_=>by simp [cw]
 |x::ss,l,hn=>by
  unfold cw;have hx:x∉l:=fun hx=>(List.nodup_append.mp hn).2.2 x hx x (by simp) rfl
  rw [if_neg hx,nq ss (l++[x]) (by simpa using hn)]
  simp;lia
theorem qw{x:Str}(h:pU x):Let x/\uK x=true:=by
 obtain ⟨n,c,h1,h2,h3,h4,rfl⟩:=h;refine ⟨⟨by show Array.size _<=100;simp;lia,fun d hd=>?_⟩,?_⟩
 ·simp at hd;lia
 ·have e:Str.length ⟨Array.replicate n c⟩=n:=by show Array.size _=n;simp
  unfold uK;rw [e,decide_eq_true h1,decide_eq_true h2];rfl
theorem sP{ad:Ad}{M:Mem}{Q:DK}{E:DX}{rows:List Rw}{mk:Str}(m2:2<=m)(m1:m<=997)(k0:0<=many)(k1:many<=40)(n0:1<=names.length)(n1:names.length<=12)(nd:names.Nodup)(one:∀x∈names,pU x)(ok:bV names m many rows)(hh:di rows<=4)(hc:cRs rows<=60)(hm:mk∈names)
  (h:Q (.bl true) M):nB ad [jJ m many names rows mk] M Q E:=by
 refine oi (fun x hx=>(qw (one x hx)).1) (by lia) (gE rows ok) (by lia) trivial ?_
 have e:qr m many names rows (.str mk)=true:=by
  have e1:names.all uK=true:=List.all_eq_true.mpr fun x hx=>(qw (one x hx)).2;have e2:=nq names [] (by simpa using nd)
  simp only [List.length_nil,Nat.zero_add] at e2;simp only [qr,sL,iN,jR,e1,e2,jS rows 0 ok (by lia),decide_eq_true m2,decide_eq_true m1,decide_eq_true k0,decide_eq_true k1,decide_eq_true n0,decide_eq_true n1,decide_eq_true hm,decide_eq_true hc,decide_true,Bool.and_self]
 rw [e];exact h
end
section
variable {ad:Ad}{c:Cf}{names:List Str}{rows:List Rw}{mk:Str}{M:Mem}{nums:List Int}
def kd(mk:Str)(r:Bool×Sx):D:=if r.1=true then .int (nm r.2.nums mk) else .non
theorem u_:∀{names:List Str},mk∈names->∃j,names.findIdx? (fun y=>decide (y=mk))=some j/\names[j]?=some mk
 |[],h=>by simp at h
 |x::names,h=>by
  by_cases e:x=mk
  ·subst e;exact ⟨0,by simp [List.findIdx?_cons],rfl⟩
  ·have h2:mk∈names:=by
    rcases List.mem_cons.mp h with z|z
    ·exact absurd z.symm e
    ·exact z
   obtain ⟨j,h3,h4⟩:=u_ h2;exact ⟨j+1,by simp [List.findIdx?_cons,e,h3],by simpa using h4⟩
theorem kD{Q:DK}{E:DX}(p:PlOk c names rows nums)(hm:mk∈names)(h:Q (kd mk (b_ c names rows nums)) M):mq ad [planD c names rows mk,standD nums c.pieces,.int (c.most:Nat)] M Q E:=by
 have l1:=p.l1;obtain ⟨j,e1,e2⟩:=u_ hm;simp! [Fd,nR];refine jO p ?_;simp! [ui,atI_1];unfold kd at h;unfold eR;cases e:(b_ c names rows nums).1 with
 |true=>
  rw [e,if_pos rfl] at h;rw [if_pos rfl];simp! [planD,atI_1,atI_4,strsOf_map,e1];refine ⟨l1,?_⟩;have e3:atI (names.map fun x=>D.int (nm (b_ c names rows nums).2.nums x)) (j:Nat)=some (.int (nm (b_ c names rows nums).2.nums mk)):=by
   rw [cb (by lia),Int.toNat_natCast,List.getElem?_map,e2];rfl
  simp! [e3];exact drp_id h
 |false=>
  rw [e,if_neg (by simp)] at h
  rw [if_neg (by simp)]
  simp! [];exact drp_id h
end
end Tw
namespace Tw
open PySem L2 L3 LS
section
variable {M:Mem}{te:bL}
theorem Aw{tt:eD}{ok:Mem->Prop}{Q:List D->Mem->Prop}{b:BxC (au 0) tt te ok Q}{rest:Dl}{c:Option D}{xs:List D}(p:D->Bool)(f:D->D)(ho:ok M)(hl:xs.length<=100000)
  (ht:∀x∈xs,∀K:Bool->Mem->Prop,K (p x) M->tt (some x::rest) M K) (he:∀x∈xs,p x=true->∀K:DK,K (f x) M->te (some x::rest) M K) (h:Q ((xs.filter p).map f) M):
  cD (au 0) tt te ok Q b xs [] (c::rest) M:=by
 refine bg (fun ys acc δ N=>∃(us:List D) (c0:Option D),xs=us++ys/\acc=(us.filter p).map f/\δ=c0::rest/\M=N) (fun _ _ _ _ z=>by obtain ⟨_,_,_,_,_,rfl⟩:=z;exact ho) ?_ ?_ ?_ _ _ _ _ ⟨[],c,rfl,rfl,rfl,rfl⟩
 ·rintro acc δ N ⟨us,c0,e1,rfl,rfl,rfl⟩
  rw [List.append_nil] at e1;subst e1;exact h
 ·rintro y ys acc δ N ⟨us,c0,e1,rfl,rfl,rfl⟩ N' hN1 hN2
  have hy:y∈xs:=by rw [e1];simp
  have hlen:((us.filter p).map f).length<sizeLine:=by
   have h1:(us.filter p).length<=us.length:=List.length_filter_le ..;have h2:=congrArg List.length e1;rw [List.length_append] at h2;rw [List.length_map];exact cX (by lia)
  refine ht y hy (fun c M3=>if c=true then te (some y::rest) M3 fun z M4=>N' true z (some y::rest) M4 else N' false .non (some y::rest) M3) ?_
  cases hp:p y with
  |true=>
   rw [if_pos rfl];exact he y hy hp _ (hN1 _ _ _ hlen ⟨us++[y],_,by rw [e1];simp,by simp [hp],rfl,rfl⟩)
  |false=>
   rw [if_neg (by simp)]
   exact hN2 _ _ _ ⟨us++[y],_,by rw [e1];simp,by simp [hp],rfl,rfl⟩
 ·rintro y ys acc δ N ⟨us,c0,e1,rfl,rfl,rfl⟩
  have h1:(us.filter p).length<=us.length:=List.length_filter_le ..;have h2:=congrArg List.length e1;rw [List.length_append] at h2;rw [List.length_map];exact cX (by lia)
theorem gr{ok:Mem->Prop}{Q:List D->Mem->Prop}{b:BxC (au 0) cg te ok Q}{rest:Dl}{c:Option D}{xs:List D}(f:D->D)(ho:ok M)(hl:xs.length<=100000)
  (he:∀x∈xs,∀K:DK,K (f x) M->te (some x::rest) M K) (h:Q (xs.map f) M):cD (au 0) cg te ok Q b xs [] (c::rest) M:=by
 refine Aw (fun _=>true) f ho hl (fun x _ K q=>q) (fun x hx _=>he x hx) ?_;rw [List.filter_eq_self.mpr fun _ _=>rfl];exact h
end
def bj(l:List Nat):List D:=l.map fun k=>.int (k:Nat)
theorem jP:∀(l:List Nat) (j:Nat),(bj l).eraseIdx j=bj (l.eraseIdx j)
 |[],_=>rfl
 |_::_,0=>rfl
 |x::l,j+1=>by
  have:=jP l j;unfold bj at this ⊢;simp [this]
theorem jW:∀(l:List Nat) (j:Nat) (h:j<l.length),(l[j]::l.eraseIdx j).Perm l
 |[],_,h=>by simp at h
 |_::_,0,_=>.refl _
 |x::l,j+1,h=>by
  have h':j<l.length:=by simpa using h
  simp only [List.getElem_cons_succ,List.eraseIdx_cons_succ];exact (List.Perm.swap ..).trans ((jW l j h').cons x)
theorem kX{n:Nat}:∀l:List Nat,fits n (bj l)=true
 |[]=>rfl
 |x::l=>by unfold bj;rw [List.map_cons,fits,<- bj,kX l,cP];rfl
theorem wT{n:Nat}(l:List Nat):cP (n+1) (.lst (bj l))=true:=by rw [cP];exact kX l
theorem wf(l:List Nat):ba (.lst (bj l)) (.lst [])=l.isEmpty:=by cases l<;>rfl
theorem xP{n j:Nat}(h:j<n):oR n (j:Nat)=some j:=by
 unfold oR;simp;lia
section
variable {ad:Ad}{k:Pt}{M:Mem}
def lawδ(x0 x2 x3 x4 x5:D)(p d a7 a8:Addr):Dl:=[some x0,some (.ref p),some x2,some x3,some x4,some x5,some (.ref d),some (.ref a7),some (.ref a8),none,none,none,none,none]
theorem order_loop{EE:DX}{DD:DEnds}{x0 x2 x3 x4 x5:D}{d a7 a8:Addr}{n:Nat}(hn:n<=12)(h78:a7≠a8)(n7:a7≠k.p/\a7≠k.q)(n8:a8≠k.p/\a8≠k.q)(hp:Has k M)(h7:M a7=some (.lst (bj (List.range n))))(h8:M a8=some (.lst []))
  (h:∀os M',os.Perm (List.range n)->M' a8=some (.lst (bj os))->(∀b o,b≠k.p->b≠k.q->b≠a7->b≠a8->M b=some o->M' b=some o)->DD.nx (lawδ x0 x2 x3 x4 x5 k.p d a7 a8) M'):
  dWhile (aI (aB tJ (ae 7) (aF (cC ak)))) (qt ad EE) DD (lawδ x0 x2 x3 x4 x5 k.p d a7 a8) M:=by
 refine ⟨n+1,fN (fun μ δ N=>∃left os:List Nat,δ=lawδ x0 x2 x3 x4 x5 k.p d a7 a8/\left.length=μ/\(os++left).Perm (List.range n)/\N a7=some (.lst (bj left))/\N a8=some (.lst (bj os))/\Has k N/\∀b o,b≠k.p->b≠k.q->b≠a7->b≠a8->M b=some o->N b=some o) ?_ (n+1) n _ _ (by lia) ⟨List.range n,[],rfl,by simp,by simp,h7,h8,hp,fun b o _ _ _ _ e=>e⟩⟩
 rintro μ δ N ⟨left,os,rfl,rfl,pm,h7,h8,hp,fr⟩ D' hnx _
 have hlen:os.length+left.length=n:=by have:=pm.length_eq;simpa using this
 simp! [lawδ,h7];refine ⟨szl (by decide),fun p hpn=>?_⟩
 simp! [Mem.upd_del,ai hpn,h7,h8,wf];refine ⟨wT _,?_⟩;cases left with
 |nil=>exact h os N (by simpa using pm) h8 fr
 |cons y left=>
  have hl2:((bj (y::left)).length:Int)=((y::left).length:Nat):=by simp [bj]
  rw [if_pos (show (!(y::left).isEmpty)=true from rfl),hl2];refine aV hp (by simp only [List.length_cons];lia) (by simp only [List.length_cons] at hlen ⊢;lia) fun r M2 a2 b2 d2=>?_
  have g7:M2 a7=some (.lst (bj (y::left))):=by rw [d2.2 a7 n7.1 n7.2];exact h7
  have g8:M2 a8=some (.lst (bj os)):=by rw [d2.2 a8 n8.1 n8.2];exact h8
  obtain ⟨j,rfl⟩:=Int.eq_ofNat_of_zero_le a2;have hj:j<(y::left).length:=by lia
  have e1:oR (bj (y::left)).length (j:Nat)=some j:=by
   have:(bj (y::left)).length=(y::left).length:=by simp [bj]
   rw [this];exact xP hj
  have e2:(bj (y::left))[j]?=some (.int (((y::left)[j]:Nat):Int)):=by
   unfold bj;rw [List.getElem?_map,List.getElem?_eq_getElem hj];rfl
  have e3:(bj (y::left)).eraseIdx j=bj ((y::left).eraseIdx j):=jP _ _;simp! [g7,e1,e2,e3,aj h78.symm,g8];refine ⟨cX (by simp only [bj,List.length_map];lia),hnx _ _ _ (by rw [List.length_eraseIdx_of_lt hj];exact Nat.sub_lt (by simp) (by decide)) ⟨(y::left).eraseIdx j,os++[(y::left)[j]],rfl,rfl,?_,?_,?_,(d2.1.upd n7).upd n8,fun b o h1 h2 h3 h4 e=>?_⟩⟩
  ·refine List.Perm.trans ?_ pm
   rw [List.append_assoc];refine List.Perm.append_left os ?_;exact jW _ _ hj
  ·rw [aj h78,Mem.upd_same]
  ·rw [Mem.upd_same];simp [bj]
  ·rw [aj h4,aj h3,d2.2 b h1 h2];exact fr b o h1 h2 h3 h4 e
end
end Tw
namespace Tw
open PySem L2 L3 LS
def fD(g:Nat->D):D->D
 |.int i=>g i.toNat
 |_=>.non
theorem jc{α:Type}(g:Nat->α)(h:α->D)(os:List Nat):(bj os).map (fD fun k=>h (g k))=(os.map g).map h:=by
 unfold bj;rw [List.map_map,List.map_map];apply List.map_congr_left;intro k _;simp [fD]
theorem jK{os:List Nat}{x:D}(h:x∈bj os):∃k∈os,x=.int (k:Nat):=by
 obtain ⟨k,hk,rfl⟩:=List.mem_map.mp h;exact ⟨k,hk,rfl⟩
theorem oV{α:Type}{n:Nat}{g:Nat->α}{h:α->D}{k:Nat}(hk:k<n):atI (((List.range n).map g).map h) (k:Nat)=some (h (g k)):=by
 rw [cb (by lia),Int.toNat_natCast,List.getElem?_map,List.getElem?_map,List.getElem?_range hk];rfl
section
variable {M:Mem}{K:DK}{i:Nat}{y:D}
theorem AO{xs:List D}(h:atI xs (i:Nat)=some y)(q:K y M):aB bd (ae 1) (ae 0) [some (.int (i:Nat)),some (.tup xs)] M K:=by simp! [h];exact q
theorem Et{l:List (Str×Str)}{x:Str}{d:Addr}(hM:M d=some (.dK (bS l)))(hx:x∈l.map (·.1))(q:K (.str (ph l x)) M):aB bd (ae 1) (ae 0) [some (.str x),some (.ref d)] M K:=by simp! [hM,valD_kvs hx];exact q
theorem Fz{xs:List D}{z:D}(h:atI xs (i:Nat)=some y)(q:K y M):aB bd (aB bd (ae 1) (dC (.int 0))) (ae 0) [some (.int (i:Nat)),some (.tup [.tup xs,z])] M K:=by simp! [atI_0,h];exact q
end
structure Dn(n:Nat)(na fr:Nat->Str)(nu:Nat->Int)(os:List Nat)(c:Cf)(rows:List Rw)(mk:Str):Prop where
 pl:PlG c.m c.pieces.length ((List.range n).map na) rows mk
 n1:n<=12
 n0:1<=n
 ia:∀i<n,∀k<n,na k=na i->k=i
 ir:∀i<n,∀k<n,fr k=fr i->k=i
 one:∀i<n,pU (fr i)
 po:os.Perm (List.range n)
 nr:∀i<n,0<=nu i/\nu i<c.m
 pr:∀v∈c.pieces,0<=v/\v<c.m
 mo:c.most<=300
section
variable {ad:Ad}{M:Mem}{n:Nat}{na fr:Nat->Str}{nu:Nat->Int}{os:List Nat}{c:Cf}{rows:List Rw}{mk:Str}{x0:D}{p d a7 a8:Addr}
def fw(n:Nat)(na fr:Nat->Str):List (Str×Str):=(List.range n).map fun k=>(na k,fr k)
def NA(n:Nat)(na:Nat->Str):List Str:=(List.range n).map na
def NU(n:Nat)(nu:Nat->Int):List Int:=(List.range n).map nu
theorem hin:∀x∈NA n na,x∈(fw n na fr).map (·.1):=fun x hx=>by
 unfold fw;rw [List.map_map];exact hx
theorem Dn.hos(G:Dn n na fr nu os c rows mk):∀i,i∈os↔i<n:=fun i=>by rw [G.po.mem_iff,List.mem_range]
theorem Dn.hol(G:Dn n na fr nu os c rows mk):os.length=n:=by rw [G.po.length_eq,List.length_range]
theorem Dn.nd'(G:Dn n na fr nu os c rows mk):(os.map fr).Nodup:=List.pairwise_map.mpr (List.Pairwise.imp_of_mem (fun hx hy n e=>n (G.ir _ ((G.hos _).mp hy) _ ((G.hos _).mp hx) e)) (G.po.nodup_iff.mpr List.nodup_range))
theorem Dn.one'(G:Dn n na fr nu os c rows mk):∀x∈os.map fr,pU x:=fun x hx=>by
 obtain ⟨i,hi,rfl⟩:=List.mem_map.mp hx;exact G.one i ((G.hos i).mp hi)
theorem Dn.phr(G:Dn n na fr nu os c rows mk){i:Nat}(hi:i<n):ph (fw n na fr) (na i)=fr i:=wo G.ia hi
theorem Dn.hs(G:Dn n na fr nu os c rows mk):∀x∈NA n na,ph (fw n na fr) x∈os.map fr:=fun x hx=>by
 obtain ⟨i,hi,rfl⟩:=List.mem_map.mp hx;have hi:=List.mem_range.mp hi;rw [G.phr hi];exact List.mem_map.mpr ⟨i,(G.hos i).mpr hi,rfl⟩
theorem Dn.ok'(G:Dn n na fr nu os c rows mk):bV (os.map fr) c.m c.pieces.length (dI (fw n na fr) rows):=j5 G.hs rows G.pl.ok
theorem Dn.hh'(G:Dn n na fr nu os c rows mk):di (dI (fw n na fr) rows)<=4:=by rw [mw];exact G.pl.h
theorem Dn.hc'(G:Dn n na fr nu os c rows mk):cRs (dI (fw n na fr) rows)<=60:=by rw [on];exact G.pl.cn
theorem Dn.co(G:Dn n na fr nu os c rows mk):COk c:=⟨G.pl.t.m2,G.pl.t.m1,G.pr,by have:=G.pl.t.k1;lia,by have:=G.mo;lia⟩
theorem Dn.p1(G:Dn n na fr nu os c rows mk):PlOk c (NA n na) rows (NU n nu):=⟨G.co,by simp [NA,NU],G.pl.nd,by simp [NA];have:=G.n0;lia,by simp [NA];have:=G.n1;lia,fun v hv=>by
 obtain ⟨i,hi,rfl⟩:=List.mem_map.mp hv;exact G.nr i (List.mem_range.mp hi),G.pl.ok,by have:=G.pl.h;lia⟩
theorem Dn.p2(G:Dn n na fr nu os c rows mk):PlOk c (os.map fr) (dI (fw n na fr) rows) (os.map nu):=⟨G.co,by simp,G.nd',by rw [List.length_map,G.hol];have:=G.n0;lia,by rw [List.length_map,G.hol];have:=G.n1;lia,fun v hv=>by
 obtain ⟨i,hi,rfl⟩:=List.mem_map.mp hv;exact G.nr i ((G.hos i).mp hi),G.ok',by have:=G.hh';lia⟩
theorem Dn.inj(G:Dn n na fr nu os c rows mk):∀x∈NA n na,∀y∈NA n na,ph (fw n na fr) x=ph (fw n na fr) y->x=y:=fun x hx y hy e=>by
 obtain ⟨i,hi,rfl⟩:=List.mem_map.mp hx;obtain ⟨j,hj,rfl⟩:=List.mem_map.mp hy;have hi:=List.mem_range.mp hi;have hj:=List.mem_range.mp hj;rw [G.phr hi,G.phr hj] at e;rw [G.ir j hj i hi e]
theorem Dn.rn(G:Dn n na fr nu os c rows mk):RnR (NA n na) (ph (fw n na fr)) (b_ c (NA n na) rows (NU n nu)) (b_ c (os.map fr) (dI (fw n na fr) rows) (os.map nu)):=
 gC G.inj rows G.pl.ok _ _ _ _ (tQ G.hos G.ia G.ir)
theorem Dn.fin(G:Dn n na fr nu os c rows mk):eR (os.map fr) (b_ c (os.map fr) (dI (fw n na fr) rows) (os.map nu))=if (b_ c (NA n na) rows (NU n nu)).1=true then .tup ((os.map na).map fun x=>.int (nm (b_ c (NA n na) rows (NU n nu)).2.nums x)) else .non:=by
 have r:=G.rn;unfold eR;rw [r.b]
 by_cases e:(b_ c (NA n na) rows (NU n nu)).1=true
 ·rw [if_pos e,if_pos e,List.map_map,List.map_map]
  congr 1;apply List.map_congr_left;intro i hi;have hi:=(G.hos i).mp hi;have:=r.s.nm (x:=na i) (List.mem_map.mpr ⟨i,List.mem_range.mpr hi,rfl⟩);rw [G.phr hi] at this;simp only [Function.comp,this]
 ·rw [if_neg e,if_neg e]
theorem Dn.mrk(G:Dn n na fr nu os c rows mk):kd (ph (fw n na fr) mk) (b_ c (os.map fr) (dI (fw n na fr) rows) (os.map nu))=kd mk (b_ c (NA n na) rows (NU n nu)):=by
 have r:=G.rn;unfold kd;rw [r.b,r.s.nm G.pl.mkm]
theorem qN{r:Bool×Sx}{K:DK}(h:K (kd mk r) M):frz (kd mk r) M K:=by
 unfold kd at h ⊢
 by_cases e:r.1=true
 ·rw [if_pos e] at h ⊢;exact h
 ·rw [if_neg e] at h ⊢;exact h
theorem zI{n:Nat}{r:Bool×Sx}:tM n (kd mk r):=by
 unfold kd
 by_cases e:r.1=true
 ·rw [if_pos e];cases n<;>trivial
 ·rw [if_neg e];cases n<;>trivial
theorem wF{n:Nat}{ss:List Str}(h:ss.length<=1000):tM (n+1) (.lst (ss.map D.str)):=by
 refine ⟨by simp;lia,fun x hx=>?_⟩
 simp only [List.mem_map] at hx;obtain ⟨y,_,rfl⟩:=hx;cases n<;>trivial
theorem vb{n:Nat}{ss:List Int}(h:ss.length<=1000):tM (n+1) (.lst (ss.map D.int)):=by
 refine ⟨by simp;lia,fun x hx=>?_⟩
 simp only [List.mem_map] at hx;obtain ⟨y,_,rfl⟩:=hx;cases n<;>trivial
theorem oj{K:Type}[DecidableEq K]{o:LS.Ord K}{xs:List K}:(d_ o xs).length<=xs.length:=by
 unfold d_;have:=gw (xk o xs) [];rw [(cL o xs).length_eq] at this;simpa using this
theorem uW{many:Int}{a:List Rw}(h:many<=40)(hc:cRs a<=60):(pO many a).length<=1000:=by
 unfold pO
 by_cases e:(cU a).any xa=true
 ·rw [if_pos e];simp;lia
 ·rw [if_neg e]
  have h1:=oj (o:=oJ) (xs:=tf (cU a));have h2:(tf (cU a)).length<=(cU a).length:=List.length_filterMap_le ..;have h3:=cW a;lia
def δE(x0 x5:D)(p d a7 a8:Addr)(c:Cf)(n:Nat)(na fr:Nat->Str)(nu:Nat->Int)(os:List Nat)(rows:List Rw)(mk:Str)(s e:Option D):Dl:=[some x0,some (.ref p),some (planD c (NA n na) rows mk),some (standD (NU n nu) c.pieces),some (.int (c.most:Nat)),some x5,some (.ref d),some (.ref a7),some (.ref a8),some (.tup (ay (dI (fw n na fr) rows))),some (planD c (os.map fr) (dI (fw n na fr) rows) (ph (fw n na fr) mk)),some (standD (os.map nu) c.pieces),s,e]
abbrev EndT:DEnds:={ nx:=fun _ M'=>drp (fun d _=>d=D.bl true) D.non M',rt:=drp fun d _=>d=D.bl true }
theorem Bv{x5:D}{s e:Option D}(G:Dn n na fr nu os c rows mk)(hM:M d=some (.dK (bS (fw n na fr)))):qG ad (drpX NoX) EndT (δE x0 x5 p d a7 a8 c n na fr nu os rows mk s e) M:=by
 have h1:=z8 (rows:=rows);have h2:=oj (o:=oStr) (xs:=x6 rows);have h3:=G.pl.cn;have k1:=G.pl.t.k1;have hxs:∀x∈x6 rows,x∈NA n na:=fun x hx=>by
  obtain ⟨r,hr,rfl⟩:=List.mem_map.mp hx;have:=gL rows G.pl.ok r hr;cases r with
  |ifr=>exact this.1
  |again=>exact this.1
  |put=>exact this.1
  |take=>exact this.1
  |pick=>exact this.1
  |two=>exact this.2.1
 simp! [δE,planD];refine calls_of fun Q' E' hq _=>kG G.hh' G.ok' G.hc' fun q1 n1=>hq _ _ ?_;simp! [δE,planD,Mem.upd_del,ai n1,atI_3,↓aP];refine calls_of fun Q' E' hq _=>kG G.pl.h G.pl.ok G.pl.cn fun q2 n2=>hq _ _ ?_;simp! [δE,planD,Mem.upd_del,ai n2];refine gr (rZ (fw n na fr)) aU (by rw [List.length_map];lia) (fun x hx K q=>?_) ?_
 ·obtain ⟨y,hy,rfl⟩:=List.mem_map.mp hx
  exact Et hM (hin y (hxs y (mem_sset.mp hy))) q
 rw [List.map_map,show (d_ oStr (x6 rows)).map (rZ (fw n na fr) ∘ D.str)=((d_ oStr (x6 rows)).map (ph (fw n na fr))).map D.str by rw [List.map_map];rfl]
 intro q3 n3;simp! [δE,planD,Mem.upd_del,ai n3,strsOf_map];refine ⟨by rw [List.length_map];lia,fun q4 n4=>?_⟩
 rw [zr,<- wv (fun x hx y hy=>G.inj x (hxs x hx) y (hxs y hy)),ai n4];refine ee rfl (wF (n:=22) (by rw [(cL oStr _).length_eq,List.length_map];lia)) ?_
 simp! [δE,planD];refine calls_of fun Q' E' hq _=>ot G.pl.t.k0 k1 G.hh' G.ok' G.hc' fun q5 n5=>hq _ _ ?_;simp! [δE,planD,Mem.upd_del,ai n5,atI_3];refine calls_of fun Q' E' hq _=>ot G.pl.t.k0 k1 G.pl.h G.pl.ok G.pl.cn fun q6 n6=>hq _ _ ?_;simp! [δE,planD,Mem.upd_del,ai n6,uU];refine ee rfl (vb (n:=22) (uW k1 h3)) ?_;exact ⟨_,fun _ _ e=>e,rfl⟩
end
end Tw
namespace Tw
open PySem L2 L3 LS
section
variable {ad:Ad}{M:Mem}{n:Nat}{na fr:Nat->Str}{nu:Nat->Int}{os:List Nat}{c:Cf}{rows:List Rw}{mk:Str}{x0 x5:D}{p d a7 a8:Addr}{s e:Option D}
theorem Cr(G:Dn n na fr nu os c rows mk)(hM:M d=some (.dK (bS (fw n na fr)))):qO ad (drpX NoX) EndT (δE x0 x5 p d a7 a8 c n na fr nu os rows mk s e) M:=by
 simp! [δE];refine bh (fun Q' E' q=>kD G.p2 (G.hs mk G.pl.mkm) q) ?_;rw [G.mrk];refine qN ?_;simp! [δE];refine bh (fun Q' E' q=>kD G.p1 G.pl.mkm q) ?_;refine qN ?_;simp! [δE];refine ee rfl (zI (n:=23)) ?_;exact Bv G hM
theorem yM{A K6:aM}{D0:DEnds}{δ:Dl}(h13:δ[13]?=some (some .non))(h:K6 D0 δ M):aE (bi (aI (aB kU (ae 13) (dC .non))) A aQ) K6 D0 δ M:=by
 simp! [h13];exact h
theorem yZ{A K6:aM}{D0:DEnds}{δ:Dl}{xs:List D}(h13:δ[13]?=some (some (.tup xs)))(h:A { D0 with nx:=K6 D0 } δ M):aE (bi (aI (aB kU (ae 13) (dC .non))) A aQ) K6 D0 δ M:=by
 simp! [h13];exact h
theorem Bx(G:Dn n na fr nu os c rows mk)(hM:M d=some (.dK (bS (fw n na fr)))):lB ad (drpX NoX) EndT (δE x0 x5 p d a7 a8 c n na fr nu os rows mk (some (.lst (sw (b_ c (NA n na) rows (NU n nu)).2.steps))) (some (eR (os.map fr) (b_ c (os.map fr) (dI (fw n na fr) rows) (os.map nu))))) M:=by
 have ok:=xw (n:=19) G.p2;simp! [δE];refine jO G.p2 ?_;unfold ui at ok ⊢;rw [G.rn.s.st] at ok ⊢;simp! [δE];refine ⟨szl (by decide),?_⟩
 refine ee rfl ok ?_;exact Cr G hM
theorem BT(G:Dn n na fr nu os c rows mk)(hM:M d=some (.dK (bS (fw n na fr))))(h8:M a8=some (.lst (bj os))):rb ad (drpX NoX) EndT (δE x0 x5 p d a7 a8 c n na fr nu os rows mk (some (.lst (sw (b_ c (NA n na) rows (NU n nu)).2.steps))) (some (eR (NA n na) (b_ c (NA n na) rows (NU n nu))))) M:=by
 have hl8:(bj os).length<=100000:=by simp only [bj,List.length_map,G.hol];have:=G.n1;lia
 have ho8:∀q∈srcOf (.ref a8) (bj os),M q.1=some (.lst q.2):=fun q hq=>by
  simp only [srcOf,List.mem_singleton] at hq;subst hq;exact h8
 have t6:=Bx (ad:=ad) (x0:=x0) (x5:=x5) (p:=p) (a7:=a7) (a8:=a8) G hM;have hf:=G.fin;cases e:(b_ c (NA n na) rows (NU n nu)).1 with
 |true=>
  rw [e,if_pos rfl] at hf;have he:eR (NA n na) (b_ c (NA n na) rows (NU n nu))=.tup ((NA n na).map fun x=>.int (nm (b_ c (NA n na) rows (NU n nu)).2.nums x)):=by unfold eR;rw [if_pos e]
  rw [he];rw [hf] at t6;refine yZ rfl ?_;generalize lB ad (drpX NoX) EndT=K6 at t6 ⊢;unfold rM;simp! [δE,h8,↓aP];refine gr (fD fun k=>.int (nm (b_ c (NA n na) rows (NU n nu)).2.nums (na k))) ho8 hl8 (fun x hx K q=>?_) ?_
  ·obtain ⟨i,hi,rfl⟩:=jK hx
   exact AO (oV ((G.hos i).mp hi)) q
  rw [jc na fun x=>.int (nm (b_ c (NA n na) rows (NU n nu)).2.nums x)];intro q1 hq1;simp! [δE,Mem.upd_same,Mem.upd_del,ai hq1];exact t6
 |false=>
  rw [e,if_neg (by simp)] at hf
  have he:eR (NA n na) (b_ c (NA n na) rows (NU n nu))=.non:=by unfold eR;rw [if_neg (by rw [e];simp)]
  rw [he];rw [hf] at t6;exact yM rfl t6
theorem D5{s e:Option D}(G:Dn n na fr nu os c rows mk)(hM:M d=some (.dK (bS (fw n na fr))))(h8:M a8=some (.lst (bj os))):T_law_8 ad (drpX NoX) EndT (δE x0 x5 p d a7 a8 c n na fr nu os rows mk s e) M:=by
 have t7:=BT (ad:=ad) (x0:=x0) (x5:=x5) (p:=p) (a7:=a7) G hM h8;simp! [δE];refine jO G.p1 ?_;exact And.intro rfl t7
end
end Tw
namespace Tw
open PySem L2 L3 LS
section
variable {ad:Ad}{M:Mem}{n:Nat}{na fr:Nat->Str}{nu:Nat->Int}{os:List Nat}{c:Cf}{rows:List Rw}{mk:Str}{x0:D}{p d a7 a8:Addr}
theorem vL(G:Dn n na fr nu os c rows mk)(hM:M d=some (.dK (bS (fw n na fr))))(h8:M a8=some (.lst (bj os))):
  mC ad (drpX NoX) EndT (lawδ x0 (planD c (NA n na) rows mk) (standD (NU n nu) c.pieces) (.int (c.most:Nat)) (.tup ((NA n fr).map D.str)) p d a7 a8) M:=by
 have n1:=G.n1;have hh:=G.pl.h;have hl8:(bj os).length<=100000:=by simp only [bj,List.length_map,G.hol];lia
 have ho8:∀q∈srcOf (.ref a8) (bj os),M q.1=some (.lst q.2):=fun q hq=>by
  simp only [srcOf,List.mem_singleton] at hq;subst hq;exact h8
 have t8:=D5 (ad:=ad) (x0:=x0) (x5:=.tup ((NA n fr).map D.str)) (p:=p) (a7:=a7) (s:=none) (e:=none) G hM h8;simp! [lawδ,planD,standD,atI_3];refine bh (d:=jk (dI (fw n na fr) rows)) (fun Q' E' q=>jX hin 24 rows (by lia) G.pl.ok G.pl.cn _ _ _ hM q) ?_
 simp! [lawδ,planD,standD,jk,h8,↓aP,atI_0];refine gr (fD fun k=>.str (fr k)) ho8 hl8 (fun x hx K q=>?_) ?_
 ·obtain ⟨i,hi,rfl⟩:=jK hx
  exact AO (oV ((G.hos i).mp hi)) q
 rw [jc];intro q1 hq1;simp! [lawδ,planD,standD,Mem.upd_del,ai hq1,atI_2,atI_4,hM,valD_kvs (hin mk G.pl.mkm)];refine ⟨szl (by decide),?_⟩
 simp! [lawδ,planD,standD,h8,↓aP];refine gr (fD fun k=>.int (nu k)) ho8 hl8 (fun x hx K q=>?_) ?_
 ·obtain ⟨i,hi,rfl⟩:=jK hx
  exact Fz (oV ((G.hos i).mp hi)) q
 rw [jc];intro q2 hq2;generalize T_law_8 ad (drpX NoX) EndT=K8 at t8 ⊢;simp! [lawδ,planD,standD,Mem.upd_del,ai hq2,atI_1];refine ⟨szl (by decide),?_⟩
 refine bh (d:=.bl true) (fun Q' E' q=>sP G.pl.t.m2 G.pl.t.m1 G.pl.t.k0 G.pl.t.k1 (by rw [List.length_map,G.hol];exact G.n0) (by rw [List.length_map,G.hol];lia) G.nd' G.one' G.ok' G.hh' G.hc' (G.hs mk G.pl.mkm) q) ?_
 exact t8
end
theorem mh:∀(names fresh:List Str) (acc:List (Str×Str)),names.length=fresh.length->(acc.map (·.1)++names).Nodup->
  ((names.map (fun x=>(Sum.inr x:bR))).zip (fresh.map D.str)).foldl (fun a p=>fU a p.1 p.2) (bS acc)=bS (acc++names.zip fresh)
 |[],fresh,acc,_,_=>by simp
 |x::names,[],acc,h,_=>by simp at h
 |x::names,v::fresh,acc,h,nd=>by
  have hx:x∉acc.map (·.1):=fun z=>(List.nodup_append.mp nd).2.2 x z x (by simp) rfl
  simp only [List.map_cons,List.zip_cons_cons,List.foldl_cons];rw [w6 hx,mh names fresh (acc++[(x,v)]) (by simpa using h) (by simpa using nd)]
  simp
theorem FP{names fresh:List Str}(h:names.length=fresh.length)(nd:names.Nodup):kC (names.map fun x=>(Sum.inr x:bR)) (fresh.map D.str)=bS (names.zip fresh):=by
 have:=mh names fresh [] h (by simpa using nd)
 simpa [kC,bS] using this
theorem wK{n:Nat}{g:Nat->Str}(h:(NA n g).Nodup):∀i<n,∀k<n,g k=g i->k=i:=fun i hi k hk e=>by
 have hp:=List.pairwise_iff_getElem.mp h;have hl:(NA n g).length=n:=by simp [NA]
 have at_:∀j (hj:j<(NA n g).length),(NA n g)[j]=g j:=fun j hj=>by simp [NA]
 rcases Nat.lt_trichotomy k i with c|c|c
 ·have:=hp k i (by lia) (by lia) c
  rw [at_,at_] at this;exact absurd e this
 ·exact c
 ·have:=hp i k (by lia) (by lia) c
  rw [at_,at_] at this;exact absurd e.symm this
section
variable {ad:Ad}{M:Mem}{k:Pt}{n:Nat}{na fr:Nat->Str}{nu:Nat->Int}{c:Cf}{rows:List Rw}{mk:Str}{x0:D}
theorem zH(hG:∀os,os.Perm (List.range n)->Dn n na fr nu os c rows mk)(n1:n<=12)(n0:1<=n)(nd:(NA n na).Nodup)(hp:Has k M):
  jn ad (drpX NoX) EndT [some x0,some (.ref k.p),some (planD c (NA n na) rows mk),some (standD (NU n nu) c.pieces),some (.int (c.most:Nat)),some (.tup ((NA n fr).map D.str)),none,none,none,none,none,none,none,none] M:=by
 have hnl:∀g:Nat->Str,(NA n g).length=n:=fun g=>by simp [NA]
 have t13:∀(d a7 a8:Addr) (M':Mem),a7≠a8->d≠a7->d≠a8->(a7≠k.p/\a7≠k.q)->(a8≠k.p/\a8≠k.q)->(d≠k.p/\d≠k.q)->Has k M'->M' d=some (.dK (bS (fw n na fr)))->M' a7=some (.lst (bj (List.range n)))->M' a8=some (.lst [])->T_law_13 ad (drpX NoX) EndT (lawδ x0 (planD c (NA n na) rows mk) (standD (NU n nu) c.pieces) (.int (c.most:Nat)) (.tup ((NA n fr).map D.str)) k.p d a7 a8) M':=by
  intro d a7 a8 M' h1 h2 h3 h4 h5 h6 hp hd h7 h8;unfold T_law_13;exact order_loop n1 h1 h4 h5 hp h7 h8 fun os M2 po e8 fr=>vL (hG os po) (fr d _ h6.1 h6.2 h2 h3 hd) e8
 have ef:kC ((NA n na).map fun x=>(Sum.inr x:bR)) ((NA n fr).map D.str)=bS (fw n na fr):=by
  rw [FP (by rw [hnl,hnl]) nd]
  unfold NA fw;rw [ly]
 have er:gj 0 n=bj (List.range n):=by rw [qR];unfold bj;rw [List.map_map];rfl
 unfold jn nZ;generalize T_law_13 ad (drpX NoX)=K13 at t13 ⊢;simp! [planD,atI_1,eM,List.length_map,hnl,ef,Int.toNat_natCast,er];refine ⟨by lia,by lia,fun d hd=>⟨⟨by lia,by lia⟩,fun a7 h7=>⟨szl (by decide),fun a8 h8=>?_⟩⟩⟩
 have nd:=hp.nep hd;have hp1:=hp.upd (o:=.dK (bS (fw n na fr))) nd;have n7:=hp1.nep h7;have hp2:=hp1.upd (o:=.lst (bj (List.range n))) n7;have n8:=hp2.nep h8;have e78:a7≠a8:=fun e=>by subst e;rw [Mem.upd_same] at h8;cases h8
 have ed7:d≠a7:=fun e=>by subst e;rw [Mem.upd_same] at h7;cases h7
 have ed8:d≠a8:=fun e=>by subst e;rw [aj ed7,Mem.upd_same] at h8;cases h8
 exact t13 d a7 a8 _ e78 ed7 ed8 n7 n8 nd (hp2.upd n8) (by rw [aj ed8,aj ed7,Mem.upd_same]) (by rw [aj e78,Mem.upd_same]) Mem.upd_same
end
theorem rY(ad:Ad)(ns:List Int)(hl:ns.length<=63):uQ ad [.ml (ns.map D.int)] (fun _=>none) (fun d _=>d=.bl true) NoX:=by
 simp! [Fx,oH];refine vI fun k M1 h1 _=>?_;simp! [];refine tz (by decide) (by decide) h1 fun m many names rows mk M2 pl k2=>?_
 simp! [];refine qd (names:=names) (rows:=rows) (mk:=mk) (m:=m) (many:=many) k2.1 pl fun nums pieces M3 ln lp rn rp k3=>?_;simp! [standD];refine ⟨szl (by decide),fun p hpn=>?_⟩
 rw [Mem.upd_del,ai hpn];refine aV k3.1 (by decide) (by decide) fun x4 M4 a4 b4 d4=>?_
 obtain ⟨w,ew,w2,w1⟩:∃m:Int,atI [D.int 41,.int 301] x4=some (.int m)/\0<m/\m<=301:=by
  have:x4=0\/x4=1:=by lia
  rcases this with rfl|rfl
  ·exact ⟨41,by simp,by lia,by lia⟩
  ·exact ⟨301,by simp,by lia,by lia⟩
 simp! [ew];refine aV d4.1 w2 (by lia) fun mo M5 a5 b5 d5=>?_
 obtain ⟨most,rfl⟩:=Int.eq_ofNat_of_zero_le a5;subst lp;obtain ⟨n,na,e1⟩:∃n na,names=NA n na:=⟨_,_,jl (Str.ofString "") names⟩;subst e1;have hnl:(NA n na).length=n:=by simp [NA]
 obtain ⟨nu,e2⟩:∃nu,nums=NU n nu:=⟨_,by rw [hnl] at ln;rw [<- ln];exact jl 0 nums⟩
 subst e2;have n1:=pl.t.n1;have n0:=pl.t.n0;rw [hnl] at n1 n0;simp! [jJ,atI_1,List.length_map,hnl];refine calls_of fun Q' E' hq _=>jQ d5.1 n1 fun fresh M6 n6 nd6 on6 d6=>hq _ _ ?_;obtain ⟨fr,e3⟩:∃fr,fresh=NA n fr:=⟨_,by rw [<- n6];exact jl (Str.ofString "") fresh⟩
 subst e3;exact zH (c:=⟨m,pieces,most⟩) (fun os po=>⟨pl,n1,n0,wK pl.nd,wK nd6,fun i hi=>on6 _ (List.mem_map.mpr ⟨i,List.mem_range.mpr hi,rfl⟩),po,fun i hi=>rn _ (List.mem_map.mpr ⟨i,List.mem_range.mpr hi,rfl⟩),rp,by show most<=300;lia⟩) n1 n0 pl.nd d6.1
end Tw
namespace Tw
open PySem L2 L3
def ww(K:W.Frag):Sp:=fun vs H Q _=>∃(a:Addr) (ns:List Int),vs=[.ref a]/\uc H/\SqL K H a (ns.map V.int)/\ns.length<=63/\∀H',Q (.bl true) H'
theorem x_{α:Type}{P:List α->Prop}(h:∀a0,P [a0]):∀us:List α,us.length=1->P us
 |[a0],_=>h a0
theorem xh{α:Type}{P:List α->Prop}(h:∀a0 a1,P [a0,a1]):∀us:List α,us.length=2->P us
 |[a0,a1],_=>h a0 a1
theorem tL{α:Type}{P:List α->Prop}(h:∀a0 a1 a2,P [a0,a1,a2]):∀us:List α,us.length=3->P us
 |[a0,a1,a2],_=>h a0 a1 a2
theorem us4{α:Type}{P:List α->Prop}(h:∀a0 a1 a2 a3,P [a0,a1,a2,a3]):∀us:List α,us.length=4->P us
 |[a0,a1,a2,a3],_=>h a0 a1 a2 a3
theorem us5{α:Type}{P:List α->Prop}(h:∀a0 a1 a2 a3 a4,P [a0,a1,a2,a3,a4]):∀us:List α,us.length=5->P us
 |[a0,a1,a2,a3,a4],_=>h a0 a1 a2 a3 a4
structure Nf(K:W.Frag)(x:Str)(st:Stmt)(f:Addr)(fd:FuncData):Prop where
 a:W.nsIn K mainGlobals x=some (some (.ref f))
 F:Fun K x x st f fd
structure Mf(K:W.Frag)(C:Addr)(x q:Str)(st:Stmt)(f:Addr)(fd:FuncData):Prop where
 a:W.findIn K (.ref C) x=some (some (.ref f))
 i:W.isFn K (.ref f)=true
 F:Fun K x q st f fd
theorem all_mk{l:W.OpenLaw}{w:World}{K:W.Frag}{h:Heap}{mg:Str->Option Value}{fa C_Walk C_Dry f1 f2 f3 f4 f5 f6 f7 f8 f9 f10 f11 f12 f13 f14 f15 f16 f17 f18 f19 f20 f21 f22 f23 f24 f25 f26 f27 f28 f29 f30 f31 f32 f33 f34 f35 f36:Addr}(X:K.In h)(G:h.Ns mainGlobals mg)(hfa:mg "law"=some (.ref fa))
  {tk_LEAST_WHEEL tk_MOST_LETTERS tk_MOST_NAMES tk_MOST_PIECES tk_MOST_ROWS tk_MOST_WHEEL tk_MOST_WITHIN tk_PARTS_0 tk_PARTS_1 tk_PARTS_2 tk_PARTS_3 tk_PARTS_4 tk_PARTS_5 tk_PARTS_6 tk_PARTS_7 tk_PARTS_8 tu_PARTS_0_0 tu_PARTS_0_1 tu_PARTS_1_0 tu_PARTS_1_1 tu_PARTS_2_0 tu_PARTS_2_1 tu_PARTS_3_0 tu_PARTS_3_1 tu_PARTS_3_2 tu_PARTS_4_0 tu_PARTS_4_1 tu_PARTS_4_2 tu_PARTS_5_0 tu_PARTS_5_1 tu_PARTS_5_2 tu_PARTS_6_0 tu_PARTS_6_1 tu_PARTS_6_2 tu_PARTS_7_0 tu_PARTS_7_1 tu_PARTS_7_2 tu_PARTS_8_0 tu_PARTS_8_1:Tok} {ep_PARTS ep_PARTS_0 ep_PARTS_1 ep_PARTS_2 ep_PARTS_3 ep_PARTS_4 ep_PARTS_5 ep_PARTS_6 ep_PARTS_7 ep_PARTS_8:Nat} {g_PARTS gv_PARTS_0 gv_PARTS_1 gv_PARTS_2 gv_PARTS_3 gv_PARTS_4 gv_PARTS_5 gv_PARTS_6 gv_PARTS_7 gv_PARTS_8:Addr}
  {e1 e2 e3 e4 e5 e6 e7 e8 e9 e10 e11 e12 e13 e14 e15 e16 e17 e18 e19 e20 e21 e22 e23 e24 e25 e26 e27 e28 e29 e30 e31 e32 e33 e34 e35 e36:FuncData}
  (aC_Walk:W.nsIn K mainGlobals "Walk"=some (some (.ref C_Walk)))
  (aC_Dry:W.nsIn K mainGlobals "Dry"=some (some (.ref C_Dry)))
  (l1:Mf K C_Walk "__init__" "Walk.__init__" Cl f1 e1)
  (l2:Mf K C_Walk "note_step" "Walk.note_step" E7 f2 e2)
  (l3:Mf K C_Walk "look" "Walk.look" u8 f3 e3)
  (l4:Nf K "run" u3 f4 e4)
  (l5:Nf K "mark" wS f5 e5)
  (l6:Nf K "do_rows" tO f6 e6)
  (l7:Nf K "do_row" w8 f7 e7)
  (l8:Nf K "do_if" vN f8 e8)
  (l9:Nf K "do_again" uz f9 e9)
  (l10:Nf K "number_of" wc f10 e10)
  (l11:Nf K "piece_read" uD f11 e11)
  (l12:Nf K "joined" vh f12 e12)
  (l13:Nf K "is_plan" wA f13 e13)
  (l14:Nf K "is_whole" vt f14 e14)
  (l15:Nf K "is_name" uH f15 e15)
  (l16:Nf K "are_names" wb f16 e16)
  (l17:Nf K "is_name_of" Dm f17 e17)
  (l18:Nf K "are_rows" wn f18 e18)
  (l19:Nf K "is_row" wB f19 e19)
  (l20:Nf K "is_part" wy f20 e20)
  (l21:Nf K "rows_within" CP f21 e21)
  (l22:Nf K "setting_rows" BW f22 e22)
  (l23:Nf K "sets" vU f23 e23)
  (l24:Nf K "may_take" wW f24 e24)
  (l25:Nf K "_law_stirred" Cj f25 e25)
  (l26:Nf K "_law_pot" vP f26 e26)
  (l27:Nf K "_law_draw" vZ f27 e27)
  (l28:Nf K "_law_names" BR f28 e28)
  (l29:Nf K "_law_row" uA f29 e29)
  (l30:Nf K "_law_block" E1 f30 e30)
  (l31:Nf K "_law_rows" wl f31 e31)
  (l32:Nf K "_law_plan" wa f32 e32)
  (l33:Nf K "_law_stand" C5 f33 e33)
  (l34:Nf K "_law_alike" uF f34 e34)
  (l35:Nf K "_law_renamed" BA f35 e35)
  (l36:Nf K "law" gh f36 e36)
  (x_Dry:W.excIn K C_Dry [.type "ValueError",.type "Exception",.type "BaseException",.type "object"] "ValueError.__new__"=true)
  (pg_Walk:W.plainGet K C_Walk Str.empty=true)
  (hd_Walk:W.hasDictIn K C_Walk=true)
  (po_Walk:W.plainOver K C_Walk=true)
  (sa_Walk:W.findIn K (.ref C_Walk) "__setattr__"=some (some (.builtin "object.__setattr__")))
  (mk_Walk:W.makesIn K C_Walk=true)
  (kc_Walk:W.keepIn K (.ref C_Walk)=true)
  (n_Walk_most:W.findIn K (.ref C_Walk) "most"=some none)
  (n_Walk_numbers:W.findIn K (.ref C_Walk) "numbers"=some none)
  (n_Walk_pieces:W.findIn K (.ref C_Walk) "pieces"=some none)
  (n_Walk_plan:W.findIn K (.ref C_Walk) "plan"=some none)
  (n_Walk_steps:W.findIn K (.ref C_Walk) "steps"=some none)
  (gi_LEAST_WHEEL:W.nsIn K mainGlobals "LEAST_WHEEL"=some (some (.int 2 tk_LEAST_WHEEL)))
  (gi_MOST_LETTERS:W.nsIn K mainGlobals "MOST_LETTERS"=some (some (.int 8 tk_MOST_LETTERS)))
  (gi_MOST_NAMES:W.nsIn K mainGlobals "MOST_NAMES"=some (some (.int 12 tk_MOST_NAMES)))
  (gi_MOST_PIECES:W.nsIn K mainGlobals "MOST_PIECES"=some (some (.int 40 tk_MOST_PIECES)))
  (gi_MOST_ROWS:W.nsIn K mainGlobals "MOST_ROWS"=some (some (.int 60 tk_MOST_ROWS)))
  (gi_MOST_WHEEL:W.nsIn K mainGlobals "MOST_WHEEL"=some (some (.int 997 tk_MOST_WHEEL)))
  (gi_MOST_WITHIN:W.nsIn K mainGlobals "MOST_WITHIN"=some (some (.int 4 tk_MOST_WITHIN)))
  (gt_PARTS:W.nsIn K mainGlobals "PARTS"=some (some (.ref g_PARTS)))
  (gd_PARTS:K.lookup g_PARTS=some { cls:=.type "dict",dict:=none,data:=.dict #[⟨PyData.keyHash w.params "put",.str "put" tk_PARTS_0,.ref gv_PARTS_0⟩,⟨PyData.keyHash w.params "take",.str "take" tk_PARTS_1,.ref gv_PARTS_1⟩,⟨PyData.keyHash w.params "pick",.str "pick" tk_PARTS_2,.ref gv_PARTS_2⟩,⟨PyData.keyHash w.params "sum",.str "sum" tk_PARTS_3,.ref gv_PARTS_3⟩,⟨PyData.keyHash w.params "by",.str "by" tk_PARTS_4,.ref gv_PARTS_4⟩,⟨PyData.keyHash w.params "less",.str "less" tk_PARTS_5,.ref gv_PARTS_5⟩,⟨PyData.keyHash w.params "same",.str "same" tk_PARTS_6,.ref gv_PARTS_6⟩,⟨PyData.keyHash w.params "if",.str "if" tk_PARTS_7,.ref gv_PARTS_7⟩,⟨PyData.keyHash w.params "again",.str "again" tk_PARTS_8,.ref gv_PARTS_8⟩] ep_PARTS,slots:=#[] })
  (gw_PARTS_0:K.lookup gv_PARTS_0=some { cls:=.type "tuple",dict:=none,data:=.seq #[.str "name" tu_PARTS_0_0,.str "number" tu_PARTS_0_1] ep_PARTS_0,slots:=#[] })
  (gw_PARTS_1:K.lookup gv_PARTS_1=some { cls:=.type "tuple",dict:=none,data:=.seq #[.str "name" tu_PARTS_1_0,.str "piece" tu_PARTS_1_1] ep_PARTS_1,slots:=#[] })
  (gw_PARTS_2:K.lookup gv_PARTS_2=some { cls:=.type "tuple",dict:=none,data:=.seq #[.str "name" tu_PARTS_2_0,.str "name" tu_PARTS_2_1] ep_PARTS_2,slots:=#[] })
  (gw_PARTS_3:K.lookup gv_PARTS_3=some { cls:=.type "tuple",dict:=none,data:=.seq #[.str "name" tu_PARTS_3_0,.str "name" tu_PARTS_3_1,.str "name" tu_PARTS_3_2] ep_PARTS_3,slots:=#[] })
  (gw_PARTS_4:K.lookup gv_PARTS_4=some { cls:=.type "tuple",dict:=none,data:=.seq #[.str "name" tu_PARTS_4_0,.str "name" tu_PARTS_4_1,.str "name" tu_PARTS_4_2] ep_PARTS_4,slots:=#[] })
  (gw_PARTS_5:K.lookup gv_PARTS_5=some { cls:=.type "tuple",dict:=none,data:=.seq #[.str "name" tu_PARTS_5_0,.str "name" tu_PARTS_5_1,.str "name" tu_PARTS_5_2] ep_PARTS_5,slots:=#[] })
  (gw_PARTS_6:K.lookup gv_PARTS_6=some { cls:=.type "tuple",dict:=none,data:=.seq #[.str "name" tu_PARTS_6_0,.str "name" tu_PARTS_6_1,.str "name" tu_PARTS_6_2] ep_PARTS_6,slots:=#[] })
  (gw_PARTS_7:K.lookup gv_PARTS_7=some { cls:=.type "tuple",dict:=none,data:=.seq #[.str "name" tu_PARTS_7_0,.str "rows" tu_PARTS_7_1,.str "rows" tu_PARTS_7_2] ep_PARTS_7,slots:=#[] })
  (gw_PARTS_8:K.lookup gv_PARTS_8=some { cls:=.type "tuple",dict:=none,data:=.seq #[.str "name" tu_PARTS_8_0,.str "rows" tu_PARTS_8_1] ep_PARTS_8,slots:=#[] })
  (gs_PARTS:(g_PARTS==sysModules)=false)
  (z_all:W.nsIn K mainGlobals "all"=some none)
  (z_any:W.nsIn K mainGlobals "any"=some none)
  (z_bool:W.nsIn K mainGlobals "bool"=some none)
  (z_dict:W.nsIn K mainGlobals "dict"=some none)
  (z_enumerate:W.nsIn K mainGlobals "enumerate"=some none)
  (z_int:W.nsIn K mainGlobals "int"=some none)
  (z_isinstance:W.nsIn K mainGlobals "isinstance"=some none)
  (z_len:W.nsIn K mainGlobals "len"=some none)
  (z_list:W.nsIn K mainGlobals "list"=some none)
  (z_min:W.nsIn K mainGlobals "min"=some none)
  (z_range:W.nsIn K mainGlobals "range"=some none)
  (z_set:W.nsIn K mainGlobals "set"=some none)
  (z_sorted:W.nsIn K mainGlobals "sorted"=some none)
  (z_str:W.nsIn K mainGlobals "str"=some none)
  (z_tuple:W.nsIn K mainGlobals "tuple"=some none)
  (z_zip:W.nsIn K mainGlobals "zip"=some none):
  ∃fd:FuncData,(∀(s:Shared) (v:Value),BindsTo s fd ⟨[v],[]⟩ [("script",v)])/\∀base:Heap,K.In base->base.Ns mainGlobals mg->FnOk l.prog w K mg base CX0 29 fa fd ["script"] (ww K):=by
 have e:=hfa.symm.trans (W.mg_of X G l36.a);cases e;obtain ⟨_,_,kV,dc,pm,an,cd,ct,_,rfl,_⟩:=l36.F.ex;have b1:=l1.F.binds (ps:=["self","plan","stand","most"]) fun _ _ _ _ _ _=>us4 fun _ _ _ _=>rfl;have b2:=l2.F.binds (ps:=["self","place","number"]) fun _ _ _ _ _ _=>tL fun _ _ _=>rfl;have b3:=l3.F.binds (ps:=["self","place","name"]) fun _ _ _ _ _ _=>tL fun _ _ _=>rfl;have b4:=l4.F.binds (ps:=["plan","stand","most"]) fun _ _ _ _ _ _=>tL fun _ _ _=>rfl;have b5:=l5.F.binds (ps:=["plan","stand","most"]) fun _ _ _ _ _ _=>tL fun _ _ _=>rfl;have b6:=l6.F.binds (ps:=["walk","rows","place"]) fun _ _ _ _ _ _=>tL fun _ _ _=>rfl;have b7:=l7.F.binds (ps:=["walk","row","place"]) fun _ _ _ _ _ _=>tL fun _ _ _=>rfl;have b8:=l8.F.binds (ps:=["walk","row","place"]) fun _ _ _ _ _ _=>tL fun _ _ _=>rfl;have b9:=l9.F.binds (ps:=["walk","row","place"]) fun _ _ _ _ _ _=>tL fun _ _ _=>rfl;have b10:=l10.F.binds (ps:=["plan","numbers","pieces","row"]) fun _ _ _ _ _ _=>us4 fun _ _ _ _=>rfl;have b11:=l11.F.binds (ps:=["plan","numbers","row"]) fun _ _ _ _ _ _=>tL fun _ _ _=>rfl;have b12:=l12.F.binds (ps:=["word","y","z","wheel"]) fun _ _ _ _ _ _=>us4 fun _ _ _ _=>rfl;have b13:=l13.F.binds (ps:=["thing"]) fun _ _ _ _ _ _=>x_ fun _=>rfl;have b14:=l14.F.binds (ps:=["thing","least","most"]) fun _ _ _ _ _ _=>tL fun _ _ _=>rfl;have b15:=l15.F.binds (ps:=["thing"]) fun _ _ _ _ _ _=>x_ fun _=>rfl;have b16:=l16.F.binds (ps:=["thing"]) fun _ _ _ _ _ _=>x_ fun _=>rfl;have b17:=l17.F.binds (ps:=["plan","thing"]) fun _ _ _ _ _ _=>xh fun _ _=>rfl;have b18:=l18.F.binds (ps:=["plan"]) fun _ _ _ _ _ _=>x_ fun _=>rfl;have b19:=l19.F.binds (ps:=["plan","thing","depth"]) fun _ _ _ _ _ _=>tL fun _ _ _=>rfl;have b20:=l20.F.binds (ps:=["plan","kind","thing"]) fun _ _ _ _ _ _=>tL fun _ _ _=>rfl;have b21:=l21.F.binds (ps:=["row"]) fun _ _ _ _ _ _=>x_ fun _=>rfl;have b22:=l22.F.binds (ps:=["rows"]) fun _ _ _ _ _ _=>x_ fun _=>rfl;have b23:=l23.F.binds (ps:=["rows"]) fun _ _ _ _ _ _=>x_ fun _=>rfl;have b24:=l24.F.binds (ps:=["plan","rows"]) fun _ _ _ _ _ _=>xh fun _ _=>rfl;have b25:=l25.F.binds (ps:=["cell","turn"]) fun _ _ _ _ _ _=>xh fun _ _=>rfl;have b26:=l26.F.binds (ps:=["script"]) fun _ _ _ _ _ _=>x_ fun _=>rfl;have b27:=l27.F.binds (ps:=["pot","many"]) fun _ _ _ _ _ _=>xh fun _ _=>rfl;have b28:=l28.F.binds (ps:=["pot","many"]) fun _ _ _ _ _ _=>xh fun _ _=>rfl;have b29:=l29.F.binds (ps:=["pot","told"]) fun _ _ _ _ _ _=>xh fun _ _=>rfl;have b30:=l30.F.binds (ps:=["pot","told","room","deep"]) fun _ _ _ _ _ _=>us4 fun _ _ _ _=>rfl;have b31:=l31.F.binds (ps:=["pot","told","room","deep","most"]) fun _ _ _ _ _ _=>us5 fun _ _ _ _ _=>rfl;have b32:=l32.F.binds (ps:=["pot","most"]) fun _ _ _ _ _ _=>xh fun _ _=>rfl;have b33:=l33.F.binds (ps:=["pot","plan"]) fun _ _ _ _ _ _=>xh fun _ _=>rfl;have b34:=l34.F.binds (ps:=["found","due"]) fun _ _ _ _ _ _=>xh fun _ _=>rfl;have b35:=l35.F.binds (ps:=["rows","names"]) fun _ _ _ _ _ _=>xh fun _ _=>rfl;have b36:=l36.F.binds (ps:=["script"]) fun _ _ _ _ _ _=>x_ fun _=>rfl
 let ad:Ad:={ C_Walk:=C_Walk,C_Dry:=C_Dry,a_q1:=f1,d_q1:=e1,a_q0:=f2,d_q0:=e2,a_q12:=f3,d_q12:=e3,a_q34:=f4,d_q34:=e4,a_q32:=f5,d_q32:=e5,a_q25:=f6,d_q25:=e6,a_q28:=f7,d_q28:=e7,a_q31:=f8,d_q31:=e8,a_q20:=f9,d_q20:=e9,a_q13:=f10,d_q13:=e10,a_q10:=f11,d_q10:=e11,a_q29:=f12,d_q29:=e12,a_q24:=f13,d_q24:=e13,a_q19:=f14,d_q19:=e14,a_q26:=f15,d_q26:=e15,a_q16:=f16,d_q16:=e16,a_q9:=f17,d_q9:=e17,a_q21:=f18,d_q21:=e18,a_q30:=f19,d_q30:=e19,a_q27:=f20,d_q27:=e20,a_q5:=f21,d_q5:=e21,a_q2:=f22,d_q2:=e22,a_q33:=f23,d_q33:=e23,a_q18:=f24,d_q18:=e24,a_q4:=f25,d_q4:=e25,a_q22:=f26,d_q22:=e26,a_q15:=f27,d_q15:=e27,a_q6:=f28,d_q6:=e28,a_q23:=f29,d_q23:=e29,a_q7:=f30,d_q7:=e30,a_q14:=f31,d_q14:=e31,a_q17:=f32,d_q17:=e32,a_q8:=f33,d_q8:=e33,a_q11:=f34,d_q11:=e34,a_q3:=f35,d_q3:=e35,a_law:=fa,d_law:=W.fnOf "law" "law" (fj gh) (eg gh) (aC gh) .none kV dc pm an cd ct,g_PARTS:=g_PARTS }
 have T:En w K mg ad:={
  c_Walk:=⟨pg_Walk,hd_Walk,po_Walk,sa_Walk⟩
  mC_Walk:=W.mg_of X G aC_Walk
  mk_Walk:=⟨mk_Walk,l1.a,l1.i,kc_Walk⟩
  n_Walk_most:=n_Walk_most
  n_Walk_numbers:=n_Walk_numbers
  n_Walk_pieces:=n_Walk_pieces
  n_Walk_plan:=n_Walk_plan
  n_Walk_steps:=n_Walk_steps
  x_Dry:=pX X x_Dry
  mC_Dry:=W.mg_of X G aC_Dry
  F_q1:=l1.F
  b_q1:=b1
  k_q1:=l1.F.kp
  F_q0:=l2.F
  b_q0:=b2
  k_q0:=l2.F.kp
  me_q0:=⟨l2.a,l2.i,l2.F.kp⟩
  F_q12:=l3.F
  b_q12:=b3
  k_q12:=l3.F.kp
  me_q12:=⟨l3.a,l3.i,l3.F.kp⟩
  F_q34:=l4.F
  b_q34:=b4
  k_q34:=l4.F.kp
  m_q34:=W.mg_of X G l4.a
  F_q32:=l5.F
  b_q32:=b5
  k_q32:=l5.F.kp
  m_q32:=W.mg_of X G l5.a
  F_q25:=l6.F
  b_q25:=b6
  k_q25:=l6.F.kp
  m_q25:=W.mg_of X G l6.a
  F_q28:=l7.F
  b_q28:=b7
  k_q28:=l7.F.kp
  m_q28:=W.mg_of X G l7.a
  F_q31:=l8.F
  b_q31:=b8
  k_q31:=l8.F.kp
  m_q31:=W.mg_of X G l8.a
  F_q20:=l9.F
  b_q20:=b9
  k_q20:=l9.F.kp
  m_q20:=W.mg_of X G l9.a
  F_q13:=l10.F
  b_q13:=b10
  k_q13:=l10.F.kp
  m_q13:=W.mg_of X G l10.a
  F_q10:=l11.F
  b_q10:=b11
  k_q10:=l11.F.kp
  m_q10:=W.mg_of X G l11.a
  F_q29:=l12.F
  b_q29:=b12
  k_q29:=l12.F.kp
  m_q29:=W.mg_of X G l12.a
  F_q24:=l13.F
  b_q24:=b13
  k_q24:=l13.F.kp
  m_q24:=W.mg_of X G l13.a
  F_q19:=l14.F
  b_q19:=b14
  k_q19:=l14.F.kp
  m_q19:=W.mg_of X G l14.a
  F_q26:=l15.F
  b_q26:=b15
  k_q26:=l15.F.kp
  m_q26:=W.mg_of X G l15.a
  F_q16:=l16.F
  b_q16:=b16
  k_q16:=l16.F.kp
  m_q16:=W.mg_of X G l16.a
  F_q9:=l17.F
  b_q9:=b17
  k_q9:=l17.F.kp
  m_q9:=W.mg_of X G l17.a
  F_q21:=l18.F
  b_q21:=b18
  k_q21:=l18.F.kp
  m_q21:=W.mg_of X G l18.a
  F_q30:=l19.F
  b_q30:=b19
  k_q30:=l19.F.kp
  m_q30:=W.mg_of X G l19.a
  F_q27:=l20.F
  b_q27:=b20
  k_q27:=l20.F.kp
  m_q27:=W.mg_of X G l20.a
  F_q5:=l21.F
  b_q5:=b21
  k_q5:=l21.F.kp
  m_q5:=W.mg_of X G l21.a
  F_q2:=l22.F
  b_q2:=b22
  k_q2:=l22.F.kp
  m_q2:=W.mg_of X G l22.a
  F_q33:=l23.F
  b_q33:=b23
  k_q33:=l23.F.kp
  m_q33:=W.mg_of X G l23.a
  F_q18:=l24.F
  b_q18:=b24
  k_q18:=l24.F.kp
  m_q18:=W.mg_of X G l24.a
  F_q4:=l25.F
  b_q4:=b25
  k_q4:=l25.F.kp
  m_q4:=W.mg_of X G l25.a
  F_q22:=l26.F
  b_q22:=b26
  k_q22:=l26.F.kp
  m_q22:=W.mg_of X G l26.a
  F_q15:=l27.F
  b_q15:=b27
  k_q15:=l27.F.kp
  m_q15:=W.mg_of X G l27.a
  F_q6:=l28.F
  b_q6:=b28
  k_q6:=l28.F.kp
  m_q6:=W.mg_of X G l28.a
  F_q23:=l29.F
  b_q23:=b29
  k_q23:=l29.F.kp
  m_q23:=W.mg_of X G l29.a
  F_q7:=l30.F
  b_q7:=b30
  k_q7:=l30.F.kp
  m_q7:=W.mg_of X G l30.a
  F_q14:=l31.F
  b_q14:=b31
  k_q14:=l31.F.kp
  m_q14:=W.mg_of X G l31.a
  F_q17:=l32.F
  b_q17:=b32
  k_q17:=l32.F.kp
  m_q17:=W.mg_of X G l32.a
  F_q8:=l33.F
  b_q8:=b33
  k_q8:=l33.F.kp
  m_q8:=W.mg_of X G l33.a
  F_q11:=l34.F
  b_q11:=b34
  k_q11:=l34.F.kp
  m_q11:=W.mg_of X G l34.a
  F_q3:=l35.F
  b_q3:=b35
  k_q3:=l35.F.kp
  m_q3:=W.mg_of X G l35.a
  F_law:=l36.F
  b_law:=b36
  k_law:=l36.F.kp
  m_law:=W.mg_of X G l36.a
  g_LEAST_WHEEL:=⟨_,W.mg_of X G gi_LEAST_WHEEL⟩
  g_MOST_LETTERS:=⟨_,W.mg_of X G gi_MOST_LETTERS⟩
  g_MOST_NAMES:=⟨_,W.mg_of X G gi_MOST_NAMES⟩
  g_MOST_PIECES:=⟨_,W.mg_of X G gi_MOST_PIECES⟩
  g_MOST_ROWS:=⟨_,W.mg_of X G gi_MOST_ROWS⟩
  g_MOST_WHEEL:=⟨_,W.mg_of X G gi_MOST_WHEEL⟩
  g_MOST_WITHIN:=⟨_,W.mg_of X G gi_MOST_WITHIN⟩
  g_PARTS:=⟨W.mg_of X G gt_PARTS,gs_PARTS,by decide +kernel,_,_,gd_PARTS,(TabR.cons rfl ⟨_,rfl⟩ (cS (ss:=["name","number"]) gw_PARTS_0 (.cons ⟨_,rfl⟩ (.cons ⟨_,rfl⟩ .nil)) (show 2<=sizeLine by decide)) (TabR.cons rfl ⟨_,rfl⟩ (cS (ss:=["name","piece"]) gw_PARTS_1 (.cons ⟨_,rfl⟩ (.cons ⟨_,rfl⟩ .nil)) (show 2<=sizeLine by decide)) (TabR.cons rfl ⟨_,rfl⟩ (cS (ss:=["name","name"]) gw_PARTS_2 (.cons ⟨_,rfl⟩ (.cons ⟨_,rfl⟩ .nil)) (show 2<=sizeLine by decide)) (TabR.cons rfl ⟨_,rfl⟩ (cS (ss:=["name","name","name"]) gw_PARTS_3 (.cons ⟨_,rfl⟩ (.cons ⟨_,rfl⟩ (.cons ⟨_,rfl⟩ .nil))) (show 3<=sizeLine by decide)) (TabR.cons rfl ⟨_,rfl⟩ (cS (ss:=["name","name","name"]) gw_PARTS_4 (.cons ⟨_,rfl⟩ (.cons ⟨_,rfl⟩ (.cons ⟨_,rfl⟩ .nil))) (show 3<=sizeLine by decide)) (TabR.cons rfl ⟨_,rfl⟩ (cS (ss:=["name","name","name"]) gw_PARTS_5 (.cons ⟨_,rfl⟩ (.cons ⟨_,rfl⟩ (.cons ⟨_,rfl⟩ .nil))) (show 3<=sizeLine by decide)) (TabR.cons rfl ⟨_,rfl⟩ (cS (ss:=["name","name","name"]) gw_PARTS_6 (.cons ⟨_,rfl⟩ (.cons ⟨_,rfl⟩ (.cons ⟨_,rfl⟩ .nil))) (show 3<=sizeLine by decide)) (TabR.cons rfl ⟨_,rfl⟩ (cS (ss:=["name","rows","rows"]) gw_PARTS_7 (.cons ⟨_,rfl⟩ (.cons ⟨_,rfl⟩ (.cons ⟨_,rfl⟩ .nil))) (show 3<=sizeLine by decide)) (TabR.cons rfl ⟨_,rfl⟩ (cS (ss:=["name","rows"]) gw_PARTS_8 (.cons ⟨_,rfl⟩ (.cons ⟨_,rfl⟩ .nil)) (show 2<=sizeLine by decide)) TabR.nil)))))))))⟩
  z_all:=W.mg_none_of X G z_all
  z_any:=W.mg_none_of X G z_any
  z_bool:=W.mg_none_of X G z_bool
  z_dict:=W.mg_none_of X G z_dict
  z_enumerate:=W.mg_none_of X G z_enumerate
  z_int:=W.mg_none_of X G z_int
  z_isinstance:=W.mg_none_of X G z_isinstance
  z_len:=W.mg_none_of X G z_len
  z_list:=W.mg_none_of X G z_list
  z_min:=W.mg_none_of X G z_min
  z_range:=W.mg_none_of X G z_range
  z_set:=W.mg_none_of X G z_set
  z_sorted:=W.mg_none_of X G z_sorted
  z_str:=W.mg_none_of X G z_str
  z_tuple:=W.mg_none_of X G z_tuple
  z_zip:=W.mg_none_of X G z_zip
 }
 refine ⟨W.fnOf "law" "law" (fj gh) (eg gh) (aC gh) .none kV dc pm an cd ct,fun s v=>.of_eq rfl,fun base _ _=>?_⟩;exact (BQ (DZ (P:=l.prog) (w:=w) (base:=base) T)).imp fun vs H Q E ⟨a,ns,e,hO,hS,hl,k⟩=>by subst e;exact yw hO hS (rY ad ns hl) k
theorem walk{l:W.OpenLaw}{q:Program}{loose:List Str}{XP:(Str->Option Value)->Heap->Prop}{YP:World->Heap->Prop}{d:DefRec}{K:Params->W.Frag}(hn:l.most=some 63)(hdf:d.params.defaults=[])
  (hY:∀(w:World) (h:Heap),YP w h->(K w.params).In h)
  (F:∀(w:World) (mg:Str->Option Value) (fa:Addr) (h:Heap),(K w.params).In h->h.Ns mainGlobals mg->mg d.name=some (.ref fa)->
   ∃fd:FuncData,(∀(s:Shared) (u:Value),BindsTo s fd ⟨[u],[]⟩ [("script",u)])/\∀base:Heap,(K w.params).In base->base.Ns mainGlobals mg->FnOk l.prog w (K w.params) mg base CX0 29 fa fd ["script"] (ww (K w.params))):
  W.WalkO q loose XP YP l.row.toRowW d [] (fun f vs=>PySem.call f vs):=
 L2.zi (n:=63) (k:=29) (x:="script") (CX:=fun _=>CX0) (sp:=fun w=>ww (K w.params)) hn (by decide) hdf ⟨rfl,by decide,by decide,rfl⟩ hY F (fun _ _ a ns hl hO hS=>⟨a,ns,rfl,hO,hS,hl,fun _=>rfl⟩) fun _ _ _ _ _ z=>z
end Tw
open PySem PySem.W PyProof.Rows
namespace PySem.W.Fast
theorem tw16853920217056853944:0=0:=rfl
theorem tw5723297711735252813:0=0:=rfl
theorem tw6190584217736299828:0=0:=rfl
theorem tw17198324835706913800:0=0:=rfl
theorem tw3393652696378920386:0=0:=rfl
theorem tw14617070122690958528:0=0:=rfl
theorem tw4329603773813546227:0=0:=rfl
theorem tw850987931642960110:0=0:=rfl
theorem tw1866139093586026961:0=0:=rfl
theorem tw4736063021120544934:0=0:=rfl
theorem tw11905899694507382675:0=0:=rfl
theorem tw12481873257610461293:0=0:=rfl
theorem tw12675681386212879181:0=0:=rfl
theorem tw6935106540366381749:0=0:=rfl
theorem tw2545758562984251562:0=0:=rfl
theorem tw8112282014767432885:0=0:=rfl
theorem tw13933841629636345573:0=0:=rfl
theorem tw14042828870650251943:0=0:=rfl
theorem tw4982307182645860495:0=0:=rfl
end PySem.W.Fast
set_option maxRecDepth 100000 in
set_option maxHeartbeats 0 in
theorem PySem.Challenge.cw_twinstride_k13_whole_names_and_numbers_o_holds : PySem.Challenge.rw_twinstride_k13_whole_names_and_numbers_o.Holds := by
 w_on;o_law;k_head;(case hw=>w_witness2)
 k_fill
 refine Tw.walk (l:=PySem.Challenge.rw_twinstride_k13_whole_names_and_numbers_o) rfl rfl (fun w h Y=>W.kIn_of Y) ?F
 case F=>
  intro w mg fa h KX G hmg;refine' Tw.all_mk KX G hmg ..
  any_goals k_is
  any_goals (first|refine' Tw.Nf.mk ?_ (L2.uR ?_ ?_ ?_)|refine' Tw.Mf.mk ?_ ?_ (L2.uR ?_ ?_ ?_))
  any_goals k_is
  any_goals k_exc
  any_goals first|rfl|decide
