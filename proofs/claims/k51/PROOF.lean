import PyProof.Rows.All
import Wide.All
import OpenK.AllK
import Wide.FinOn
import Lean
import PyProof.EqAt
import PyProof.EqKinds
import PyProof.TupleCall
import PySem.Challenge.RW_twinstride_k51_like_things_share_alike
set_option Elab.async false
set_option linter.all false
set_option maxRecDepth 100000
set_option maxHeartbeats 4000000
set_option compiler.extract_closed false
set_option Elab.async false
set_option linter.all false
set_option maxRecDepth 100000
namespace L2
open PySem PySem.Spec PyProof.Rows
abbrev aw:=Sum Int Str
def jB:aw->Value->Bool
 |.inl k,v=>Value.isInt k v
 |.inr x,v=>Value.isStrOf x v
def F_(w:World):aw->Int
 |.inl k=>hashInt k
 |.inr x=>hashStr w x
theorem aP:∀{k:aw} {v:Value},jB k v=true->(∃i t,k=Sum.inl i/\v=Value.int i t)\/(∃x t,k=Sum.inr x/\v=Value.str x t)
 |.inl i,v,h=>by
  obtain ⟨t,e⟩:=Value.isInt_shape (k:=i) (v:=v) h;exact .inl ⟨i,t,rfl,e⟩
 |.inr x,v,h=>by
  obtain ⟨t,e⟩:=Value.isStrOf_shape (x:=x) (v:=v) h;exact .inr ⟨x,t,rfl,e⟩
theorem vT(i:Int)(t:Tok):jB (.inl i) (.int i t)=true:=by simp [jB,Value.isInt]
theorem vE(x:Str)(t:Tok):jB (.inr x) (.str x t)=true:=by simp [jB,Value.isStrOf]
theorem Fw(a b:Int):decide ((Sum.inl a:aw)=Sum.inl b)=(a==b):=by
 by_cases e:a=b
 ·subst e;simp
 ·have h:¬(Sum.inl a:aw)=Sum.inl b:=fun q=>e (Sum.inl.inj q)
  rw [decide_eq_false h];exact (beq_eq_false_iff_ne.mpr e).symm
theorem F4(a b:Str):decide ((Sum.inr a:aw)=Sum.inr b)=decide (a=b):=by
 by_cases e:a=b
 ·subst e;simp
 ·have h:¬(Sum.inr a:aw)=Sum.inr b:=fun q=>e (Sum.inr.inj q)
  rw [decide_eq_false h,decide_eq_false e]
theorem ER(a:Int)(b:Str):decide ((Sum.inl a:aw)=Sum.inr b)=false:=decide_eq_false (fun q=>nomatch q)
theorem F7(a:Str)(b:Int):decide ((Sum.inr a:aw)=Sum.inl b)=false:=decide_eq_false (fun q=>nomatch q)
def aH(prog:Program)(w:World):PySem.KeyKind prog w aw where
 is:=jB
 hash:=F_ w
 inj:=fun v a b ha hb=>by
  rcases aP ha with ⟨i,t,rfl,rfl⟩|⟨x,t,rfl,rfl⟩
  ·rcases aP hb with ⟨j,u,rfl,e⟩|⟨y,u,rfl,e⟩
   ·injection e with e1 _;rw [e1]
   ·exact nomatch e
  ·rcases aP hb with ⟨j,u,rfl,e⟩|⟨y,u,rfl,e⟩
   ·exact nomatch e
   ·injection e with e1 _;rw [e1]
 byValue:=fun k v h=>by
  rcases aP h with ⟨i,t,rfl,rfl⟩|⟨x,t,rfl,rfl⟩<;>rfl
 pyHash:=fun hv h=>by
  rcases aP hv with ⟨i,t,rfl,rfl⟩|⟨x,t,rfl,rfl⟩
  ·exact wpAny_pyHash_int h
  ·exact wpAny_pyHash_str h
 eqBool:=fun hu hv h=>by
  rcases aP hu with ⟨i,t,rfl,rfl⟩|⟨x,t,rfl,rfl⟩
  ·rcases aP hv with ⟨j,u,rfl,rfl⟩|⟨y,u,rfl,rfl⟩
   ·rw [Fw] at h;exact wpAny_eqBool_int h
   ·rw [ER] at h;exact SeqAt.EqAt.int_str i t y u _ _ _ _ h
  ·rcases aP hv with ⟨j,u,rfl,rfl⟩|⟨y,u,rfl,rfl⟩
   ·rw [F7] at h;exact SeqAt.EqAt.str_int x t j u _ _ _ _ h
   ·rw [F4] at h;exact wpAny_eqBool_str h
 «strs»:=fun k x t v h=>by
  rcases aP h with ⟨i,u,rfl,e⟩|⟨y,u,rfl,e⟩
  ·exact nomatch e
  ·injection e with e1 _
   subst e1;cases v<;>rfl
theorem oV(prog:Program)(w:World)(i:Int)(t:Tok):(aH prog w).is (.inl i) (.int i t)=true:=vT i t
theorem oJ(prog:Program)(w:World)(x:Str)(t:Tok):(aH prog w).is (.inr x) (.str x t)=true:=vE x t
end L2
namespace L2
open PySem PySem.Spec PyProof.Rows
inductive V where
 |non|bl (b:Bool)|int (i:Int)|str (x:Str)|byt (b:Array UInt8)|flt (b:UInt64)|ref (a:Addr)|ty (n:String)
 deriving DecidableEq
def RelV:V->Value->Prop
 |.non,u=>u=Value.none
 |.bl b,u=>u=Value.bool b
 |.int i,u=>∃t,u=Value.int i t
 |.str x,u=>∃t,u=Value.str x t
 |.byt b,u=>∃t,u=Value.bytes b t
 |.flt b,u=>∃t,u=Value.float b t
 |.ref a,u=>u=Value.ref a
 |.ty n,u=>u=Value.type n
abbrev Vals:List V->List Value->Prop:=Paired RelV
theorem Vals.length{xs:List V}{us:List Value}(r:Vals xs us):xs.length=us.length:=Paired.length r
theorem Vals.get:∀{xs:List V} {us:List Value} {i:Nat} {x:V},Vals xs us->xs[i]?=some x->∃u,us[i]?=some u/\RelV x u
 |_,_,_,_,.nil,e=>by simp at e
 |_,_,0,_,.cons r _,e=>by simp at e;subst e;exact ⟨_,rfl,r⟩
 |_,_,i+1,x,.cons _ t,e=>by
  obtain ⟨u,h1,h2⟩:=Vals.get (i:=i) (x:=x) t (by simpa using e)
  exact ⟨u,by simpa using h1,h2⟩
theorem Vals.set{x:V}{u:Value}(r:RelV x u):∀{xs:List V} {us:List Value} (i:Nat),Vals xs us->Vals (xs.set i x) (us.set i u)
 |_,_,_,.nil=>.nil
 |_,_,0,.cons _ t=>.cons r t
 |_,_,i+1,.cons q t=>.cons q (Vals.set r i t)
theorem Vals.append:∀{xs ys:List V} {us ws:List Value},Vals xs us->Vals ys ws->Vals (xs++ys) (us++ws)
 |_,_,_,_,.nil,s=>s
 |_,_,_,_,.cons r t,s=>.cons r (Vals.append t s)
theorem Vals.take:∀{xs:List V} {us:List Value} (n:Nat),Vals xs us->Vals (xs.take n) (us.take n)
 |_,_,0,_=>.nil
 |_,_,_+1,.nil=>.nil
 |_,_,n+1,.cons r t=>.cons r (Vals.take n t)
theorem Vals.drop:∀{xs:List V} {us:List Value} (n:Nat),Vals xs us->Vals (xs.drop n) (us.drop n)
 |_,_,0,r=>r
 |_,_,_+1,.nil=>.nil
 |_,_,n+1,.cons _ t=>Vals.drop n t
def RelO:Option V->Option Value->Prop
 |some v,some u=>RelV v u
 |none,none=>True
 |_,_=>False
def KV{κ:Type}:List (κ×V)->List (κ×Value)->Prop:=Paired fun (p:κ×V) (q:κ×Value)=>p.1=q.1/\RelV p.2 q.2
def kV:aw->V
 |.inl i=>.int i
 |.inr x=>.str x
inductive HO where
  |lst (xs:List V)
  |tup (xs:List V)
  |dK (kvs:List (aw×V))|dT (kvs:List (List aw×V))
  |set (S:Int->Bool) (n:Nat)
  |ins (C dx:Addr) (fs:List (Str×V))
  |own (x:Addr)
  |xd (fs:List (Str×V))
  |met (f x:Addr)
  |rng (lo hi:Int)
  |frz (o:Obj) (u:HO)
  |tbl (ps:Array Value)
  |ext (φ:Heap->Prop)
abbrev Hp:=Addr->Option HO
def upd(H:Hp)(a:Addr)(o:HO):Hp:=fun b=>if b=a then some o else H b
theorem upd_same{H:Hp}{a:Addr}{o:HO}:upd H a o a=some o:=by unfold upd;rw [if_pos rfl]
theorem av{H:Hp}{a b:Addr}{o:HO}(h:b≠a):upd H a o b=H b:=by unfold upd;rw [if_neg h]
theorem HM{H:Hp}{a b:Addr}{o u:HO}(h:H a=some o)(h':H b=some u)(d:o≠u):a≠b:=by
 intro e;subst e;rw [h] at h';exact d (Option.some.inj h')
theorem aW{H:Hp}{a b:Addr}{o:HO}(h:H a=some o)(h':H b=none):a≠b:=by
 intro e;subst e;rw [h] at h';cases h'
section
variable (P:Program)(w:World)
def ObjOk(H:Hp)(h:Heap)(a:Addr):HO->Prop
 |.lst xs=>xs.length<=sizeLine/\∃(its:List Value) (n:Nat),Vals xs its/\h.get? a=some { cls:=.type "list",data:=.seq its.toArray n }
 |.tup xs=>xs.length<=sizeLine/\∃its:List Value,Vals xs its/\∃o,h.get? a=some o/\(o.cls=.type "tuple"/\∃n,o.data=.seq its.toArray n)/\o.dict=none
 |.dK kvs=>kvs.length<=sizeLine/\(a==sysModules)=false/\∃vs,KV kvs vs/\h.DictOf (aH P w) a vs
 |.dT kvs=>kvs.length<=sizeLine/\(a==sysModules)=false/\∃xs:List (List aw×Addr×Value),
   Paired (fun (p:List aw×V) (q:List aw×Addr×Value)=>p.1=q.1/\H q.2.1=some (.tup (p.1.map kV))/\RelV p.2 q.2.2) kvs xs/\
   ∃o es ep,h.get? a=some o/\o.ExactDict/\o.data=.dict es ep/\es.toList=xs.map (entryOfKey (tupleKind (aH P w)))/\(xs.map (·.1)).Nodup
 |.set S n=>h.SetOf (intKind P w) a S n
 |.ins C dx fs=>H dx=some (.own a)/\fs.length<=1000/\dx≠a/\h.get? a=some (W.instObj C dx)/\
   ∃mA,h.Ns1 dx mA/\(∀f,RelO (fs.lookup f) (mA f))/\PySem.Within mA (fs.map (·.1))
 |.own _=>∃o,h.get? a=some o
 |.xd fs=>∃mA,h.Ns1 a mA/\∀f,RelO (fs.lookup f) (mA f)
 |.rng lo hi=>∃t u v,h.get? a=some { cls:=.type "range",data:=.fields #[.int lo t,.int hi u,.int 1 v] }
 |.frz o u=>h.get? a=some o/\ObjOk H h a u
 |.tbl ps=>h.get? a=some { cls:=.none,data:=.fields ps }
 |.met f x=>h.get? a=some (W.methodObj (.ref f) (.ref x))
 |.ext φ=>φ h/\(∃o,h.get? a=some o)/\∀h1 h2:Heap,φ h1->(∀o,h1.get? a=some o->h2.get? a=some o)->φ h2
def HOk(H:Hp)(h:Heap):Prop:=∀a o,H a=some o->ObjOk P w H h a o
end
section
variable {P:Program}{w:World}{H H':Hp}{h h':Heap}{a:Addr}{o:HO}
theorem ObjOk.lt(x:ObjOk P w H h a o):a<h.objs.size:=by
 cases o with
 |lst xs=>obtain ⟨_,_,_,_,e⟩:=x;exact Heap.lt_size e
 |tup xs=>obtain ⟨_,_,_,_,e,_⟩:=x;exact Heap.lt_size e
 |dK kvs=>obtain ⟨_,_,_,_,o,_,_,e,_⟩:=x;exact Heap.lt_size e
 |dT kvs=>obtain ⟨_,_,_,_,o,_,_,e,_⟩:=x;exact Heap.lt_size e
 |set S n=>obtain ⟨o,_,_,_,e,_⟩:=x;exact Heap.lt_size e
 |ins C dx fs=>obtain ⟨_,_,_,e,_⟩:=x;exact Heap.lt_size e
 |own y=>obtain ⟨_,e⟩:=x;exact Heap.lt_size e
 |xd fs=>obtain ⟨_,⟨_,_,_,e,_⟩,_⟩:=x;exact Heap.lt_size e
 |rng lo hi=>obtain ⟨_,_,_,e⟩:=x;exact Heap.lt_size e
 |frz ob u=>obtain ⟨e,_⟩:=x;exact Heap.lt_size e
 |tbl ps=>exact Heap.lt_size (show h.get? a=some _ from x)
 |met f y=>exact Heap.lt_size (show h.get? a=some _ from x)
 |ext φ=>obtain ⟨_,⟨_,e⟩,_⟩:=x;exact Heap.lt_size e
theorem cS{α β:Type}{F G:α->β->Prop}:∀{l₁:List α} {l₂:List β},Paired F l₁ l₂->(∀a b,F a b->G a b)->Paired G l₁ l₂
 |_,_,.nil,_=>.nil
 |_,_,.cons r t,f=>.cons (f _ _ r) (cS t f)
theorem ObjOk.stay(x:ObjOk P w H h a o)(k:∀b u,(b=a\/H b=some (.own a))->h.get? b=some u->h'.get? b=some u)
  (ho:∀b,H b=some (.own a)->H' b=some (.own a)) (ht:∀b xs,H b=some (.tup xs)->H' b=some (.tup xs)):ObjOk P w H' h' a o:=by
 induction o with
 |lst xs=>obtain ⟨z,its,n,r,e⟩:=x;exact ⟨z,its,n,r,k _ _ (.inl rfl) e⟩
 |tup xs=>obtain ⟨z,its,r,ob,e,c⟩:=x;exact ⟨z,its,r,ob,k _ _ (.inl rfl) e,c⟩
 |dK kvs=>obtain ⟨z,y,vs,r,ob,es,ep,e,c⟩:=x;exact ⟨z,y,vs,r,ob,es,ep,k _ _ (.inl rfl) e,c⟩
 |dT kvs=>
  obtain ⟨z,y,xs,r,ob,es,ep,e,c⟩:=x;exact ⟨z,y,xs,cS r fun p q z=>⟨z.1,ht _ _ z.2.1,z.2.2⟩,ob,es,ep,k _ _ (.inl rfl) e,c⟩
 |set S n=>obtain ⟨ob,es,ep,t,e,c⟩:=x;exact ⟨ob,es,ep,t,k _ _ (.inl rfl) e,c⟩
 |ins C dx fs=>
  obtain ⟨d,z,ne,e,mA,⟨od,es,ep,e2,c⟩,r⟩:=x;exact ⟨ho _ d,z,ne,k _ _ (.inl rfl) e,mA,⟨od,es,ep,k _ _ (.inr d) e2,c⟩,r⟩
 |own y=>obtain ⟨ob,e⟩:=x;exact ⟨ob,k _ _ (.inl rfl) e⟩
 |xd fs=>obtain ⟨mA,⟨od,es,ep,e,c⟩,r⟩:=x;exact ⟨mA,⟨od,es,ep,k _ _ (.inl rfl) e,c⟩,r⟩
 |rng lo hi=>obtain ⟨t,u,v,e⟩:=x;exact ⟨t,u,v,k _ _ (.inl rfl) e⟩
 |frz ob u ih=>obtain ⟨e,q⟩:=x;exact ⟨k _ _ (.inl rfl) e,ih q⟩
 |tbl ps=>
  have e:h.get? a=some { cls:=.none,data:=.fields ps }:=x;show h'.get? a=some { cls:=.none,data:=.fields ps };exact k a _ (.inl rfl) e
 |met f y=>
  have e:h.get? a=some (W.methodObj (.ref f) (.ref y)):=x;show h'.get? a=some (W.methodObj (.ref f) (.ref y));exact k a _ (.inl rfl) e
 |ext φ=>obtain ⟨p,⟨o,e⟩,st⟩:=x;exact ⟨st _ _ p fun o q=>k _ _ (.inl rfl) q,⟨o,k _ _ (.inl rfl) e⟩,st⟩
theorem HOk.lt(x:HOk P w H h)(e:H a=some o):a<h.objs.size:=(x a o e).lt
theorem HOk.fresh(x:HOk P w H h)(e:h.objs.size<=a):H a=none:=by
 cases q:H a with
 |none=>rfl
 |some u=>exact absurd (Nat.lt_of_lt_of_le (x.lt q) e) (Nat.lt_irrefl _)
theorem HOk.kept(x:HOk P w H h)(k:∀b u,h.get? b=some u->h'.get? b=some u):HOk P w H h':=fun a o e=>
 (x a o e).stay (fun b u _ q=>k b u q) (fun _ q=>q) fun _ _ q=>q
theorem HOk.laid(x:HOk P w H h)(k:∀b u,h.get? b=some u->h'.get? b=some u)(hp:h.objs.size<=a)(new:ObjOk P w (upd H a o) h' a o):HOk P w (upd H a o) h':=fun b u e=>by
 have hn:=x.fresh hp
 by_cases hb:b=a
 ·subst hb;rw [upd_same] at e;cases e;exact new
 ·rw [av hb] at e
  exact (x b u e).stay (fun c v _ q=>k c v q) (fun c q=>by rw [av (aW q hn)];exact q) fun c xs q=>by rw [av (aW q hn)];exact q
end
def Rd(H:Hp)(a:Addr)(u:HO):Prop:=H a=some u\/∃o,H a=some (.frz o u)
theorem Rd.ok{P:Program}{w:World}{H:Hp}{h:Heap}{a:Addr}{u:HO}(r:Rd H a u)(x:HOk P w H h):ObjOk P w H h a u:=by
 rcases r with r|⟨o,r⟩
 ·exact x a u r
 ·obtain ⟨_,q⟩:=x a _ r
  exact q
def Hl:Option HO->Prop
 |some (.lst _)=>True
 |some (.dK _)=>True
 |some (.dT _)=>True
 |some (.set _ _)=>True
 |some (.ins _ _ _)=>True
 |some (.ext _)=>True
 |_=>False
section
variable {P:Program}{w:World}{H:Hp}{h h':Heap}{x e:Addr}{o':HO}
theorem HOk.write(ok:HOk P w H h)(mu:Hl (H x))(he:e=x\/H e=some (.own x))(k:∀b u,b≠e->h.get? b=some u->h'.get? b=some u)(heo:∃u,h'.get? e=some u)
  (new:ObjOk P w (upd H x o') h' x o'):HOk P w (upd H x o') h':=fun b u q=>by
 have nown:∀c y,H c=some (.own y)->c≠x:=fun c y r z=>by subst z;rw [r] at mu;exact mu
 have ntup:∀c xs,H c=some (.tup xs)->c≠x:=fun c xs r z=>by subst z;rw [r] at mu;exact mu
 by_cases hb:b=x
 ·subst hb;rw [upd_same] at q;cases q;exact new
 ·rw [av hb] at q
  by_cases hbe:b=e
  ·have q':H b=some (.own x):=by
    rcases he with z|z
    ·exact absurd (hbe.trans z) hb
    ·rw [hbe];exact z
   rw [q] at q';cases q';obtain ⟨v,hv⟩:=heo;exact ⟨v,by rw [hbe];exact hv⟩
  ·refine (ok b u q).stay (fun c v hc r=>k c v ?_ r) (fun c r=>by rw [av (nown c b r)];exact r) fun c xs r=>by rw [av (ntup c xs r)];exact r
   rcases hc with rfl|hc
   ·exact hbe
   ·rintro rfl
    rcases he with z|z
    ·exact nown c b hc z
    ·rw [hc] at z;cases z;exact hb rfl
end
structure Un(fs ex:List Addr)(H H':Hp)(h h':Heap):Prop where
 keep:∀b o,h.get? b=some o->H b=none->b∉fs->b∉ex->h'.get? b=some o
 slot:∀b o,h.get? b=some o->H b=none->b∈fs->b∉ex->∃sl,h'.get? b=some { o with slots:=sl }
 free:∀b o,h.get? b=some o->H b=none->b∉ex->H' b=none
 there:∀b o,h.get? b=some o->b∉ex->∃o',h'.get? b=some o'
 tups:∀b xs,H b=some (.tup xs)->H' b=some (.tup xs)
 frzs:∀b o u,H b=some (.frz o u)->H' b=some (.frz o u)
 tbls:∀b ps,H b=some (.tbl ps)->∃more,H' b=some (.tbl (ps++more))
section
variable {fs fs' ex ex':List Addr}{H H1 H2:Hp}{h h1 h2 h':Heap}{a x e:Addr}{o:HO}
theorem Un.any(u:Un fs ex H H1 h h1){b:Addr}{ob:Obj}(q:h.get? b=some ob)(n:H b=none)(hx:b∉ex):∃sl,h1.get? b=some { ob with slots:=sl }:=by
 by_cases hb:b∈fs
 ·exact u.slot b ob q n hb hx
 ·exact ⟨ob.slots,u.keep b ob q n hb hx⟩
theorem Un.kept(k:∀b u,h.get? b=some u->h'.get? b=some u):Un fs ex H H h h':=
 ⟨fun b ob q _ _ _=>k b ob q,fun b ob q _ _ _=>⟨ob.slots,k b ob q⟩,fun _ _ _ n _=>n,fun b ob q _=>⟨ob,k b ob q⟩,fun _ _ q=>q,fun _ _ _ q=>q,fun _ ps q=>⟨#[],by rw [q];simp⟩⟩
theorem Un.refl:Un fs ex H H h h:=Un.kept fun _ _ q=>q
theorem Un.laid(k:∀b u,h.get? b=some u->h'.get? b=some u)(hp:h.objs.size<=a)(hn:H a=none):Un fs ex H (upd H a o) h h' where
 keep:=fun b u q _ _ _=>k b u q
 slot:=fun b u q _ _ _=>⟨u.slots,k b u q⟩
 free:=fun b u q n _=>by rw [av (Nat.ne_of_lt (Nat.lt_of_lt_of_le (Heap.lt_size q) hp))];exact n
 there:=fun b u q _=>⟨u,k b u q⟩
 tups:=fun b xs q=>by rw [av (aW q hn)];exact q
 frzs:=fun b u xs q=>by rw [av (aW q hn)];exact q
 tbls:=fun b ps q=>⟨#[],by rw [av (aW q hn),q];simp⟩
theorem Un.write(mu:Hl (H x))(he:e=x\/H e=some (.own x))(k:∀b u,b≠e->h.get? b=some u->h'.get? b=some u)(heo:∃u,h'.get? e=some u):Un fs ex H (upd H x o) h h':=by
 have hx:∀b,H b=none->b≠x:=fun b n z=>by subst z;rw [n] at mu;exact mu
 have hb:∀b,H b=none->b≠e:=fun b n z=>by
  subst z;rcases he with r|r
  ·exact hx b n r
  ·rw [n] at r;cases r
 have hm:∀b u,H b=some u->¬Hl (some u)->b≠x:=fun b u q nm z=>by subst z;rw [q] at mu;exact nm mu
 refine ⟨fun b u q n _ _=>k b u (hb b n) q,fun b u q n _ _=>⟨u.slots,k b u (hb b n) q⟩,fun b u q n _=>by rw [av (hx b n)];exact n,fun b u q _=>?_,
  fun b xs q=>by rw [av (hm b _ q fun z=>z)];exact q,fun b u xs q=>by rw [av (hm b _ q fun z=>z)];exact q,fun b ps q=>⟨#[],by rw [av (hm b _ q fun z=>z),q];simp⟩⟩
 by_cases hbe:b=e
 ·subst hbe;exact heo
 ·exact ⟨u,k b u hbe q⟩
end
def trk(h:Heap)(H:Hp):List Addr:=(List.range h.objs.size).filter fun a=>(H a).isSome
def mv(h:Heap)(H:Hp):Heap:=W.hideAll h (trk h H)
theorem vf(h:Heap)(H:Hp):(mv h H).objs.size=h.objs.size:=W.hideAll_size _ _
theorem xT{h:Heap}{H:Hp}{b:Addr}{o:Obj}(e:h.get? b=some o)(n:H b=none):(mv h H).get? b=some o:=
 W.hideAll_get _ e fun hm=>by
  have q:(H b).isSome=true:=(List.mem_filter.mp hm).2;rw [n] at q;simp at q
theorem B2{h:Heap}{H:Hp}{b:Addr}{o:Obj}(e:(mv h H).get? b=some o):h.get? b=some o/\H b=none:=by
 have e':h.get? b=some o:=W.of_hideAll (trk h H) e;refine ⟨e',?_⟩;cases q:H b with
 |none=>rfl
 |some x=>
  have hm:b∈trk h H:=List.mem_filter.mpr ⟨List.mem_range.mpr (Heap.lt_size e'),by simp [q]⟩
  have z:(mv h H).get? b=none:=W.hideAll_none (trk h H) hm;rw [z] at e;cases e
end L2
namespace L2
open PySem PySem.Spec PyProof.Rows
structure Mod(K:W.Frag)(mg:Str->Option Value)(base:Heap):Prop where
 kin:K.In base
 glob:base.Ns mainGlobals mg
 blt:∃mb,base.Ns builtinsNs mb/\∀x:Str,x≠"__name__"->mb x=bootBuiltins x
 nolimit:base.NoLimit
structure Cx where
 prog:Program
 w:World
 K:W.Frag
 mg:Str->Option Value
 base:Heap
 A:Around
 N:List Str
 s₀:Shared
 H₀:Hp
 env:Env
 outer:List Env
 stack:List Env
 ex:List Addr
 fn:Str->Bool
 calm:Bool
 pn:List (Addr×Obj)
 xe:Value->Shared->Prop
def eU(l:List Env):List Addr:=l.filterMap (·.frame)
abbrev Cx.fs(X:Cx):List Addr:=eU X.outer
def CQ(sc:Scope)(x:Str):Prop:=sc.names.lookup x=some .local\/sc.names.lookup x=some .cell\/sc.names.lookup x=some .free
def wj(sc:Scope)(x:Str):Prop:=sc.names.lookup x=some .local\/sc.names.lookup x=some .cell
def Look(env:Env)(h:Heap)(m:Str->Option Value)(x:Str)(u:Value):Prop:=
 (env.kindOf x=some .local/\m x=some u)\/((env.kindOf x=some .cell\/env.kindOf x=some .free)/\∃c,env.cells.lookup x=some c/\h.IsCell c (some u))
structure Cx.Ok(X:Cx):Prop where
 mod:Mod X.K X.mg X.base
 kind:X.env.scope.kind=.function
 glob:X.env.globals=mainGlobals
 blt:X.env.builtins=builtinsNs
 above:X.s₀.heap.objs.size<=X.env.locals
 inj:∀x y c,X.env.cells.lookup x=some c->X.env.cells.lookup y=some c->x=y
 has:∀x,(X.env.kindOf x=some .cell\/X.env.kindOf x=some .free)->∃c,X.env.cells.lookup x=some c
 cab:∀x c,X.fn x=true->X.env.cells.lookup x=some c->X.s₀.heap.objs.size<=c
 hd:X.calm=true->X.A.handled=none
 frames:X.A.frames=some X.stack
 stk:X.stack=X.outer\/(X.stack=X.env::X.outer/\X.env.frame=some X.env.locals)
 exf:∀b∈X.ex,b≠X.env.locals/\∀x c,X.env.cells.lookup x=some c->c≠b
 bs:∀b o,X.base.get? b=some o->X.s₀.heap.get? b=some o/\X.H₀ b=none
 bsz:X.base.objs.size<=X.s₀.heap.objs.size
 noex:∀b o,X.base.get? b=some o->b∉X.ex
 exfs:∀b∈X.ex,b∉X.fs
 funs:X.s₀.heap.FunFrames X.base X.outer
 frf:∀b∈X.fs,X.H₀ b=none
structure Inv(X:Cx)(pins:List (Addr×Obj))(σ:List (Option V))(H:Hp)(s:Shared):Prop where
 ok:X.Ok
 os:s.os=X.s₀.os
 bare:AllBare s.gens
 base:Un X.fs X.ex X.H₀ H X.s₀.heap s.heap
 loc:∃m,s.heap.Ns X.env.locals m/\∀(i:Nat) (x:Str) (v:V),X.N[i]?=some x->σ[i]?=some (some v)->CQ X.env.scope x->∃u,RelV v u/\Look X.env s.heap m x u
 cell:∀x c,X.env.cells.lookup x=some c->∃v,s.heap.IsCell c v
 free:H X.env.locals=none
 freeC:∀x c,X.env.cells.lookup x=some c->H c=none
 pin:∀p∈X.pn++pins,s.heap.get? p.1=some p.2/\H p.1=none/\p.1≠X.env.locals/\p.1∉X.fs/\∀v,p.2.data≠.cell v
 hok:HOk X.prog X.w H s.heap
 len:σ.length=X.N.length
section
variable {X:Cx}{pins:List (Addr×Obj)}{σ:List (Option V)}{H H':Hp}{s:Shared}{h':Heap}
theorem Cx.Ok.nofr(ok:X.Ok){b:Addr}{o:Obj}(e:X.base.get? b=some o):b∉X.fs:=fun hb=>by
 have:=(ok.funs.mem hb).1;rw [e] at this;cases this
theorem Inv.bs(I:Inv X pins σ H s):∀b o,X.base.get? b=some o->s.heap.get? b=some o/\H b=none:=fun b o e=>
 ⟨I.base.keep b o (I.ok.bs b o e).1 (I.ok.bs b o e).2 (I.ok.nofr e) (I.ok.noex b o e),I.base.free b o (I.ok.bs b o e).1 (I.ok.bs b o e).2 (I.ok.noex b o e)⟩
theorem Inv.bk(I:Inv X pins σ H s):∀b o,X.base.get? b=some o->s.heap.get? b=some o:=fun b o e=>(I.bs b o e).1
theorem Inv.mod(I:Inv X pins σ H s):Mod X.K X.mg X.base:=I.ok.mod
theorem Inv.kIn(I:Inv X pins σ H s):X.K.In s.heap:=I.ok.mod.kin.keeps I.bk
theorem Inv.lt(I:Inv X pins σ H s):X.env.locals<s.heap.objs.size:=let ⟨_,hn,_⟩:=I.loc;hn.lt
theorem Inv.sz(I:Inv X pins σ H s):X.s₀.heap.objs.size<=s.heap.objs.size:=Nat.le_trans I.ok.above (Nat.le_of_lt I.lt)
theorem Inv.nofs(I:Inv X pins σ H s){a:Addr}(h:s.heap.objs.size<=a):a∉X.fs:=fun hb=>by
 obtain ⟨_,o,ho,_⟩:=I.ok.funs.mem hb;exact absurd (Nat.lt_of_lt_of_le (Heap.lt_size ho) (Nat.le_trans I.sz h)) (Nat.lt_irrefl _)
theorem Inv.cne(I:Inv X pins σ H s):∀x c,X.env.cells.lookup x=some c->c≠X.env.locals:=fun x c e z=>by
 obtain ⟨v,o,ho,hd⟩:=I.cell x c e;obtain ⟨m,⟨o',es,ep,ho',hd',_⟩,_⟩:=I.loc;rw [z,ho'] at ho;cases ho;rw [hd'] at hd;cases hd
theorem Inv.funs(I:Inv X pins σ H s):s.heap.FunFrames X.base X.outer:=by
 have all:∀(l:List Env),(∀b∈eU l,b∈X.fs)->X.s₀.heap.FunFrames X.base l->s.heap.FunFrames X.base l:=by
  intro l
  induction l with
  |nil=>intro _ _;trivial
  |cons env r ih=>
   intro hs hl;obtain ⟨hk,⟨L,o,hf,hn,ho,hd⟩,hr⟩:=hl;have hL:L∈X.fs:=hs L (by unfold eU;rw [List.filterMap_cons,hf];exact List.mem_cons_self)
   obtain ⟨sl,e⟩:=I.base.slot L o ho (I.ok.frf L hL) hL fun z=>I.ok.exfs L z hL;exact ⟨hk,⟨L,_,hf,hn,e,hd⟩,ih (fun b hb=>hs b (by unfold eU;rw [List.filterMap_cons,hf];exact List.mem_cons_of_mem _ hb)) hr⟩
 exact all X.outer (fun _ hb=>hb) I.ok.funs
theorem Inv.stack(I:Inv X pins σ H s):s.heap.FunFrames X.base X.stack:=by
 rcases I.ok.stk with e|⟨e,hf⟩
 ·rw [e];exact I.funs
 ·rw [e]
  obtain ⟨m,hn,_⟩:=I.loc;refine .cons (by rw [I.ok.kind];decide) hf hn ?_ I.funs
  exact Heap.get?_none_of_le (Nat.le_trans I.ok.bsz I.ok.above)
theorem Inv.stkSub(I:Inv X pins σ H s):∀b∈eU X.stack,b∈X.env.locals::X.fs:=fun b hb=>by
 rcases I.ok.stk with e|⟨e,hf⟩
 ·rw [e] at hb;exact List.mem_cons_of_mem _ hb
 ·rw [e] at hb
  unfold eU at hb;rw [List.filterMap_cons,hf] at hb;exact hb
theorem Inv.stkFree(I:Inv X pins σ H s):∀b∈eU X.stack,H b=none:=fun b hb=>by
 rcases List.mem_cons.mp (I.stkSub b hb) with e|hb
 ·rw [e];exact I.free
 ·obtain ⟨_,o,ho,_⟩:=I.ok.funs.mem hb
  exact I.base.free b o ho (I.ok.frf b hb) fun z=>I.ok.exfs b z hb
theorem Inv.step{g':Array GenState}{t':Nat}{d':Drawn}{ch:List Addr}(I:Inv X pins σ H s)
  (hch:∀b∈ch,(b∈X.ex\/X.s₀.heap.objs.size<=b)/\b≠X.env.locals/\(∀x c,X.env.cells.lookup x=some c->c≠b)/\∀p∈X.pn++pins,p.1≠b)
  (keep:∀b o,b≠X.env.locals->b∉X.fs->b∉ch->s.heap.get? b=some o->H b=none->h'.get? b=some o)
  (slot:∀b o,b≠X.env.locals->b∈X.fs->b∉ch->s.heap.get? b=some o->H b=none->∃sl,h'.get? b=some { o with slots:=sl }) (free:∀b o,b∉ch->s.heap.get? b=some o->H b=none->H' b=none)
  (there:∀b o,b∉ch->s.heap.get? b=some o->∃o',h'.get? b=some o')
  (tups:∀b xs,H b=some (.tup xs)->H' b=some (.tup xs)) (frzs:∀b o u,H b=some (.frz o u)->H' b=some (.frz o u)) (tbls:∀b ps,H b=some (.tbl ps)->∃more,H' b=some (.tbl (ps++more)))
  (ns:∀m,s.heap.Ns X.env.locals m->h'.Ns X.env.locals m) (hok:HOk X.prog X.w H' h') (hg:AllBare g'):
  Inv X pins σ H' { s with heap:=h',gens:=g',drawn:=d',toks:=t' }:=by
 have neL:∀b o,X.s₀.heap.get? b=some o->b≠X.env.locals:=fun b o e=>Nat.ne_of_lt (Nat.lt_of_lt_of_le (Heap.lt_size e) I.ok.above);have neC:∀b o,X.s₀.heap.get? b=some o->b∉X.ex->b∉ch:=fun b o e hx hb=>by
  rcases (hch b hb).1 with z|z
  ·exact hx z
  ·exact absurd (Nat.lt_of_lt_of_le (Heap.lt_size e) z) (Nat.lt_irrefl _)
 have cellK:∀x c,X.env.cells.lookup x=some c->∀v,s.heap.IsCell c v->h'.IsCell c v:=fun x c e v ⟨o,ho,hd⟩=>by
  have nch:c∉ch:=fun z=>(hch c z).2.2.1 x c e rfl
  by_cases hc:c∈X.fs
  ·obtain ⟨sl,q⟩:=slot c o (I.cne x c e) hc nch ho (I.freeC x c e)
   exact ⟨_,q,hd⟩
  ·exact ⟨o,keep c o (I.cne x c e) hc nch ho (I.freeC x c e),hd⟩
 refine ⟨I.ok,I.os,hg,⟨fun b o e n hb hx=>?_,fun b o e n hb hx=>?_,fun b o e n hx=>?_,fun b o e hx=>?_,fun b xs e=>tups b xs (I.base.tups b xs e),fun b o xs e=>frzs b o xs (I.base.frzs b o xs e),fun b ps e=>?_⟩,?_,fun x c e=>?_,?_,fun x c e=>?_,fun p hp=>?_,hok,I.len⟩
 ·exact keep b o (neL b o e) hb (neC b o e hx) (I.base.keep b o e n hb hx) (I.base.free b o e n hx)
 ·obtain ⟨sl,e1⟩:=I.base.slot b o e n hb hx
  obtain ⟨sl',e2⟩:=slot b _ (neL b o e) hb (neC b o e hx) e1 (I.base.free b o e n hx);exact ⟨sl',e2⟩
 ·obtain ⟨o',e1⟩:=I.base.there b o e hx
  exact free b o' (neC b o e hx) e1 (I.base.free b o e n hx)
 ·obtain ⟨o',e1⟩:=I.base.there b o e hx
  exact there b o' (neC b o e hx) e1
 ·obtain ⟨m1,e1⟩:=I.base.tbls b ps e
  obtain ⟨m2,e2⟩:=tbls b _ e1;exact ⟨m1++m2,by rw [e2,Array.append_assoc]⟩
 ·obtain ⟨m,hn,hl⟩:=I.loc
  refine ⟨m,ns m hn,fun i x v e1 e2 e3=>?_⟩;obtain ⟨u,r,l⟩:=hl i x v e1 e2 e3;refine ⟨u,r,?_⟩;rcases l with l|⟨k,c,e,z⟩
  ·exact .inl l
  ·exact .inr ⟨k,c,e,cellK x c e _ z⟩
 ·obtain ⟨v,z⟩:=I.cell x c e
  exact ⟨v,cellK x c e v z⟩
 ·obtain ⟨m,⟨o,_,_,ho,_⟩,_⟩:=I.loc
  exact free _ o (fun z=>(hch _ z).2.1 rfl) ho I.free
 ·obtain ⟨v,o,ho,hd⟩:=I.cell x c e
  exact free c o (fun z=>(hch c z).2.2.1 x c e rfl) ho (I.freeC x c e)
 ·obtain ⟨e,n,ne,nf,d⟩:=I.pin p hp
  have nch:p.1∉ch:=fun z=>(hch p.1 z).2.2.2 p hp rfl;exact ⟨keep p.1 p.2 ne nf nch e n,free p.1 p.2 nch e n,ne,nf,d⟩
theorem Inv.un{t':Nat}(I:Inv X pins σ H s)(u:Un X.fs [] H H' s.heap h')(hok:HOk X.prog X.w H' h'):Inv X pins σ H' { s with heap:=h',toks:=t' }:=by
 obtain ⟨m,⟨o,es,ep,ho,r⟩,_⟩:=id I.loc;obtain ⟨sl,hL⟩:=u.any ho I.free (by simp)
 exact I.step (g':=s.gens) (d':=s.drawn) (ch:=[]) (fun _ z=>nomatch z) (fun b o _ hb _ e n=>u.keep b o e n hb (by simp)) (fun b o _ hb _ e n=>u.slot b o e n hb (by simp)) (fun b o _ e n=>u.free b o e n (by simp)) (fun b o _ e=>u.there b o e (by simp)) u.tups u.frzs u.tbls (fun m' hm=>by
  obtain ⟨o',es',ep',ho',r'⟩:=hm;rw [ho] at ho';cases ho';exact ⟨_,es',ep',hL,r'⟩) hok I.bare
theorem Inv.call{g':Array GenState}{t':Nat}{d':Drawn}{ch:List Addr}(I:Inv X pins σ H s)(u:Un (eU X.stack) ch H H' s.heap h')(hok:HOk X.prog X.w H' h')(hg:AllBare g')
  (hch:∀b∈ch,(b∈X.ex\/X.s₀.heap.objs.size<=b)/\b≠X.env.locals/\(∀x c,X.env.cells.lookup x=some c->c≠b)/\∀p∈X.pn++pins,p.1≠b):
  Inv X pins σ H' { s with heap:=h',gens:=g',drawn:=d',toks:=t' }:=by
 obtain ⟨m,⟨o,es,ep,ho,r⟩,_⟩:=id I.loc;obtain ⟨sl,hL⟩:=u.any ho I.free fun z=>(hch _ z).2.1 rfl;exact I.step (ch:=ch) hch (fun b o hL hb hc e n=>u.keep b o e n (fun z=>(List.mem_cons.mp (I.stkSub b z)).elim hL hb) hc) (fun b o _ _ hc e n=>u.any e n hc) (fun b o hc e n=>u.free b o e n hc) (fun b o hc e=>u.there b o e hc) u.tups u.frzs u.tbls (fun m' hm=>by
  obtain ⟨o',es',ep',ho',r'⟩:=hm;rw [ho] at ho';cases ho';exact ⟨_,es',ep',hL,r'⟩) hok hg
theorem Inv.turned{t':Nat}{it:Addr}(I:Inv X pins σ H s)(k:∀b o,b≠it->s.heap.get? b=some o->h'.get? b=some o)(hn:H it=none)(hL:it≠X.env.locals)
  (h1:it∈X.ex\/X.s₀.heap.objs.size<=it) (h2:∀x c,X.env.cells.lookup x=some c->c≠it) (h3:∀p∈X.pn++pins,p.1≠it):Inv X pins σ H { s with heap:=h',toks:=t' }:=by
 have nit:∀b u,H b=some u->b≠it:=fun b u e z=>by rw [z,hn] at e;cases e
 refine I.step (g':=s.gens) (d':=s.drawn) (ch:=[it]) (fun b hb=>?_) (fun b o _ _ hc e _=>k b o (fun z=>hc (by simp [z])) e) (fun b o _ _ hc e _=>⟨o.slots,k b o (fun z=>hc (by simp [z])) e⟩) (fun _ _ _ _ n=>n)
  (fun b o hc e=>⟨o,k b o (fun z=>hc (by simp [z])) e⟩) (fun _ _ e=>e) (fun _ _ _ e=>e) (fun b ps e=>⟨#[],by rw [e];simp⟩) (fun m hm=>?_) (fun b u e=>?_) I.bare
 ·have e:b=it:=by simpa using hb
  subst e;exact ⟨h1,hL,h2,h3⟩
 ·obtain ⟨o,es,ep,ho,r⟩:=hm
  exact ⟨o,es,ep,k _ o (Ne.symm hL) ho,r⟩
 ·refine (I.hok b u e).stay (fun c v hc q=>k c v ?_ q) (fun _ q=>q) fun _ _ q=>q
  rcases hc with z|z
  ·rw [z];exact nit b u e
  ·exact nit c _ z
theorem Inv.tok(I:Inv X pins σ H s)(t:Nat):Inv X pins σ H { s with toks:=t }:=I.un (h':=s.heap) (t':=t) Un.refl I.hok
theorem Inv.kept{t':Nat}(I:Inv X pins σ H s)(k:∀b u,s.heap.get? b=some u->h'.get? b=some u):Inv X pins σ H { s with heap:=h',toks:=t' }:=I.un (Un.kept k) (I.hok.kept k)
theorem Inv.laid{a:Addr}{o:HO}{t':Nat}(I:Inv X pins σ H s)(k:∀b u,s.heap.get? b=some u->h'.get? b=some u)(hp:s.heap.objs.size<=a)(new:ObjOk X.prog X.w (upd H a o) h' a o):
  Inv X pins σ (upd H a o) { s with heap:=h',toks:=t' }:=I.un (Un.laid k hp (I.hok.fresh hp)) (I.hok.laid k hp new)
theorem Inv.write{x e:Addr}{o:HO}{t':Nat}(I:Inv X pins σ H s)(mu:Hl (H x))(he:e=x\/H e=some (.own x))(k:∀b u,b≠e->s.heap.get? b=some u->h'.get? b=some u)(heo:∃u,h'.get? e=some u)
  (new:ObjOk X.prog X.w (upd H x o) h' x o):Inv X pins σ (upd H x o) { s with heap:=h',toks:=t' }:=I.un (Un.write mu he k heo) (I.hok.write mu he k heo new)
theorem Inv.pins_of{pins':List (Addr×Obj)}(I:Inv X pins σ H s)(h:∀p∈pins',s.heap.get? p.1=some p.2/\H p.1=none/\p.1≠X.env.locals/\p.1∉X.fs/\∀v,p.2.data≠.cell v):Inv X pins' σ H s:=
 ⟨I.ok,I.os,I.bare,I.base,I.loc,I.cell,I.free,I.freeC,fun p hp=>(List.mem_append.mp hp).elim (fun z=>I.pin p (List.mem_append_left _ z)) (h p),I.hok,I.len⟩
theorem oN{N:List Str}(hN:N.Nodup){i j:Nat}{x:Str}(a:N[i]?=some x)(b:N[j]?=some x):i=j:=by
 obtain ⟨h1,e1⟩:=List.getElem?_eq_some_iff.mp a;obtain ⟨h2,e2⟩:=List.getElem?_eq_some_iff.mp b;exact (List.getElem_inj hN).mp (e1.trans e2.symm)
theorem kS{M:Model}{A:Around}{E:Value->Shared->Prop}{i:Nat}{x:Str}{v:V}{u:Value}{Q:Unit->Shared->Prop}(I:Inv X pins σ H s)(hN:X.N.Nodup)(hi:X.N[i]?=some x)(hx:wj X.env.scope x)(r:RelV v u)
  (h:∀s',Inv X pins (σ.set i (some v)) H s'->(∃a,Heap.SameBut a s.heap s'.heap/\(a=X.env.locals\/X.env.cells.lookup x=some a))->Q () s') (hf:X.fn x=true\/X.env.scope.names.lookup x=some .local:=by first|exact .inl rfl|exact .inr rfl|assumption):wpAny M A (storeName X.env x u) Q E s:=by
 obtain ⟨m,hn,hl⟩:=id I.loc;have hcls:(X.env.scope.kind==.class||(X.env.scope.kind==.module&&X.env.locals != X.env.globals))=false:=by rw [I.ok.kind];rfl
 have hiσ:i<σ.length:=by rw [I.len];exact (List.getElem?_eq_some_iff.mp hi).1
 have cne:=I.cne;have tracked:∀{a:Addr} {h':Heap},(∃o,s.heap.get? a=some o/\H a=none)->Heap.SameBut a s.heap h'->HOk X.prog X.w H h':=fun {a h'} ha hs b ob e=>by
  obtain ⟨_,_,hfree⟩:=ha;refine (I.hok b ob e).stay (fun c w' hc q=>(hs.2 c ?_).trans q) (fun _ q=>q) fun _ _ q=>q
  rintro rfl
  rcases hc with rfl|hc
  ·rw [hfree] at e;cases e
  ·rw [hfree] at hc;cases hc
 rcases hx with hk|hk
 ·refine wpAny_storeName_local hk hn (fun h' hn' hs=>?_) hcls
  obtain ⟨oL,_,_,hoL,_⟩:=id hn;refine h _ ⟨I.ok,I.os,I.bare,⟨fun b o e n hb hx=>?_,fun b o e n hb hx=>?_,I.base.free,fun b o e hx=>?_,I.base.tups,I.base.frzs,I.base.tbls⟩,⟨_,hn',fun j y v' e1 e2 e3=>?_⟩,fun y c e=>?_,I.free,I.freeC,fun p hp=>?_,tracked ⟨oL,hoL,I.free⟩ hs,by simpa using I.len⟩ ⟨_,hs,.inl rfl⟩
  ·exact (hs.2 b (Nat.ne_of_lt (Nat.lt_of_lt_of_le (Heap.lt_size e) I.ok.above))).trans (I.base.keep b o e n hb hx)
  ·obtain ⟨sl,e1⟩:=I.base.slot b o e n hb hx
   exact ⟨sl,(hs.2 b (Nat.ne_of_lt (Nat.lt_of_lt_of_le (Heap.lt_size e) I.ok.above))).trans e1⟩
  ·obtain ⟨o',e1⟩:=I.base.there b o e hx
   exact ⟨o',(hs.2 b (Nat.ne_of_lt (Nat.lt_of_lt_of_le (Heap.lt_size e) I.ok.above))).trans e1⟩
  ·by_cases hj:j=i
   ·subst hj
    rw [hi] at e1;cases e1;rw [List.getElem?_set_self hiσ] at e2;cases e2;exact ⟨u,r,.inl ⟨hk,by simp⟩⟩
   ·rw [List.getElem?_set_ne (Ne.symm hj)] at e2
    obtain ⟨u',r',q⟩:=hl j y v' e1 e2 e3;refine ⟨u',r',?_⟩;rcases q with ⟨k,e⟩|⟨k,c,e,z⟩
    ·refine .inl ⟨k,?_⟩
     have:y≠x:=fun e=>hj (oN hN e1 (e▸hi));simp [this,e]
    ·exact .inr ⟨k,c,e,z.sameBut hs (cne y c e)⟩
  ·obtain ⟨w',z⟩:=I.cell y c e
   exact ⟨w',z.sameBut hs (cne y c e)⟩
  ·obtain ⟨e,n,ne,nf,d⟩:=I.pin p hp
   exact ⟨(hs.2 p.1 ne).trans e,n,ne,nf,d⟩
 ·have hfn:X.fn x=true:=by
   rcases hf with z|z
   ·exact z
   ·rw [z] at hk;cases hk
  obtain ⟨c,hc⟩:=I.ok.has x (.inl hk);obtain ⟨w',z⟩:=I.cell x c hc;refine wpAny_storeName_cell I.ok.kind hk hc z (fun h' hc' hs=>?_);obtain ⟨oc,hoc,hocd⟩:=id z;refine h { s with heap:=h' } ⟨I.ok,I.os,I.bare,⟨fun b o e n hb hx=>?_,fun b o e n hb hx=>?_,I.base.free,fun b o e hx=>?_,I.base.tups,I.base.frzs,I.base.tbls⟩,⟨m,hn.sameBut hs (Ne.symm (cne x c hc)),fun j y v' e1 e2 e3=>?_⟩,fun y c' e=>?_,I.free,I.freeC,fun p hp=>?_,tracked ⟨oc,hoc,I.freeC x c hc⟩ hs,by simpa using I.len⟩ ⟨c,hs,.inr hc⟩
  ·exact (hs.2 b (Nat.ne_of_lt (Nat.lt_of_lt_of_le (Heap.lt_size e) (I.ok.cab x c hfn hc)))).trans (I.base.keep b o e n hb hx)
  ·obtain ⟨sl,e1⟩:=I.base.slot b o e n hb hx
   exact ⟨sl,(hs.2 b (Nat.ne_of_lt (Nat.lt_of_lt_of_le (Heap.lt_size e) (I.ok.cab x c hfn hc)))).trans e1⟩
  ·obtain ⟨o',e1⟩:=I.base.there b o e hx
   exact ⟨o',(hs.2 b (Nat.ne_of_lt (Nat.lt_of_lt_of_le (Heap.lt_size e) (I.ok.cab x c hfn hc)))).trans e1⟩
  ·by_cases hj:j=i
   ·subst hj
    rw [hi] at e1;cases e1;rw [List.getElem?_set_self hiσ] at e2;cases e2;exact ⟨u,r,.inr ⟨.inl hk,c,hc,hc'⟩⟩
   ·rw [List.getElem?_set_ne (Ne.symm hj)] at e2
    obtain ⟨u',r',q⟩:=hl j y v' e1 e2 e3;refine ⟨u',r',?_⟩;rcases q with q|⟨k,c',e,z'⟩
    ·exact .inl q
    ·refine .inr ⟨k,c',e,z'.sameBut hs ?_⟩
     rintro rfl
     exact hj (oN hN e1 (I.ok.inj _ _ _ e hc▸hi))
  ·by_cases hcc:c'=c
   ·subst hcc;exact ⟨_,hc'⟩
   ·obtain ⟨w2,z2⟩:=I.cell y c' e
    exact ⟨w2,z2.sameBut hs hcc⟩
  ·obtain ⟨e,n,ne,nf,d⟩:=I.pin p hp
   refine ⟨(hs.2 p.1 ?_).trans e,n,ne,nf,d⟩;intro q;rw [q,hoc] at e;have q':oc=p.2:=Option.some.inj e;exact d w' (by rw [<- q'];exact hocd)
theorem jl{M:Model}{A:Around}{E:Value->Shared->Prop}{i:Nat}{x:Str}{v:V}{u:Value}{Q:Unit->Shared->Prop}(I:Inv X pins σ H s)(hN:X.N.Nodup)(hi:X.N[i]?=some x)(hx:wj X.env.scope x)(r:RelV v u)
  (h:∀s',Inv X pins (σ.set i (some v)) H s'->Q () s') (hf:X.fn x=true\/X.env.scope.names.lookup x=some .local:=by first|exact .inl rfl|exact .inr rfl|assumption):wpAny M A (storeName X.env x u) Q E s:=
 kS I hN hi hx r (fun s' I' _=>h s' I') hf
theorem Inv.call'{s':Shared}{ch:List Addr}(I:Inv X pins σ H s)(ho:s'.os=s.os)(u:Un (eU X.stack) ch H H' s.heap s'.heap)(hok:HOk X.prog X.w H' s'.heap)(hg:AllBare s'.gens)
  (hch:∀b∈ch,(b∈X.ex\/X.s₀.heap.objs.size<=b)/\b≠X.env.locals/\(∀x c,X.env.cells.lookup x=some c->c≠b)/\∀p∈X.pn++pins,p.1≠b):Inv X pins σ H' s':=by
 obtain ⟨h',g',d',t',o'⟩:=s';have e:o'=s.os:=ho;subst e;exact I.call (g':=g') (t':=t') (d':=d') u hok hg hch
end
abbrev XK:=Value->Option Addr->Hp->Prop
abbrev St:=List (Option V)
abbrev VK:=V->Hp->Prop
abbrev TE:=St->Hp->VK->Prop
abbrev TT:=St->Hp->(Bool->Hp->Prop)->Prop
abbrev TA:=St->Hp->(List V->Hp->Prop)->Prop
structure Ends where
 nx:St->Hp->Prop
 rt:VK
 bk:St->Hp->Prop:=fun _ _=>False
 ct:St->Hp->Prop:=fun _ _=>False
abbrev TS:=Ends->St->Hp->Prop
inductive EP(X:Cx)(pins:List (Addr×Obj))(σ:St)(Q:VK)(u:Value)(s':Shared):Prop
 |mk (v:V) (H':Hp) (h0:Inv X pins σ H' s') (h1:RelV v u) (h2:Q v H'):EP X pins σ Q u s'
inductive TP(X:Cx)(pins:List (Addr×Obj))(σ:St)(Q:Bool->Hp->Prop)(b:Bool)(s':Shared):Prop
 |mk (H':Hp) (h0:Inv X pins σ H' s') (h1:Q b H'):TP X pins σ Q b s'
inductive AP(X:Cx)(pins:List (Addr×Obj))(σ:St)(Q:List V->Hp->Prop)(us:List Value)(s':Shared):Prop
 |mk (vs:List V) (H':Hp) (h0:Inv X pins σ H' s') (h1:Vals vs us) (h2:Q vs H'):AP X pins σ Q us s'
def SP(X:Cx)(pins:List (Addr×Obj))(D:Ends)(f:Flow)(s':Shared):Prop:=
 match f with
 |.next=>∃σ' H',Inv X pins σ' H' s'/\D.nx σ' H'
 |.brk=>∃σ' H',Inv X pins σ' H' s'/\D.bk σ' H'
 |.cont=>∃σ' H',Inv X pins σ' H' s'/\D.ct σ' H'
 |.ret u=>∃v σ' H',Inv X pins σ' H' s'/\RelV v u/\D.rt v H'
def PE(X:Cx)(e:Expr)(t:TE):Prop:=
 ∀(pins:List (Addr×Obj)) (s:Shared) (σ:St) (H:Hp) (Q:VK),Inv X pins σ H s->t σ H Q->wpAny (model X.prog X.w) X.A (eval e X.env) (EP X pins σ Q) X.xe s
def PT(X:Cx)(e:Expr)(t:TT):Prop:=
 ∀(pins:List (Addr×Obj)) (s:Shared) (σ:St) (H:Hp) (Q:Bool->Hp->Prop),Inv X pins σ H s->t σ H Q->wpAny (model X.prog X.w) X.A (isTrue e X.env (eval e X.env)) (TP X pins σ Q) X.xe s
def PW(X:Cx)(e:Expr)(t:TT):Prop:=
 ∀(whole:Sem Value) (pins:List (Addr×Obj)) (s:Shared) (σ:St) (H:Hp) (Q:Bool->Hp->Prop),Inv X pins σ H s->t σ H Q->wpAny (model X.prog X.w) X.A (isTrue e X.env whole) (TP X pins σ Q) X.xe s
theorem Iq{X:Cx}{e:Expr}{t:TT}(h:PW X e t):PT X e t:=h _
def PA(X:Cx)(es:List Expr)(t:TA):Prop:=
 ∀(pos:Pos) (pins:List (Addr×Obj)) (s:Shared) (σ:St) (H:Hp) (Q:List V->Hp->Prop),Inv X pins σ H s->t σ H Q->wpAny (model X.prog X.w) X.A (spliced (backTo pos (starEach es X.env))) (AP X pins σ Q) X.xe s
def PS(X:Cx)(st:Stmt)(t:TS):Prop:=
 ∀(pins:List (Addr×Obj)) (s:Shared) (σ:St) (H:Hp) (D:Ends),Inv X pins σ H s->t D σ H->wpAny (model X.prog X.w) X.A (exec st X.env) (SP X pins D) X.xe s
def sg(X:Cx)(st:List Stmt)(t:TS):Prop:=
 ∀(pins:List (Addr×Obj)) (s:Shared) (σ:St) (H:Hp) (D:Ends),Inv X pins σ H s->t D σ H->wpAny (model X.prog X.w) X.A (execs st X.env) (SP X pins D) X.xe s
theorem a_{α:Type}{t:Sem α}{Q Q':α->Shared->Prop}{M:Model}{A:Around}{E:Value->Shared->Prop}{s:Shared}(h:wpAny M A t Q E s)(hQ:∀a s,Q a s->Q' a s):wpAny M A t Q' E s:=wpAny_mono h hQ fun _ _ x=>x
end L2
namespace L2
open PySem PySem.Spec PyProof.Rows
section
variable {X:Cx}
def tVar(i:Nat):TE:=fun σ H Q=>∃v,σ[i]?=some (some v)/\Q v H
def tC(v:V):TE:=fun _ H Q=>Q v H
theorem EV{i:Nat}{x:Str}{pos:Pos}(hN:X.N[i]?=some x)(hv:CQ X.env.scope x)(hd:(x==("__debug__":Str))=false:=by decide)(hcd:(x==("__classdict__":Str))=false:=by decide):PE X (.Name x pos) (tVar i):=by
 intro pins s σ H Q I h;obtain ⟨v,e,h⟩:=h;obtain ⟨m,hn,hl⟩:=I.loc;obtain ⟨u,r,l⟩:=hl i x v hN e hv;have fin:EP X pins σ Q u s:=⟨v,H,I,r,h⟩;rcases l with ⟨hk,hm⟩|⟨hk,c,hc,hcell⟩
 ·exact wpAny_Name (wpAny_loadName_local I.ok.kind hk hn hm fin) hd
 ·rcases hk with hk|hk
  ·exact wpAny_Name (wpAny_loadName_cell I.ok.kind hk hc hcell fin) hd
  ·exact wpAny_Name (wpAny_loadName_free I.ok.kind hk hc hcell fin hcd) hd
theorem DJ{i j pos}:PE X (.Constant (.int i) j pos) (tC (.int i)):=fun _ _ _ H _ I h=>wpAny_Constant_int ⟨.int i,H,I.tok _,⟨_,rfl⟩,h⟩
theorem GT{b j pos}:PE X (.Constant (.bool b) j pos) (tC (.bl b)):=fun _ _ _ H _ I h=>Constant_bool ⟨.bl b,H,I,rfl,h⟩
theorem Dk{j pos}:PE X (.Constant .none j pos) (tC .non):=fun _ _ _ H _ I h=>Constant_none ⟨.non,H,I,rfl,h⟩
theorem wX{x j pos}:PE X (.Constant (.str x) j pos) (tC (.str x)):=fun _ _ _ H _ I h=>Calls.Constant_str ⟨.str x,H,I.tok _,⟨_,rfl⟩,h⟩
def Gl(X:Cx)(x:Str):Prop:=X.env.kindOf x=some .globalImplicit
theorem fJ{E:Value->Shared->Prop}{pins:List (Addr×Obj)}{s:Shared}{σ:St}{H:Hp}{x:Str}{u:Value}{pos:Pos}{Q:Value->Shared->Prop}(I:Inv X pins σ H s)(hg:Gl X x)(hm:X.mg x=some u)(h:Q u s)
  (hd:(x==("__debug__":Str))=false:=by decide):wpAny (model X.prog X.w) X.A (eval (.Name x pos) X.env) Q E s:=
 Calls.Name_function_global I.ok.kind hg (Calls.loadGlobal_global (by rw [I.ok.glob];exact I.mod.glob.keeps I.bk) hm h) hd
theorem cA{E:Value->Shared->Prop}{pins:List (Addr×Obj)}{s:Shared}{σ:St}{H:Hp}{x:Str}{u:Value}{pos:Pos}{Q:Value->Shared->Prop}(I:Inv X pins σ H s)(hg:Gl X x)(hm:X.mg x=none)(hv:bootBuiltins x=some u)(h:Q u s)
  (hn:x≠"__name__":=by decide) (hd:(x==("__debug__":Str))=false:=by decide):wpAny (model X.prog X.w) X.A (eval (.Name x pos) X.env) Q E s:=by
 obtain ⟨mb,h1,h2⟩:=I.mod.blt;exact Calls.Name_function_global I.ok.kind hg (Calls.loadGlobal_builtin (by rw [I.ok.glob];exact I.mod.glob.keeps I.bk) hm (by rw [I.ok.blt];exact h1.keeps I.bk) ((h2 x hn).trans hv) h) hd
theorem BH{x:Str}{v:V}{u:Value}{pos:Pos}(hg:Gl X x)(hm:X.mg x=none)(hv:bootBuiltins x=some u)(r:RelV v u)(hn:x≠"__name__":=by decide)(hd:(x==("__debug__":Str))=false:=by decide):PE X (.Name x pos) (tC v):=
 fun _ _ _ H _ I h=>cA I hg hm hv ⟨v,H,I,r,h⟩ hn hd
variable {a b:Expr}{ta tb:TE}{pos:Pos}
variable {tA tB':TT}{rest:List Expr}
def tAnd(t u:TT):TT:=fun σ H Q=>t σ H fun c H1=>if c=true then u σ H1 Q else Q false H1
def tOr(t u:TT):TT:=fun σ H Q=>t σ H fun c H1=>if c=true then Q true H1 else u σ H1 Q
def tNot(t:TT):TT:=fun σ H Q=>t σ H fun c H1=>Q (!c) H1
theorem Bz(ha:PT X a tA):PW X (.BoolOp .And [a] pos) tA:=by
 intro wh pins s σ H Q I h;refine isTrue_and (a_ (ha pins s σ H Q I h) fun c s1 e=>?_);cases c with
 |true=>exact isTrue_and_nil e
 |false=>exact e
theorem Ea(ha:PT X a tA):PW X (.BoolOp .Or [a] pos) tA:=by
 intro wh pins s σ H Q I h;refine isTrue_or (a_ (ha pins s σ H Q I h) fun c s1 e=>?_);cases c with
 |false=>exact isTrue_or_nil e
 |true=>exact e
theorem CV(ha:PT X a tA)(hb:PW X (.BoolOp .And (b::rest) pos) tB'):PW X (.BoolOp .And (a::b::rest) pos) (tAnd tA tB'):=by
 intro wh pins s σ H Q I h;refine isTrue_and (a_ (ha pins s σ H _ I h) fun c s1 ⟨H1,I1,q1⟩=>?_);cases c with
 |true=>exact hb wh pins s1 σ H1 Q I1 q1
 |false=>exact ⟨H1,I1,q1⟩
theorem Hv(ha:PT X a tA)(hb:PW X (.BoolOp .Or (b::rest) pos) tB'):PW X (.BoolOp .Or (a::b::rest) pos) (tOr tA tB'):=by
 intro wh pins s σ H Q I h;refine isTrue_or (a_ (ha pins s σ H _ I h) fun c s1 ⟨H1,I1,q1⟩=>?_);cases c with
 |true=>exact ⟨H1,I1,q1⟩
 |false=>exact hb wh pins s1 σ H1 Q I1 q1
theorem DH(ha:PT X a tA):PT X (.UnaryOp .Not a pos) (tNot tA):=by
 intro pins s σ H Q I h;exact isTrue_not (wpAny_mono (ha pins s σ H (fun c H1=>Q (!c) H1) I h) (fun c s' z=>by cases z with|mk a b d=>exact ⟨a,b,d⟩) fun _ _ e=>e)
def Hz(ta tb:TE):TE:=fun σ H Q=>ta σ H fun x H1=>∃c,x=.bl c/\if c=true then tb σ H1 Q else Q (.bl false) H1
def HE(ta:TE):TE:=fun σ H Q=>ta σ H fun x H1=>∃c,x=.bl c/\Q (.bl (!c)) H1
theorem FF{op}{t:TE}(h:PE X a t):PE X (.BoolOp op [a] pos) t:=fun pins s σ H Q I hw=>BoolOp_one (h pins s σ H Q I hw)
theorem D_(ha:PE X a ta)(hb:PE X (.BoolOp .And (b::rest) pos) tb):PE X (.BoolOp .And (a::b::rest) pos) (Hz ta tb):=by
 intro pins s σ H Q I h;refine BoolOp_and (a_ (ha pins s σ H _ I h) fun v s1 ⟨x,H1,I1,r1,q1⟩=>?_);obtain ⟨c,rfl,q1⟩:=q1;cases r1;refine wpAny_truthy_bool ?_;cases c with
 |true=>exact hb pins s1 σ H1 Q I1 q1
 |false=>exact ⟨.bl false,H1,I1,rfl,q1⟩
theorem Dt(ha:PE X a ta):PE X (.UnaryOp .Not a pos) (HE ta):=by
 intro pins s σ H Q I h;refine UnaryOp_ (a_ (ha pins s σ H _ I h) fun v s1 ⟨x,H1,I1,r1,q1⟩=>?_);obtain ⟨c,rfl,q1⟩:=q1;cases r1;exact not_of (wpAny_truthy_bool ⟨.bl (!c),H1,I1,rfl,q1⟩)
def tIf(t:TT)(ta tb:TE):TE:=fun σ H Q=>t σ H fun c H1=>if c=true then ta σ H1 Q else tb σ H1 Q
theorem xW{c:Expr}(hc:PT X c tA)(ha:PE X a ta)(hb:PE X b tb):PE X (.IfExp c a b pos) (tIf tA ta tb):=by
 intro pins s σ H Q I h;refine wpAny_IfExp (a_ (hc pins s σ H _ I h) fun d s1 ⟨H1,I1,q1⟩=>?_);cases d with
 |true=>exact ha pins s1 σ H1 Q I1 q1
 |false=>exact hb pins s1 σ H1 Q I1 q1
end
end L2
namespace L2
open PySem PySem.Spec PyProof.Rows
def SqL(K:W.Frag)(H:Hp)(a:Addr)(xs:List V):Prop:=
 Rd H a (.lst xs)\/
  ∃(o:Obj) (its:Array Value) (n:Nat),K.lookup a=some o/\o.cls=.type "list"/\o.dict=none/\o.data=.seq its n/\its.size<=sizeLine/\Vals xs its.toList
def fE(K:W.Frag)(H:Hp)(a:Addr)(xs:List V):Prop:=
 Rd H a (.tup xs)\/
  ∃(o:Obj) (its:Array Value) (n:Nat),K.lookup a=some o/\o.cls=.type "tuple"/\o.data=.seq its n/\its.size<=sizeLine/\Vals xs its.toList
def absV:Value->Option V
 |.none=>some .non
 |.bool b=>some (.bl b)
 |.int i _=>some (.int i)
 |.str x _=>some (.str x)
 |.bytes b _=>some (.byt b)
 |.float b _=>some (.flt b)
 |.ref a=>some (.ref a)
 |.type n=>some (.ty n)
 |_=>none
theorem RelV.abs{x:V}{u:Value}(r:RelV x u):absV u=some x:=by
 cases x with
 |non=>cases r;rfl
 |bl _=>cases r;rfl
 |int _=>obtain ⟨t,rfl⟩:=r;rfl
 |str _=>obtain ⟨t,rfl⟩:=r;rfl
 |byt _=>obtain ⟨t,rfl⟩:=r;rfl
 |flt _=>obtain ⟨t,rfl⟩:=r;rfl
 |ref _=>cases r;rfl
 |ty _=>cases r;rfl
theorem RelV.inj{x y:V}{u:Value}(r:RelV x u)(q:RelV y u):x=y:=Option.some.inj (r.abs.symm.trans q.abs)
theorem Vals.inj:∀{xs ys:List V} {us:List Value},Vals xs us->Vals ys us->xs=ys
 |_,_,_,.nil,.nil=>rfl
 |_,_,_,.cons r t,.cons r' t'=>by rw [r.inj r',Vals.inj t t']
section
variable {X:Cx}{pins:List (Addr×Obj)}{σ:St}{H:Hp}{s:Shared}{a:Addr}{xs ys:List V}
theorem SqL.of{K:W.Frag}(h:H a=some (.lst xs)):SqL K H a xs:=.inl (.inl h)
theorem Inv.list(I:Inv X pins σ H s)(h:SqL X.K H a xs):∃its:List Value,Vals xs its/\PlainL s.heap a its.toArray/\xs.length<=sizeLine:=by
 rcases h with h|⟨o,its,n,hk,hc,hd,hs,hz,r⟩
 ·obtain ⟨z,its,n,r,e⟩:=h.ok I.hok
  exact ⟨its,r,⟨_,n,e,rfl,rfl,rfl⟩,z⟩
 ·refine ⟨its.toList,r,⟨o,n,I.kIn a o hk,hc,hd,by simpa using hs⟩,?_⟩
  have e:=r.length;simp only [Array.length_toList] at e;lia
theorem Inv.tuple(I:Inv X pins σ H s)(h:fE X.K H a xs):∃its:List Value,Vals xs its/\IsTup s.heap a its.toArray/\xs.length<=sizeLine:=by
 rcases h with h|⟨o,its,n,hk,hc,hs,hz,r⟩
 ·obtain ⟨z,its,r,ob,e,c,_⟩:=h.ok I.hok
  exact ⟨its,r,⟨ob,e,c⟩,z⟩
 ·refine ⟨its.toList,r,⟨o,I.kIn a o hk,hc,n,by simpa using hs⟩,?_⟩
  have e:=r.length;simp only [Array.length_toList] at e;lia
theorem Inv.list_inj(I:Inv X pins σ H s)(h:SqL X.K H a xs)(h':SqL X.K H a ys):xs=ys:=by
 obtain ⟨its,r,⟨o,n,e,_,_,d⟩,_⟩:=I.list h;obtain ⟨its',r',⟨o',n',e',_,_,d'⟩,_⟩:=I.list h';rw [e] at e';cases e';rw [d] at d'
 injection d' with d1 _
 have:its=its':=by simpa using congrArg Array.toList d1
 subst this;exact r.inj r'
theorem Inv.tuple_inj(I:Inv X pins σ H s)(h:fE X.K H a xs)(h':fE X.K H a ys):xs=ys:=by
 obtain ⟨its,r,⟨o,e,_,n,d⟩,_⟩:=I.tuple h;obtain ⟨its',r',⟨o',e',_,n',d'⟩,_⟩:=I.tuple h';rw [e] at e';cases e';rw [d] at d'
 injection d' with d1 _
 have:its=its':=by simpa using congrArg Array.toList d1
 subst this;exact r.inj r'
end
abbrev Cx.wish(X:Cx)(E:Value->Shared->Prop):Cx:={ X with xe:=E }
abbrev Cx.nox(X:Cx):Cx:=X.wish fun _ _=>False
theorem Cx.Ok.wish{X:Cx}(ok:X.Ok)(E:Value->Shared->Prop):(X.wish E).Ok:=
 ⟨ok.mod,ok.kind,ok.glob,ok.blt,ok.above,ok.inj,ok.has,ok.cab,ok.hd,ok.frames,ok.stk,ok.exf,ok.bs,ok.bsz,ok.noex,ok.exfs,ok.funs,ok.frf⟩
theorem Cx.Ok.unwish{X:Cx}{E:Value->Shared->Prop}(ok:(X.wish E).Ok):X.Ok:=
 ⟨ok.mod,ok.kind,ok.glob,ok.blt,ok.above,ok.inj,ok.has,ok.cab,ok.hd,ok.frames,ok.stk,ok.exf,ok.bs,ok.bsz,ok.noex,ok.exfs,ok.funs,ok.frf⟩
section
variable {X:Cx}{pins:List (Addr×Obj)}{σ:St}{H:Hp}{s:Shared}{E:Value->Shared->Prop}
theorem Inv.wish(I:Inv X pins σ H s)(E:Value->Shared->Prop):Inv (X.wish E) pins σ H s:=⟨I.ok.wish E,I.os,I.bare,I.base,I.loc,I.cell,I.free,I.freeC,I.pin,I.hok,I.len⟩
theorem Inv.unwish(I:Inv (X.wish E) pins σ H s):Inv X pins σ H s:=⟨I.ok.unwish,I.os,I.bare,I.base,I.loc,I.cell,I.free,I.freeC,I.pin,I.hok,I.len⟩
end
section
variable {X:Cx}{st:Stmt}{rest:List Stmt}{t u:TS}{e:Expr}{te:TE}{pos:Pos}
def HV:TS:=fun D σ H=>D.nx σ H
def tSeq(t u:TS):TS:=fun D σ H=>t { D with nx:=u D } σ H
theorem Bm:sg X [] HV:=fun _ _ σ H _ I h=>wpAny_execs_nil ⟨σ,H,I,h⟩
theorem xp(h1:PS X st t)(h2:sg X rest u):sg X (st::rest) (tSeq t u):=by
 intro pins s σ H D I h;refine wpAny_execs_cons (a_ (h1 pins s σ H { D with nx:=u D } I h) fun f s1 q=>?_);cases f with
 |next=>
  obtain ⟨σ',H',I',q⟩:=q;exact h2 pins s1 σ' H' D I' q
 |ret v=>exact q
 |brk=>exact q
 |cont=>exact q
theorem Bq(h1:PS X st t):sg X [st] t:=by
 intro pins s σ H D I h;refine wpAny_execs_cons (a_ (h1 pins s σ H D I h) fun f s1 q=>?_);cases f with
 |next=>exact wpAny_execs_nil q
 |ret v=>exact q
 |brk=>exact q
 |cont=>exact q
theorem Inv.quiet{pins:List (Addr×Obj)}{σ:St}{H:Hp}{s:Shared}(I:Inv X pins σ H s):interactive X.env=false:=by simp [interactive,I.ok.kind]
def Gq(te:TE):TS:=fun D σ H=>te σ H fun _ H1=>D.nx σ H1
theorem AE(he:PE X e te)(hs:swapsWith e none pos.line X.env=pure false:=by rfl):PS X (.Expr e pos) (Gq te):=by
 intro pins s σ H D I h;exact wpAny_Expr_any (a_ (he pins s σ H _ I h) fun v s1 ⟨x,H1,I1,r1,q1⟩=>⟨σ,H1,I1,q1⟩) I.quiet hs
def tRet(te:TE):TS:=fun D σ H=>te σ H D.rt
theorem CU(he:PE X e te):PS X (.Return (some e) pos) (tRet te):=by
 intro pins s σ H D I h;exact wpAny_Return_some (a_ (he pins s σ H _ I h) fun v s1 ⟨x,H1,I1,r1,q1⟩=>⟨x,σ,H1,I1,r1,q1⟩)
def tIfS(c:TT)(t u:TS):TS:=fun D σ H=>c σ H fun b H1=>if b=true then t D σ H1 else u D σ H1
theorem GO{c:Expr}{a b:List Stmt}{tc:TT}(hc:PT X c tc)(ha:sg X a t)(hb:sg X b u):PS X (.If c a b pos) (tIfS tc t u):=by
 intro pins s σ H D I h;refine wpAny_If (a_ (hc pins s σ H _ I h) fun d s1 ⟨H1,I1,q1⟩=>?_);cases d with
 |true=>exact ha pins s1 σ H1 D I1 q1
 |false=>exact hb pins s1 σ H1 D I1 q1
end
abbrev TG:=V->St->Hp->(St->Hp->Prop)->Prop
abbrev Cu:=List V->St->Hp->(St->Hp->Prop)->Prop
def PG(X:Cx)(target:Expr)(t:TG):Prop:=
 ∀(pins:List (Addr×Obj)) (s:Shared) (σ:St) (H:Hp) (v:V) (u:Value) (Q:St->Hp->Prop),Inv X pins σ H s->RelV v u->t v σ H Q->
  wpAny (model X.prog X.w) X.A (assign target X.env u) (fun _ s'=>∃σ' H',Inv X pins σ' H' s'/\Q σ' H') X.xe s
def Fj(X:Cx)(ts:List Expr)(t:Cu):Prop:=
 ∀(pins:List (Addr×Obj)) (s:Shared) (σ:St) (H:Hp) (vs:List V) (us:List Value) (Q:St->Hp->Prop),Inv X pins σ H s->Vals vs us->t vs σ H Q->
  wpAny (model X.prog X.w) X.A (assignInOrder ((assignEach ts X.env).map (·.2)) us) (fun _ s'=>∃σ' H',Inv X pins σ' H' s'/\Q σ' H') X.xe s
abbrev zb:=V->V->V->Hp->(Hp->Prop)->Prop
def Ak(X:Cx)(t:zb):Prop:=
 ∀(pins:List (Addr×Obj)) (s:Shared) (σ:St) (H:Hp) (o i v:V) (ov iv u:Value) (Q:Hp->Prop),Inv X pins σ H s->RelV o ov->RelV i iv->RelV v u->t o i v H Q->
  wpAny (model X.prog X.w) X.A (setItem ov iv u) (fun _ s'=>∃H',Inv X pins σ H' s'/\Q H') X.xe s
abbrev FT:=V->V->Hp->VK->Prop
def xG(X:Cx)(op:Operator)(t:FT):Prop:=
 ∀(pins:List (Addr×Obj)) (s:Shared) (σ:St) (H:Hp) (x y:V) (v u:Value) (Q:VK),Inv X pins σ H s->RelV x v->RelV y u->t x y H Q->
  wpAny (model X.prog X.w) X.A (inplaceOp op v u) (EP X pins σ Q) X.xe s
section
variable {X:Cx}{pos:Pos}
def C5(i:Nat):TG:=fun v σ H Q=>Q (σ.set i (some v)) H
theorem AR{i:Nat}{x:Str}(hN:X.N.Nodup)(hi:X.N[i]?=some x)(hx:wj X.env.scope x)(hf:X.fn x=true\/X.env.scope.names.lookup x=some .local:=by first|exact .inl rfl|exact .inr rfl|assumption):PG X (.Name x pos) (C5 i):=by
 intro pins s σ H v u Q I r h;exact wpAny_assign_Name (jl I hN hi hx r (fun s' I'=>⟨_,H,I',h⟩) hf)
def gNil:Cu:=fun vs σ H Q=>vs=[]/\Q σ H
def GS(t:TG)(u:Cu):Cu:=fun vs σ H Q=>∃v r,vs=v::r/\t v σ H fun σ' H'=>u r σ' H' Q
theorem AO:Fj X [] gNil:=by
 intro pins s σ H vs us Q I r h;obtain ⟨e,h⟩:=h;subst e;cases r;exact assignInOrder_nil ⟨σ,H,I,h⟩
theorem yi{e:Expr}{es:List Expr}{t:TG}{u:Cu}(h1:PG X e t)(h2:Fj X es u)
  (hs:(assignEach (e::es) X.env).map (·.2)=assign e X.env::(assignEach es X.env).map (·.2):=by rfl):Fj X (e::es) (GS t u):=by
 intro pins s σ H vs us Q I r h;obtain ⟨v,vr,e1,h⟩:=h;subst e1;cases r with
 |cons r rr=>
  rw [hs];refine assignInOrder_cons (a_ (h1 pins s σ H _ _ _ I r h) fun _ s1 ⟨σ1,H1,I1,q1⟩=>?_);exact h2 pins s1 σ1 H1 _ _ Q I1 rr q1
def gTup(K:W.Frag)(n:Nat)(t:Cu):TG:=fun v σ H Q=>∃a xs,v=.ref a/\fE K H a xs/\xs.length=n/\t xs σ H Q
theorem Di{es:List Expr}{k:Nat}{t:Cu}{n:Nat}(hc:X.calm=true)(h:Fj X es t)
  (hn:(assignEach es X.env).length=n:=by rfl) (hst:(assignEach es X.env).findIdx? (·.1)=none:=by rfl):PG X (.Tuple es k pos) (gTup X.K n t):=by
 intro pins s σ H v u Q I r hw;obtain ⟨a,xs,e1,hq,hl,hw⟩:=hw;subst e1;cases r;obtain ⟨its,rv,ht,hz⟩:=I.tuple hq;refine assign_Tuple_tuple (I.ok.hd hc) ht (by simp [hn,<- hl,rv.length]) hst fun h' hx=>?_
 have I1:Inv X pins σ H { s with heap:=h' }:=I.kept (t':=s.toks) fun b o e=>hx b o (Nat.ne_of_lt (Heap.lt_size e)) e;exact h pins _ σ H xs _ Q I1 (by simpa using rv) hw
def gSub(to ti:TE)(t:zb):TG:=fun v σ H Q=>to σ H fun o H1=>ti σ H1 fun i H2=>t o i v H2 fun H3=>Q σ H3
theorem F0{o i:Expr}{to ti:TE}{t:zb}(ho:PE X o to)(hi:PE X i ti)(hs:Ak X t)
  (ha:∀v,assign (.Subscript o i pos) X.env v=(do
   let ov <- holding [v] (eval o X.env)
   let iv <- holding [v,ov] (eval i X.env)
   standAt pos
   holding [v,ov,iv] (setItem ov iv v)
   release [v,ov,iv] []):=by intro _;rfl):PG X (.Subscript o i pos) (gSub to ti t):=by
 intro pins s σ H v u Q I r h;rw [ha];refine wpAny_bind (wpAny_holding (a_ (ho pins s σ H _ I h) fun ov s1 ⟨x,H1,I1,r1,q1⟩=>?_));refine wpAny_bind (wpAny_holding (a_ (hi pins s1 σ H1 _ I1 q1) fun iv s2 ⟨y,H2,I2,r2,q2⟩=>?_));refine wpAny_bind (wpAny_standAt (wpAny_bind (wpAny_holding (a_ (hs pins s2 σ H2 x y v ov iv u _ I2 r1 r2 r q2) fun _ s3 ⟨H3,I3,q3⟩=>?_))));exact wpAny_release ⟨σ,H3,I3,q3⟩
def I0(te:TE)(g:TG):TS:=fun D σ H=>te σ H fun x H1=>g x σ H1 D.nx
theorem CW{tg e:Expr}{te:TE}{g:TG}(he:PE X e te)(hg:PG X tg g)(hs:swapsWithSole [tg] e pos.line X.env=pure false:=by rfl)(hw:swappedStores [tg] e X.env=pure none:=by rfl)
  (h1:(assignEach [tg] X.env).map (·.2)=[assign tg X.env]:=by rfl):PS X (.Assign [tg] e pos) (I0 te g):=by
 intro pins s σ H D I h;refine wpAny_Assign_stores (a_ (he pins s σ H _ I h) fun v s1 ⟨x,H1,I1,r1,q1⟩=>?_) hs hw;rw [h1];exact a_ (hg pins s1 σ H1 x v _ I1 r1 q1) fun _ s2 q=>q
theorem D1{i:Nat}{x:Str}{e:Expr}{te:TE}{pos':Pos}(hN:X.N.Nodup)(hi:X.N[i]?=some x)(hx:wj X.env.scope x)(he:PE X e te)(hs:swapsWith e (some (.Name x pos')) pos.line X.env=pure false:=by rfl)(hf:X.fn x=true\/X.env.scope.names.lookup x=some .local:=by first|exact .inl rfl|exact .inr rfl|assumption):
  PS X (.Assign [.Name x pos'] e pos) (I0 te (C5 i)):=by
 intro pins s σ H D I h;refine wpAny_Assign_Name (a_ (he pins s σ H _ I h) fun v s1 ⟨y,H1,I1,r1,q1⟩=>?_) hs;exact jl I1 hN hi hx r1 (fun s2 I2=>⟨_,H1,I2,q1⟩) hf
def tAug(i:Nat)(te:TE)(ti:FT):TS:=fun D σ H=>∃x,σ[i]?=some (some x)/\te σ H fun y H1=>ti x y H1 fun z H2=>D.nx (σ.set i (some z)) H2
theorem Fo{i:Nat}{x:Str}{e:Expr}{te:TE}{op:Operator}{ti:FT}{pos':Pos}(hN:X.N.Nodup)(hi:X.N[i]?=some x)(hx:wj X.env.scope x)(he:PE X e te)(ho:xG X op ti)(hf:X.fn x=true\/X.env.scope.names.lookup x=some .local:=by first|exact .inl rfl|exact .inr rfl|assumption):
  PS X (.AugAssign (.Name x pos') op e pos) (tAug i te ti):=by
 intro pins s σ H D I h;obtain ⟨v,e1,h⟩:=h;obtain ⟨m,hn,hl⟩:=I.loc;have vis:CQ X.env.scope x:=by rcases hx with k|k;exact .inl k;exact .inr (.inl k)
 obtain ⟨u,r,l⟩:=hl i x v hi e1 vis;refine wpAny_AugAssign_Name ?_;have go:wpAny (model X.prog X.w) X.A (eval e X.env) (fun w s₂=>wpAny (model X.prog X.w) X.A (inplaceOp op u w) (fun r s₃=>wpAny (model X.prog X.w) X.A (storeName X.env x r) (fun _=>SP X pins D .next) X.xe s₃) X.xe s₂) X.xe s:=by
  refine a_ (he pins s σ H _ I h) fun w s1 ⟨y,H1,I1,r1,q1⟩=>?_;refine a_ (ho pins s1 σ H1 v y u w _ I1 r r1 q1) fun z s2 ⟨zv,H2,I2,r2,q2⟩=>?_;exact jl I2 hN hi hx r2 (fun s3 I3=>⟨_,H2,I3,q2⟩) hf
 rcases l with ⟨hk,hm⟩|⟨hk,c,hc,hcell⟩
 ·exact wpAny_loadName_local I.ok.kind hk hn hm go
 ·rcases hk with hk|hk
  ·exact wpAny_loadName_cell I.ok.kind hk hc hcell go
  ·rcases hx with k|k
   ·have:X.env.scope.names.lookup x=some .free:=hk
    rw [k] at this;cases this
   ·have:X.env.scope.names.lookup x=some .free:=hk
    rw [k] at this;cases this
def Ic(to ti te:TE)(tget:V->V->Hp->VK->Prop)(tip:FT)(tset:zb):TS:=fun D σ H=>to σ H fun o H1=>ti σ H1 fun i H2=>tget o i H2 fun x H3=>te σ H3 fun y H4=>tip x y H4 fun z H5=>tset o i z H5 fun H6=>D.nx σ H6
def HP(X:Cx)(t:V->V->Hp->VK->Prop):Prop:=
 ∀(pins:List (Addr×Obj)) (s:Shared) (σ:St) (H:Hp) (o i:V) (ov iv:Value) (Q:VK),Inv X pins σ H s->RelV o ov->RelV i iv->t o i H Q->
  wpAny (model X.prog X.w) X.A (getItem ov iv) (EP X pins σ Q) X.xe s
theorem zI{o i e:Expr}{to ti te:TE}{tget:V->V->Hp->VK->Prop}{tip:FT}{tset:zb}{op:Operator}{tpos:Pos}(ho:PE X o to)(hi:PE X i ti)(hg:HP X tget)(he:PE X e te)(hp:xG X op tip)(hs:Ak X tset)
  (ha:∀ov iv new,augStore i ov iv new=(do holding [new,ov,iv] (setItem ov iv new);release [new,ov,iv] [];pure .next):=by intros;rfl):PS X (.AugAssign (.Subscript o i tpos) op e pos) (Ic to ti te tget tip tset):=by
 intro pins s σ H D I h;refine wpAny_AugAssign_SubscriptAny (a_ (ho pins s σ H _ I h) fun ov s1 ⟨x1,H1,I1,r1,q1⟩=>?_) ha;refine a_ (hi pins s1 σ H1 _ I1 q1) fun iv s2 ⟨x2,H2,I2,r2,q2⟩=>?_;refine a_ (hg pins s2 σ H2 x1 x2 ov iv _ I2 r1 r2 q2) fun old s3 ⟨x3,H3,I3,r3,q3⟩=>?_;refine a_ (he pins s3 σ H3 _ I3 q3) fun v s4 ⟨x4,H4,I4,r4,q4⟩=>?_;refine a_ (hp pins s4 σ H4 x3 x4 old v _ I4 r3 r4 q4) fun new s5 ⟨x5,H5,I5,r5,q5⟩=>?_;exact a_ (hs pins s5 σ H5 x1 x2 x5 ov iv new _ I5 r1 r2 r5 q5) fun _ s6 ⟨H6,I6,q6⟩=>⟨σ,H6,I6,q6⟩
def ipI(f:Int->Int->Int):FT:=fun x y H Q=>∃i j,x=.int i/\y=.int j/\Q (.int (f i j)) H
theorem E6:xG X .Add (ipI fun i j=>i+j):=by
 intro pins s σ H x y v u Q I r1 r2 h;obtain ⟨i,j,e1,e2,q⟩:=h;subst e1;subst e2;obtain ⟨t,rfl⟩:=r1;obtain ⟨t',rfl⟩:=r2;exact iadd_int ⟨.int _,H,I.tok _,⟨_,rfl⟩,q⟩
theorem FP:xG X .Sub (ipI fun i j=>i-j):=by
 intro pins s σ H x y v u Q I r1 r2 h;obtain ⟨i,j,e1,e2,q⟩:=h;subst e1;subst e2;obtain ⟨t,rfl⟩:=r1;obtain ⟨t',rfl⟩:=r2;exact isub_int ⟨.int _,H,I.tok _,⟨_,rfl⟩,q⟩
end
section
variable {X:Cx}{pos:Pos}
def Dw(c:TT)(tb:TS):TS:=fun D σ H=>∃W:Nat->St->Hp->Prop,(∃m,W m σ H)/\∀m σ H,W m σ H->
 c σ H fun b H1=>if b=true then ∃N:St->Hp->Prop,(∀σ' H',N σ' H'->∃m',m'<m/\W m' σ' H')/\tb { D with nx:=N,ct:=N,bk:=D.nx } σ H1 else D.nx σ H1
theorem xl{c:Expr}{body:List Stmt}{tc:TT}{tb:TS}(hp:PassesOwn (model X.prog X.w) X.A X.env X.xe)(hc:PT X c tc)(hb:sg X body tb):PS X (.While c body [] pos) (Dw tc tb):=by
 intro pins s σ H D I h;obtain ⟨W,⟨m0,w0⟩,turn⟩:=h;refine wpAny_While (codeAny_whileLoop (fun n s'=>∃σ' H',Inv X pins σ' H' s'/\W n σ' H') ?_ m0 ⟨σ,H,I,w0⟩)
 rintro n s1 ⟨σ1,H1,I1,w1⟩
 refine wpAny_passesOwn hp (a_ (hc pins s1 σ1 H1 _ I1 (turn n σ1 H1 w1)) fun b s2 ⟨H2,I2,q2⟩=>?_);cases b with
 |true=>
  obtain ⟨N,hN,q2⟩:=q2;rw [if_pos rfl];refine wpAny_passesOwn hp (a_ (hb pins s2 σ1 H2 _ I2 q2) fun f s3 q3=>?_);cases f with
  |next=>
   obtain ⟨σ3,H3,I3,n3⟩:=q3;obtain ⟨m',hm,w3⟩:=hN σ3 H3 n3;exact ⟨m',hm,σ3,H3,I3,w3⟩
  |cont=>
   obtain ⟨σ3,H3,I3,n3⟩:=q3;obtain ⟨m',hm,w3⟩:=hN σ3 H3 n3;exact ⟨m',hm,σ3,H3,I3,w3⟩
  |brk=>exact q3
  |ret v=>exact q3
 |false=>
  rw [if_neg Bool.false_ne_true];exact wpAny_execs_nil ⟨σ1,H2,I2,q2⟩
end
structure It where
 go:Nat->Hp->Prop
 yld:Nat->Hp->V->Hp->Prop
 stop:Nat->Hp->Prop
def dE(X:Cx)(pins:List (Addr×Obj))(H:Hp)(b:Addr):Prop:=
 H b=none/\b≠X.env.locals/\b∉X.fs/\(b∈X.ex\/X.s₀.heap.objs.size<=b)/\(∀x c,X.env.cells.lookup x=some c->c≠b)/\∀p∈X.pn++pins,p.1≠b
theorem Inv.fpOk{X:Cx}{pins:List (Addr×Obj)}{σ:St}{H H':Hp}{s:Shared}{b:Addr}(I:Inv X pins σ H s)(hb:s.heap.objs.size<=b)(hn:H' b=none):dE X pins H' b:=by
 refine ⟨hn,Nat.ne_of_gt (Nat.lt_of_lt_of_le I.lt hb),I.nofs hb,.inr (Nat.le_trans I.sz hb),fun x c e z=>?_,fun p hp z=>?_⟩
 ·obtain ⟨v,q⟩:=I.cell x c e
  exact absurd (Nat.lt_of_lt_of_le q.lt (by rw [z];exact hb)) (Nat.lt_irrefl _)
 ·exact absurd (Nat.lt_of_lt_of_le (Heap.lt_size (I.pin p hp).1) (by rw [z];exact hb)) (Nat.lt_irrefl _)
structure Turn(P:Program)(w:World)(K:W.Frag)(tg:Expr)(J:It)(fp:List Addr)(it:Addr)(tn:Nat->Heap->Prop):Prop where
 mem:it∈fp
 obj:∀i h,tn i h->∀b∈fp,∃o,h.get? b=some o/\∀v,o.data≠.cell v
 keep:∀i h h',tn i h->(∀b∈fp,∀o,h.get? b=some o->h'.get? b=some o)->tn i h'
 item:∀(X:Cx),X.prog=P->X.w=w->X.K=K->X.calm=true->∀(i:Nat) (pins:List (Addr×Obj)) (s:Shared) (σ:St) (H:Hp) (E:Value->Shared->Prop),Inv X pins σ H s->(∀b∈fp,dE X pins H b)->tn i s.heap->J.go i H->
  wpAny (model P w) X.A (pyNext (.ref it)) (fun r s1=>∃u,r=some u/\
   wpAny (model P w) X.A (letOwnedTupleGo tg (.ref it) u) (fun _ s2=>∃x H',Inv X pins σ H' s2/\RelV x u/\J.yld i H x H'/\tn (i+1) s2.heap/\∀b∈fp,H' b=none) E s1) E s
 done:∀(X:Cx),X.prog=P->X.w=w->X.K=K->X.calm=true->∀(i:Nat) (pins:List (Addr×Obj)) (s:Shared) (σ:St) (H:Hp) (E:Value->Shared->Prop),Inv X pins σ H s->(∀b∈fp,dE X pins H b)->tn i s.heap->J.stop i H->
  wpAny (model P w) X.A (pyNext (.ref it)) (fun r s1=>r=none/\Inv X pins σ H s1) E s
 self:∀(A:Around) (i:Nat) (s:Shared) (Q:Value->Shared->Prop) (E:Value->Shared->Prop),tn i s.heap->Q (.ref it) s->wpAny (model P w) A (pyIter (.ref it)) Q E s
abbrev TI:=St->Hp->(It->Hp->Prop)->Prop
def PIE(X:Cx)(pins:List (Addr×Obj))(σ:St)(tg:Expr)(R:It->Hp->Prop)(itv:Value)(s2:Shared):Prop:=
 ∃(it:Addr) (fp:List Addr) (tn:Nat->Heap->Prop) (J:It) (H':Hp),itv=.ref it/\Inv X pins σ H' s2/\Turn X.prog X.w X.K tg J fp it tn/\tn 0 s2.heap/\(∀b∈fp,dE X pins H' b)/\R J H'
def PI(X:Cx)(tg iter:Expr)(wi:TI):Prop:=
 ∀(pins:List (Addr×Obj)) (s:Shared) (σ:St) (H:Hp) (R:It->Hp->Prop),Inv X pins σ H s->wi σ H R->
  wpAny (model X.prog X.w) X.A (eval iter X.env) (fun v s1=>wpAny (model X.prog X.w) X.A (pyIter v) (PIE X pins σ tg R) X.xe s1) X.xe s
theorem sS{M:Model}{A:Around}{E:Value->Shared->Prop}{s:Shared}{tg:Expr}{it:Addr}{u:Value}{o:Obj}{n:String}{vs:Array Value}{Q:Unit->Shared->Prop}(ho:s.heap.get? it=some o)(hc:o.cls=.type n)(hd:o.data=.fields vs)
  (hn:["enumerate","zip","dict_itemiterator","dict_reverseitemiterator","odict_iterator","itertools.zip_longest","itertools.pairwise"].contains n=false) (hQ:Q () s):wpAny M A (letOwnedTupleGo tg (.ref it) u) Q E s:=by
 unfold letOwnedTupleGo
 cases tg<;>first
  |exact wpAny_pure hQ
  |(cases u<;>first
    |exact wpAny_pure hQ
    |(refine wpAny_bind (wpAny_load ho ?_)
      rw [hc,hd];show wpAny M A (if (["enumerate","zip","dict_itemiterator","dict_reverseitemiterator","odict_iterator","itertools.zip_longest","itertools.pairwise"].contains n&&vs[0]?==some (rawInt _))=true then _ else _) Q E s
      rw [if_neg (by intro h;rw [hn,Bool.false_and] at h;cases h)]
      exact wpAny_pure hQ))
def Itl(K:W.Frag)(a:Addr):It:=
 ⟨fun i H=>∃xs x,SqL K H a xs/\xs[i]?=some x,fun i H x H'=>H'=H/\∀xs,SqL K H a xs->xs[i]?=some x,fun i H=>∃xs,SqL K H a xs/\xs.length<=i⟩
def Itt(K:W.Frag)(a:Addr):It:=
 ⟨fun i H=>∃xs x,fE K H a xs/\xs[i]?=some x,fun i H x H'=>H'=H/\∀xs,fE K H a xs->xs[i]?=some x,fun i H=>∃xs,fE K H a xs/\xs.length<=i⟩
def Itr(lo:Int)(n:Nat):It:=⟨fun i _=>i<n,fun i H x H'=>H'=H/\x=.int (lo+i),fun i _=>n<=i⟩
theorem vd{P:Program}{w:World}{K:W.Frag}{tg:Expr}(a it:Addr):Turn P w K tg (Itl K a) [it] it (fun i h=>h.IsListIter it a i) where
 mem:=by simp
 obj:=fun i h st b hb=>by
  have e:b=it:=by simpa using hb
  subst e;obtain ⟨o,e,c,d⟩:=st;exact ⟨o,e,fun v z=>by rw [d] at z;cases z⟩
 keep:=fun i h h' st k=>st.at fun o e=>k it (by simp) o e
 item:=by
  intro X hP hw hK hc i pins s σ H E I hf st hg;subst hP hw hK;obtain ⟨xs,x,hq,hx⟩:=hg;obtain ⟨its,rv,p,hz⟩:=I.list hq;obtain ⟨u,hu,ru⟩:=rv.get hx;obtain ⟨f0,f1,f2,f3,f4,f5⟩:=hf it (by simp)
  refine wpAny_pyNext_list_item st p.isList (x:=u) (by simpa using hu) fun h' st' sb=>?_
  have I1:Inv X pins σ H { s with heap:=h' }:=I.turned (t':=s.toks) (fun b o hb e=>(sb.2 b hb).trans e) f0 f1 f3 f4 f5;obtain ⟨o,e,c,d⟩:=id st';exact ⟨u,rfl,sS (s:={ s with heap:=h' }) e c d (by decide) ⟨x,H,I1,ru,⟨rfl,fun ys hy=>by rw [I.list_inj hy hq];exact hx⟩,st',fun b hb=>(hf b hb).1⟩⟩
 done:=by
  intro X hP hw hK hc i pins s σ H E I hf st hg;subst hP hw hK;obtain ⟨xs,hq,hx⟩:=hg;obtain ⟨its,rv,p,hz⟩:=I.list hq;obtain ⟨f0,f1,f2,f3,f4,f5⟩:=hf it (by simp)
  have hl:=rv.length;exact wpAny_pyNext_list_end (I.ok.hd hc) st p.isList (by simp;lia) fun h' eb=>⟨rfl,I.turned (t':=s.toks) (fun b o hb e=>eb b o hb e) f0 f1 f3 f4 f5⟩
 self:=fun _ _ _ _ _ st h=>wpAny_pyIter_listiter st h
theorem ql{P:Program}{w:World}{K:W.Frag}{tg:Expr}(a it:Addr):Turn P w K tg (Itt K a) [it] it (fun i h=>h.IsTupleIter it a i) where
 mem:=by simp
 obj:=fun i h st b hb=>by
  have e:b=it:=by simpa using hb
  subst e;obtain ⟨o,e,c,d⟩:=st;exact ⟨o,e,fun v z=>by rw [d] at z;cases z⟩
 keep:=fun i h h' st k=>st.at fun o e=>k it (by simp) o e
 item:=by
  intro X hP hw hK hc i pins s σ H E I hf st hg;subst hP hw hK;obtain ⟨xs,x,hq,hx⟩:=hg;obtain ⟨its,rv,p,hz⟩:=I.tuple hq;obtain ⟨u,hu,ru⟩:=rv.get hx;obtain ⟨f0,f1,f2,f3,f4,f5⟩:=hf it (by simp)
  refine wpAny_pyNext_tuple_item st (show s.heap.IsTuple a its.toArray from p) (x:=u) (by simpa using hu) fun h' st' sb=>?_
  have I1:Inv X pins σ H { s with heap:=h' }:=I.turned (t':=s.toks) (fun b o hb e=>(sb.2 b hb).trans e) f0 f1 f3 f4 f5;obtain ⟨o,e,c,d⟩:=id st';exact ⟨u,rfl,sS (s:={ s with heap:=h' }) e c d (by decide) ⟨x,H,I1,ru,⟨rfl,fun ys hy=>by rw [I.tuple_inj hy hq];exact hx⟩,st',fun b hb=>(hf b hb).1⟩⟩
 done:=by
  intro X hP hw hK hc i pins s σ H E I hf st hg;subst hP hw hK;obtain ⟨xs,hq,hx⟩:=hg;obtain ⟨its,rv,p,hz⟩:=I.tuple hq;obtain ⟨f0,f1,f2,f3,f4,f5⟩:=hf it (by simp)
  have hl:=rv.length;exact wpAny_pyNext_tuple_end (I.ok.hd hc) st (show s.heap.IsTuple a its.toArray from p) (by simp;lia) fun h' eb=>⟨rfl,I.turned (t':=s.toks) (fun b o hb e=>eb b o hb e) f0 f1 f3 f4 f5⟩
 self:=fun _ _ _ _ _ st h=>wpAny_pyIter_tupleiter st h
theorem qR{P:Program}{w:World}{K:W.Frag}{tg:Expr}(it:Addr)(lo:Int)(n:Nat):Turn P w K tg (Itr lo n) [it] it (fun i h=>IsRangeIter h it (lo+(i:Nat)*1) ((n:Int)-(i:Nat)) 1) where
 mem:=by simp
 obj:=fun i h st b hb=>by
  have e:b=it:=by simpa using hb
  subst e;exact ⟨_,st,fun v z=>by
   have z':Data.fields _=Data.cell v:=z;cases z'⟩
 keep:=fun i h h' st k=>k it (by simp) _ st
 item:=by
  intro X hP hw hK hc i pins s σ H E I hf st hg;subst hP hw hK;obtain ⟨f0,f1,f2,f3,f4,f5⟩:=hf it (by simp)
  have W:=Walks.range (prog:=X.prog) (w:=X.w) (I.ok.hd hc) it lo 1 n;refine W.item i s _ _ hg st fun v h' tk hv st' kk=>?_;obtain ⟨t,rfl⟩:=hv;have I1:Inv X pins σ H { s with heap:=h',toks:=tk }:=I.turned (fun b o hb e=>kk b o (by simpa using hb) e) f0 f1 f3 f4 f5
  refine ⟨_,rfl,sS (s:={ s with heap:=h',toks:=tk }) (n:="range_iterator") st' rfl rfl (by decide) ⟨.int (lo+i),H,I1,⟨t,?_⟩,⟨rfl,rfl⟩,st',fun b hb=>(hf b hb).1⟩⟩
  rw [Int.mul_one]
 done:=by
  intro X hP hw hK hc i pins s σ H E I hf st hg;subst hP hw hK;obtain ⟨f0,f1,f2,f3,f4,f5⟩:=hf it (by simp)
  exact wpAny_pyNext_range_end (I.ok.hd hc) st (by have:n<=i:=hg;lia) fun h' eb=>⟨rfl,I.turned (t':=s.toks) (fun b o hb e=>eb b o hb e) f0 f1 f3 f4 f5⟩
 self:=fun _ _ _ _ _ st h=>wpAny_pyIter_rangeiter st h
end L2
namespace L2
open PySem PySem.Spec PyProof.Rows
section
variable {X:Cx}{tg:Expr}
theorem xX{pins:List (Addr×Obj)}{σ:St}{H:Hp}{s:Shared}{R:It->Hp->Prop}{E:Value->Shared->Prop}{lo hi:Int}{t u v:Tok}{tk:Nat}(I:Inv X pins σ H s)(h1:-(2 ^ 62)<=lo)(h2:lo<2 ^ 62)(h3:-(2 ^ 62)<=hi)(h4:hi<2 ^ 62)
  (q:R (Itr lo (hi-lo).toNat) H):wpAny (model X.prog X.w) X.A (pyIter (.ref s.heap.objs.size)) (PIE X pins σ tg R) E { s with heap:=s.heap.push { cls:=.type "range",data:=.fields #[.int lo t,.int hi u,.int 1 v] },toks:=tk }:=by
 refine wpAny_pyIter_range (IsRange.new ..) (small_one h1 h2 h3 h4) ?_;have I1:Inv X pins σ H { s with heap:=s.heap.push { cls:=.type "range",data:=.fields #[.int lo t,.int hi u,.int 1 v] },toks:=tk }:=I.kept fun b o e=>Heap.get?_push_of_some _ e;refine ⟨(s.heap.push { cls:=.type "range",data:=.fields #[.int lo t,.int hi u,.int 1 v] }).objs.size,[(s.heap.push { cls:=.type "range",data:=.fields #[.int lo t,.int hi u,.int 1 v] }).objs.size],_,_,H,rfl,
  I1.kept (t':=tk) fun b o e=>Heap.get?_push_of_some _ e,qR _ lo (hi-lo).toNat,?_,fun b hb=>?_,q⟩
 ·have e1:lo+((0:Nat):Int)*1=lo:=by simp
  have e2:(((hi-lo).toNat:Nat):Int)-((0:Nat):Int)=Builtin.Range.rangeSize lo hi 1:=by rw [rangeSize_one];split<;>lia
  show IsRangeIter _ _ (lo+((0:Nat):Int)*1) ((((hi-lo).toNat:Nat):Int)-((0:Nat):Int)) 1;rw [e1,e2];exact Heap.get?_push_size _ rfl
 ·have e:b=(s.heap.push { cls:=.type "range",data:=.fields #[.int lo t,.int hi u,.int 1 v] }).objs.size:=by simpa using hb
  subst e;exact I1.fpOk (Nat.le_refl _) (I1.hok.fresh (Nat.le_refl _))
def HB(ta:TA):TI:=fun σ H R=>ta σ H fun vs H1=>∃j:Int,vs=[.int j]/\-(2 ^ 62)<=j/\j<2 ^ 62/\R (Itr 0 j.toNat) H1
theorem vG{a:Expr}{ta:TA}{p pos:Pos}(hg:Gl X "range")(hm:X.mg "range"=none)(ha:PA X [a] ta)(hs:starEach [a] X.env=[(false,eval a X.env)]:=by rfl):PI X tg (.Call (.Name "range" p) [a] [] pos) (HB ta):=by
 intro pins s σ H R I h;refine Call_ (cA I hg hm boot_range (PyProof.Rows.callWith_type1 (a_ (ha pos pins s σ H _ I h) fun us s1 ⟨vs,H1,I1,r1,q1⟩=>?_) hs rfl));obtain ⟨j,e,q1,q2,q⟩:=q1;subst e;cases r1 with
 |cons r rr=>
  cases rr;obtain ⟨t,rfl⟩:=r;exact call_range_1 (xX I1 (by lia) (by lia) q1 q2 (by simpa using q))
def tFor(wi:TI)(g:TG)(tb:TS):TS:=fun D σ H=>wi σ H fun J H1=>∃W:Nat->Nat->St->Hp->Prop,(∃m,W 0 m σ H1)/\∀i m σ H,W i m σ H->
 (J.stop i H/\D.nx σ H)\/(J.go i H/\∃N:St->Hp->Prop,(∀σ' H',N σ' H'->∃m',m'<m/\W (i+1) m' σ' H')/\∀x H',J.yld i H x H'->g x σ H' fun σ2 H2=>tb { D with nx:=N,ct:=N,bk:=D.nx } σ2 H2)
def gP(fp:List Addr)(h:Heap):List (Addr×Obj):=fp.filterMap fun b=>(h.get? b).map fun o=>(b,o)
theorem bY{fp:List Addr}{h:Heap}{b:Addr}{o:Obj}(hb:b∈fp)(e:h.get? b=some o):(b,o)∈gP fp h:=List.mem_filterMap.mpr ⟨b,hb,by rw [e];rfl⟩
theorem wa{fp:List Addr}{h:Heap}{p:Addr×Obj}(hp:p∈gP fp h):p.1∈fp/\h.get? p.1=some p.2:=by
 obtain ⟨b,hb,e⟩:=List.mem_filterMap.mp hp;cases q:h.get? b with
 |none=>rw [q] at e;cases e
 |some o=>
  rw [q] at e;have e':(b,o)=p:=Option.some.inj e;subst e';exact ⟨hb,q⟩
theorem Inv.pinned{pins:List (Addr×Obj)}{σ:St}{H:Hp}{s:Shared}{fp:List Addr}(I:Inv X pins σ H s)(hf:∀b∈fp,dE X pins H b)(ho:∀b∈fp,∃o,s.heap.get? b=some o/\∀v,o.data≠.cell v):Inv X (pins++gP fp s.heap) σ H s:=
 I.pins_of fun p hp=>(List.mem_append.mp hp).elim (fun z=>I.pin p (List.mem_append_right _ z)) fun z=>by
  obtain ⟨hb,e⟩:=wa z;obtain ⟨f0,f1,f2,_⟩:=hf p.1 hb;obtain ⟨o,e',d⟩:=ho p.1 hb;rw [e] at e';cases e';exact ⟨e,f0,f1,f2,d⟩
theorem Inv.unpinned{pins pl:List (Addr×Obj)}{σ:St}{H:Hp}{s:Shared}(I:Inv X (pins++pl) σ H s):Inv X pins σ H s:=I.pins_of fun p hp=>I.pin p (List.mem_append_right _ (List.mem_append_left _ hp))
theorem EQ{iter:Expr}{body:List Stmt}{wi:TI}{g:TG}{tb:TS}{pos:Pos}(hp:PassesOwn (model X.prog X.w) X.A X.env X.xe)(hc:X.calm=true)(hi:PI X tg iter wi)(hg:PG X tg g)(hb:sg X body tb)
  (hs:∀x,foldedSetIterable iter X.env x=pure x:=by intro _;rfl):PS X (.For tg iter body [] pos) (tFor wi g tb):=by
 intro pins s σ H D I h;refine wpAny_For (a_ (hi pins s σ H _ I h) fun v s1 h1=>a_ h1 fun itv s2 h2=>?_) hs;obtain ⟨it,fp,tn,J,H2,e,I2,T,st2,f2,W,⟨m0,w0⟩,turn⟩:=h2;subst e
 -- what stays true of the iterator's objects through the loop
 have stat:∀{H':Hp},(∀b∈fp,H' b=none)->∀b∈fp,dE X pins H' b:=fun hn b hb=>⟨hn b hb,(f2 b hb).2⟩;refine codeAny_forLoop_any (fun n s'=>∃i σ' H',Inv X pins σ' H' s'/\tn i s'.heap/\(∀b∈fp,H' b=none)/\W i n σ' H') ?_ m0 ⟨0,σ,H2,I2,st2,fun b hb=>(f2 b hb).1,w0⟩
 rintro n s3 ⟨i,σ3,H3,I3,st3,fr3,w3⟩
 rcases turn i n σ3 H3 w3 with ⟨stop,qn⟩|⟨go,N,hN,step⟩
 ·refine wpAny_passesOwn hp (a_ (T.done X rfl rfl rfl hc i pins s3 σ3 H3 X.xe I3 (stat fr3) st3 stop) fun r s4 ⟨hr,I4⟩=>?_)
  subst hr;exact wpAny_execs_nil ⟨σ3,H3,I4,qn⟩
 ·refine wpAny_passesOwn hp (a_ (T.item X rfl rfl rfl hc i pins s3 σ3 H3 X.xe I3 (stat fr3) st3 go) fun r s4 ⟨u,hr,h4⟩=>?_)
  subst hr;refine wpAny_passesOwn hp (a_ h4 fun _ s5 ⟨x,H5,I5,r5,y5,st5,fr5⟩=>?_);have I5':=I5.pinned (stat fr5) (T.obj _ _ st5);refine wpAny_passesOwn hp (a_ (hg _ s5 σ3 H5 x u _ I5' r5 (step x H5 y5)) fun _ s6 ⟨σ6,H6,I6,q6⟩=>?_);refine wpAny_passesOwn hp (a_ (hb _ s6 σ6 H6 _ I6 q6) fun f s7 q7=>?_);have again:∀{σ7:St} {H7:Hp},Inv X (pins++gP fp s5.heap) σ7 H7 s7->N σ7 H7->∃m,m<n/\∃i σ' H',Inv X pins σ' H' s7/\tn i s7.heap/\(∀b∈fp,H' b=none)/\W i m σ' H':=fun {σ7 H7} I7 n7=>by
   obtain ⟨m',hm,w7⟩:=hN σ7 H7 n7;refine ⟨m',hm,i+1,σ7,H7,I7.unpinned,T.keep _ _ _ st5 fun b hb o e=>(I7.pin (b,o) (List.mem_append_right _ (List.mem_append_right _ (bY hb e)))).1,fun b hb=>?_,w7⟩;obtain ⟨o,e,d⟩:=T.obj _ _ st5 b hb;exact (I7.pin (b,o) (List.mem_append_right _ (List.mem_append_right _ (bY hb e)))).2.1
  cases f with
  |next=>obtain ⟨σ7,H7,I7,n7⟩:=q7;exact again I7 n7
  |cont=>obtain ⟨σ7,H7,I7,n7⟩:=q7;exact again I7 n7
  |brk=>obtain ⟨σ7,H7,I7,q7⟩:=q7;exact ⟨σ7,H7,I7.unpinned,q7⟩
  |ret v=>obtain ⟨x7,σ7,H7,I7,r7,q7⟩:=q7;exact ⟨x7,σ7,H7,I7.unpinned,r7,q7⟩
end
end L2
namespace L2
open PySem PySem.Spec PyProof.Rows
abbrev R2:=V->V->Hp->VK->Prop
def bU(X:Cx)(f:Value->Value->Sem Value)(r:R2):Prop:=
 ∀(pins:List (Addr×Obj)) (s:Shared) (σ:St) (H:Hp) (x y:V) (v u:Value) (Q:VK),Inv X pins σ H s->RelV x v->RelV y u->r x y H Q->
  wpAny (model X.prog X.w) X.A (f v u) (EP X pins σ Q) X.xe s
def UnR(X:Cx)(f:Value->Sem Value)(r:V->Hp->VK->Prop):Prop:=
 ∀(pins:List (Addr×Obj)) (s:Shared) (σ:St) (H:Hp) (x:V) (v:Value) (Q:VK),Inv X pins σ H s->RelV x v->r x H Q->
  wpAny (model X.prog X.w) X.A (f v) (EP X pins σ Q) X.xe s
def bI(X:Cx)(f:Value)(r:List V->Hp->VK->Prop):Prop:=
 ∀(pins:List (Addr×Obj)) (s:Shared) (σ:St) (H:Hp) (xs:List V) (us:List Value) (Q:VK),Inv X pins σ H s->Vals xs us->r xs H Q->
  wpAny (model X.prog X.w) X.A (call f us) (EP X pins σ Q) X.xe s
def TruR(X:Cx)(r:V->Hp->(Bool->Hp->Prop)->Prop):Prop:=
 ∀(pins:List (Addr×Obj)) (s:Shared) (σ:St) (H:Hp) (x:V) (v:Value) (Q:Bool->Hp->Prop),Inv X pins σ H s->RelV x v->r x H Q->
  wpAny (model X.prog X.w) X.A (truthy v) (TP X pins σ Q) X.xe s
def Im(r:R2)(ta tb:TE):TE:=fun σ H Q=>ta σ H fun x H1=>tb σ H1 fun y H2=>r x y H2 Q
def tUn(r:V->Hp->VK->Prop)(ta:TE):TE:=fun σ H Q=>ta σ H fun x H1=>r x H1 Q
def rI(C:Int->Int->Prop)(g:Int->Int->V):R2:=fun x y H Q=>∃i j,x=.int i/\y=.int j/\C i j/\Q (g i j) H
def wk(g:Int->Int->V):R2:=fun x y H Q=>∃i j,x=.int i/\y=.int j/\Q (g i j) H
def rU(g:Int->V):V->Hp->VK->Prop:=fun x H Q=>∃i,x=.int i/\Q (g i) H
section
variable {X:Cx}{a b c:Expr}{ta tb tc:TE}{pos:Pos}
theorem EF(ha:PE X a ta)(hb:PE X b tb){pins:List (Addr×Obj)}{s:Shared}{σ:St}{H:Hp}{R:V->V->Hp->Prop}(I:Inv X pins σ H s)
  (h:ta σ H fun x H1=>tb σ H1 fun y H2=>R x y H2) {Q:Value->Shared->Prop} {f:Value->Value->Sem Value}
  (hf:∀v u s2 x y H2,Inv X pins σ H2 s2->RelV x v->RelV y u->R x y H2->wpAny (model X.prog X.w) X.A (f v u) Q X.xe s2):
  wpAny (model X.prog X.w) X.A (eval a X.env) (fun v s₁=>wpAny (model X.prog X.w) X.A (eval b X.env) (fun u s₂=>wpAny (model X.prog X.w) X.A (f v u) Q X.xe s₂) X.xe s₁) X.xe s:=by
 refine a_ (ha pins s σ H _ I h) fun v s1 ⟨x,H1,I1,r1,q1⟩=>?_;refine a_ (hb pins s1 σ H1 _ I1 q1) fun u s2 ⟨y,H2,I2,r2,q2⟩=>?_;exact hf v u s2 x y H2 I2 r1 r2 q2
theorem Ih{op:Operator}{r:R2}(ho:bU X (binaryOp op) r)(ha:PE X a ta)(hb:PE X b tb):PE X (.BinOp a op b pos) (Im r ta tb):=by
 intro pins s σ H Q I h;exact wpAny_BinOp (EF ha hb I h fun v u s2 x y H2 I2 rx ry q=>ho pins s2 σ H2 x y v u Q I2 rx ry q)
theorem G0{op:UnaryOp}{r:V->Hp->VK->Prop}(ho:UnR X (unaryOp op) r)(ha:PE X a ta):PE X (.UnaryOp op a pos) (tUn r ta):=by
 intro pins s σ H Q I h;exact UnaryOp_ (a_ (ha pins s σ H _ I h) fun v s1 ⟨x,H1,I1,r1,q1⟩=>ho pins s1 σ H1 x v Q I1 r1 q1)
theorem FS{f:Value->Value->Sem Value}{C:Int->Int->Prop}{g:Int->Int->Int}
  (rule:∀(i j:Int) (t u:Tok) (s:Shared) (Q:Value->Shared->Prop) (E:Value->Shared->Prop),C i j->Q (.int (g i j) s.toks) { s with toks:=s.toks+1 }->wpAny (model X.prog X.w) X.A (f (.int i t) (.int j u)) Q E s):
  bU X f (rI C fun i j=>.int (g i j)):=by
 intro pins s σ H x y v u Q I rx ry h;obtain ⟨i,j,rfl,rfl,hc,q⟩:=h;obtain ⟨t,rfl⟩:=rx;obtain ⟨t',rfl⟩:=ry;exact rule i j t t' s _ _ hc ⟨.int (g i j),H,I.tok _,⟨_,rfl⟩,q⟩
theorem yM{f:Value->Value->Sem Value}{g:Int->Int->Int}
  (rule:∀(i j:Int) (t u:Tok) (s:Shared) (Q:Value->Shared->Prop) (E:Value->Shared->Prop),Q (.int (g i j) s.toks) { s with toks:=s.toks+1 }->wpAny (model X.prog X.w) X.A (f (.int i t) (.int j u)) Q E s):
  bU X f (wk fun i j=>.int (g i j)):=by
 intro pins s σ H x y v u Q I rx ry h;obtain ⟨i,j,rfl,rfl,q⟩:=h;obtain ⟨t,rfl⟩:=rx;obtain ⟨t',rfl⟩:=ry;exact rule i j t t' s _ _ ⟨.int (g i j),H,I.tok _,⟨_,rfl⟩,q⟩
theorem Bp{f:Value->Value->Sem Value}{g:Int->Int->Bool}
  (rule:∀(i j:Int) (t u:Tok) (s:Shared) (Q:Value->Shared->Prop) (E:Value->Shared->Prop),Q (.bool (g i j)) s->wpAny (model X.prog X.w) X.A (f (.int i t) (.int j u)) Q E s):
  bU X f (wk fun i j=>.bl (g i j)):=by
 intro pins s σ H x y v u Q I rx ry h;obtain ⟨i,j,rfl,rfl,q⟩:=h;obtain ⟨t,rfl⟩:=rx;obtain ⟨t',rfl⟩:=ry;exact rule i j t t' s _ _ ⟨.bl (g i j),H,I,rfl,q⟩
def AA(i j:Int):Prop:=0<=j/\j<=1000000/\i.natAbs<2 ^ 64
def CMul(i j:Int):Prop:=(-(2 ^ 64)<i/\i<2 ^ 64)\/(-(2 ^ 64)<j/\j<2 ^ 64)
theorem CMul.ok{i j:Int}(h:CMul i j):IntMulOk i j:=by
 rcases h with ⟨h1,h2⟩|⟨h1,h2⟩
 ·exact .of_left (intBits_le_64 h1 h2)
 ·exact .of_right (intBits_le_64 h1 h2)
theorem qM(k:Nat):(0:Int)<=2 ^ k:=by
 rw [two_pow_cast];exact Int.natCast_nonneg _
theorem CT:bU X (binaryOp .Add) (wk fun i j=>.int (i+j)):=yM fun _ _ _ _ _ _ _ q=>add_int q
theorem Em:bU X (binaryOp .Sub) (wk fun i j=>.int (i-j)):=yM fun _ _ _ _ _ _ _ q=>sub_int q
theorem D4:bU X (binaryOp .Mult) (rI CMul fun i j=>.int (i*j)):=FS fun _ _ _ _ _ _ _ hc q=>mul_int q hc.ok
theorem De:bU X (binaryOp .Mod) (rI (fun _ j=>0<j) fun i j=>.int (i % j)):=FS fun i j _ _ _ _ _ hc q=>by
 have h1:(0:Int)<j:=hc;exact mod_int' (by lia) (by rw [Int.fmod_eq_emod_of_nonneg i (by lia)];exact q)
theorem Fq:bU X (binaryOp .Pow) (rI AA fun i j=>.int (i ^ j.toNat)):=FS fun _ _ _ _ _ _ _ hc q=>pow_int_small hc.1 hc.2.1 hc.2.2 q
theorem FA:bU X (binaryOp .LShift) (rI AA fun i j=>.int (i*2 ^ j.toNat)):=FS fun _ _ _ _ _ _ _ hc q=>lshift_int_small hc.1 hc.2.1 hc.2.2 q
theorem EW:bU X (binaryOp .RShift) (rI (fun _ j=>0<=j) fun i j=>.int (i / 2 ^ j.toNat)):=FS fun i j _ _ _ _ _ hc q=>
 rshift_int hc (by rw [Int.fdiv_eq_ediv_of_nonneg i (qM _)];exact q)
theorem Ei:bU X (binaryOp .BitAnd) (wk fun i j=>.int (Builtin.bitAnd i j)):=yM fun _ _ _ _ _ _ _ q=>and_int q
theorem Ij:bU X (binaryOp .BitOr) (wk fun i j=>.int (Builtin.bitOr i j)):=yM fun _ _ _ _ _ _ _ q=>or_int q
theorem D8:bU X (binaryOp .BitXor) (wk fun i j=>.int (Builtin.bitXor i j)):=yM fun _ _ _ _ _ _ _ q=>xor_int q
theorem unI{f:Value->Sem Value}{g:Int->Int}
  (rule:∀(i:Int) (t:Tok) (s:Shared) (Q:Value->Shared->Prop) (E:Value->Shared->Prop),Q (.int (g i) s.toks) { s with toks:=s.toks+1 }->wpAny (model X.prog X.w) X.A (f (.int i t)) Q E s):
  UnR X f (rU fun i=>.int (g i)):=by
 intro pins s σ H x v Q I rx h;obtain ⟨i,rfl,q⟩:=h;obtain ⟨t,rfl⟩:=rx;exact rule i t s _ _ ⟨.int (g i),H,I.tok _,⟨_,rfl⟩,q⟩
theorem F1:UnR X (unaryOp .USub) (rU fun i=>.int (-i)):=unI fun _ _ _ _ _ q=>neg_int q
end
section
variable {X:Cx}{a b c:Expr}{ta tb tc:TE}{pos:Pos}
theorem ye{pins:List (Addr×Obj)}{σ:St}{H:Hp}{s:Shared}{Q:VK}{k k':Bool}(I:Inv X pins σ H s)(q:Q (.bl k) H)(e:k=k'):EP X pins σ Q (.bool k') s:=by
 subst e;exact ⟨.bl k,H,I,rfl,q⟩
theorem HJ:bU X (compareOp .Lt) (wk fun i j=>.bl (decide (i<j))):=Bp fun _ _ _ _ _ _ _ q=>lt_int q
theorem GY:bU X (compareOp .LtE) (wk fun i j=>.bl (decide (i<=j))):=Bp fun _ _ _ _ _ _ _ q=>le_int q
theorem HC:bU X (compareOp .Gt) (wk fun i j=>.bl (decide (j<i))):=Bp fun _ _ _ _ _ _ _ q=>gt_int q
theorem Hs:bU X (compareOp .GtE) (wk fun i j=>.bl (decide (j<=i))):=Bp fun _ _ _ _ _ _ _ q=>ge_int q
theorem Fm:bU X (compareOp .Is) (fun x y H Q=>y=.non/\Q (.bl (decide (x=.non))) H):=by
 intro pins s σ H x y v u Q I rx ry h;obtain ⟨rfl,q⟩:=h;cases ry;refine is_none_gen (ye I q ?_)
 cases x<;>first
  |(cases rx;rfl)
  |(obtain ⟨t,rfl⟩:=rx;rfl)
theorem Bj:bU X (compareOp .IsNot) (fun x y H Q=>y=.non/\Q (.bl (!decide (x=.non))) H):=by
 intro pins s σ H x y v u Q I rx ry h;obtain ⟨rfl,q⟩:=h;cases ry;refine isnot_none_gen (ye I q ?_)
 cases x<;>first
  |(cases rx;rfl)
  |(obtain ⟨t,rfl⟩:=rx;rfl)
theorem BB{op:CmpOp}{r:R2}(ho:bU X (compareOp op) r)(ha:PE X a ta)(hb:PE X b tb)(hm:behindInMarks op b=false):PE X (.Compare a [op] [b] pos) (Im r ta tb):=by
 intro pins s σ H Q I h;exact wpAny_Compare1 (EF ha hb I h fun v u s2 x y H2 I2 rx ry q=>ho pins s2 σ H2 x y v u Q I2 rx ry q) hm
def Hy(t:TE):TT:=fun σ H Q=>t σ H fun x H'=>∃k,x=.bl k/\Q k H'
theorem Am{op:CmpOp}{r:R2}(ho:bU X (compareOp op) r)(ha:PE X a ta)(hb:PE X b tb)(hm:behindInMarks op b=false):PT X (.Compare a [op] [b] pos) (Hy (Im r ta tb)):=by
 intro pins s σ H Q I h;refine wpAny_isTrue_Compare1 (a_ (ha pins s σ H _ I h) fun v s1 ⟨x,H1,I1,r1,q1⟩=>a_ (hb pins s1 σ H1 _ I1 q1) fun u s2 ⟨y,H2,I2,r2,q2⟩=>
  a_ (ho pins s2 σ H2 x y v u _ I2 r1 r2 q2) fun c s3 ⟨z,H3,I3,r3,k,e,q3⟩=>?_) hm
 subst e;cases r3;exact wpAny_truthy_bool ⟨H3,I3,q3⟩
def DR(K:W.Frag)(x:V)(H:Hp)(k:Bool):Prop:=
 match x with
 |.non=>k=false
 |.bl b=>k=b
 |.int i=>k=(i != 0)
 |.str y=>y.length<=sizeLine/\k=((y.length:Int) != 0)
 |.byt y=>y.size<=sizeLine/\k=((y.size:Int) != 0)
 |.ref p=>(∃xs,SqL K H p xs/\k=!xs.isEmpty)\/(∃xs,fE K H p xs/\k=!xs.isEmpty)\/∃kvs,H p=some (.dK kvs)/\k=!kvs.isEmpty
 |_=>False
theorem r9{κ:Type}{kvs:List (κ×V)}{vs:List (κ×Value)}(r:KV kvs vs):(!vs.isEmpty)=!kvs.isEmpty:=by
 cases r<;>rfl
theorem kn{xs:List V}{its:List Value}(r:Vals xs its):(!its.toArray.isEmpty)=!xs.isEmpty:=by
 cases r<;>simp
theorem em:(sizeLine:Nat)<2 ^ 63:=by rw [sizeLine_eq];decide
theorem E3:TruR X (fun x H Q=>∃k,DR X.K x H k/\Q k H):=by
 intro pins s σ H x v Q I rx h;obtain ⟨k,e,q⟩:=h;have hl:=em;have hs:sizeLine=16777216:=sizeLine_eq;cases x with
 |non=>
  cases rx;have e':k=false:=e;subst e';exact truthy_none ⟨H,I,q⟩
 |bl b=>
  cases rx;have e':k=b:=e;subst e';exact wpAny_truthy_bool ⟨H,I,q⟩
 |int i=>
  obtain ⟨t,rfl⟩:=rx;have e':k=(i != 0):=e;subst e';exact PySem.P.truthy_int ⟨H,I,q⟩
 |str y=>
  obtain ⟨t,rfl⟩:=rx;obtain ⟨hy,e'⟩:y.length<=sizeLine/\k=((y.length:Int) != 0):=e;subst e';exact PySem.P.truthy_str (by lia) ⟨H,I.tok _,q⟩
 |byt y=>
  obtain ⟨t,rfl⟩:=rx;obtain ⟨hy,e'⟩:y.size<=sizeLine/\k=((y.size:Int) != 0):=e;subst e';exact W.truthy_bytes (by lia) ⟨H,I.tok _,q⟩
 |ref p=>
  cases rx;have e':(∃xs,SqL X.K H p xs/\k=!xs.isEmpty)\/(∃xs,fE X.K H p xs/\k=!xs.isEmpty)\/∃kvs,H p=some (.dK kvs)/\k=!kvs.isEmpty:=e;rcases e' with ⟨xs,hx,e'⟩|⟨xs,hx,e'⟩|⟨kvs,hx,e'⟩
  ·subst e'
   obtain ⟨its,r,pl,hz⟩:=I.list hx;have hlen:=r.length;exact wpAny_truthy_list pl.isList (by simp only [List.size_toArray];lia) ⟨H,I.tok _,by rw [kn r];exact q⟩
  ·subst e'
   obtain ⟨its,r,pl,hz⟩:=I.tuple hx;have hlen:=r.length;exact truthy_tuple pl (by simp only [List.size_toArray];lia) ⟨H,I.tok _,by rw [kn r];exact q⟩
  ·subst e'
   obtain ⟨hz,hS,vs,r,m⟩:kvs.length<=sizeLine/\(p==sysModules)=false/\∃vs,KV kvs vs/\s.heap.DictOf (aH X.prog X.w) p vs:=I.hok p _ hx;have hlen:kvs.length=vs.length:=Paired.length r;exact wpAny_truthy_dict hS m (by lia) ⟨H,I.tok _,by rw [r9 r];exact q⟩
 |_=>exact (show False from e).elim
theorem xw(ha:PE X a ta)(he:∀whole,isTrue a X.env whole=(do let v <- whole;standAt a.pos;holding [v] (truthy v))):
  PT X a (fun σ H Q=>ta σ H fun x H'=>∃k,DR X.K x H' k/\Q k H'):=by
 intro pins s σ H Q I h;exact isTrue_plain (a_ (ha pins s σ H _ I h) fun v s1 ⟨x,H1,I1,r1,q1⟩=>E3 pins s1 σ H1 x v Q I1 r1 q1) (he _)
theorem rl:bU X (binaryOp .Add) (fun x y H Q=>∃i j,x=.str i/\y=.str j/\i.length+j.length<=sizeLine/\Q (.str (i++j)) H):=by
 intro pins s σ H x y v u Q I rx ry h;obtain ⟨i,j,rfl,rfl,hz,q⟩:=h;obtain ⟨t,rfl⟩:=rx;obtain ⟨t',rfl⟩:=ry;exact add_str (fun t' tk=>⟨.str (i++j),H,I.tok _,⟨_,rfl⟩,q⟩) hz
theorem jV{x:V}{us:List Value}(r:Vals [x] us):∃u,us=[u]/\RelV x u:=by
 cases r with
 |cons r1 r2=>cases r2;exact ⟨_,rfl,r1⟩
end
end L2
namespace L2
open PySem PySem.Spec PyProof.Rows
structure ObjM(h:Heap)(x dx C:Addr)(mA:Str->Option Value):Prop where
 obj:h.get? x=some (W.instObj C dx)
 ns:h.Ns1 dx mA
 ne:dx≠x
theorem vq{h:Heap}{dx:Addr}{mA:Str->Option Value}(n:h.Ns1 dx mA):∃od,h.get? dx=some od/\∀name,W.lookIn name od=some (mA name):=by
 obtain ⟨o,es,ep,ho,hd,hk,_,hm⟩:=n;refine ⟨o,ho,fun name=>?_⟩;have e:=hm name;unfold nsFind findBy at e;rw [<- Array.find?_toList] at e;unfold W.lookIn;rw [hd];dsimp only
 split
 ·rename_i y q
  rw [q] at e;exact congrArg some e
 ·rename_i q
  rw [q] at e;have a:es.toList.any (·.refKey)=false:=by
   rw [List.any_eq_false];intro y hy;obtain ⟨z,t,hkey⟩:=hk y (Array.mem_toList_iff.mp hy);simp [DictEntry.refKey,hkey]
  have a':¬es.toList.any (·.refKey)=true:=by rw [a];exact Bool.false_ne_true
  rw [if_neg a'];exact congrArg some e
theorem ObjM.look{h:Heap}{x dx C:Addr}{mA:Str->Option Value}(I:ObjM h x dx C mA):∃od,W.InstAt h x (W.instObj C dx) C (some od)/\∀name,W.lookIn name od=some (mA name):=
 let ⟨od,ho,hl⟩:=vq I.ns
 ⟨od,⟨I.obj,rfl,rfl,ho⟩,hl⟩
section
variable {prog:Program}{w:World}{A:Around}{E:Value->Shared->Prop}{s:Shared}{K:W.Frag}{x dx C f:Addr}{mA:Str->Option Value}{name:Str}{v:Value}
theorem Ag{expr:Bool}{Q:Value->Shared->Prop}(X:K.In s.heap)(I:ObjM s.heap x dx C mA)(hg:W.plainGet K C name=true)(hh:W.hasDictIn K C=true)
  (ha:W.findIn K (.ref C) name=some none) (hv:mA name=some v) (hv':W.handedIn v=true) (h:Q v { s with toks:=s.toks+1 }):
  wpAny (model prog w) A (getAttr (.ref x) name expr) Q E s:=by
 obtain ⟨od,J,hl⟩:=I.look;exact W.get_value X J (W.plainGet_of hg).1 (W.findObj_own hh ha rfl (by rw [hl,hv])) hv' h
theorem yT{pl:Sem Bool}{Q:Value×List Value->Shared->Prop}(X:K.In s.heap)(I:ObjM s.heap x dx C mA)(hg:W.plainGet K C name=true)
  (hf:W.findIn K (.ref C) name=some (some (.ref f))) (ht:W.isFn K (.ref f)=true) (hv:mA name=none) (h:Q (.ref f,[.ref x]) s):
  wpAny (model prog w) A (getMethod (.ref x) name pl) Q E s:=by
 obtain ⟨od,J,hl⟩:=I.look;exact W.method_fn X J (W.plainGet_of hg).1 (W.plainGet_of hg).2 hf (beq_iff_eq.mp ht) (by show (W.lookIn name od).map (·.isSome)=some false;rw [hl,hv];rfl) h
theorem BA{ns:List Str}{Q:Unit->Shared->Prop}(X:K.In s.heap)(I:ObjM s.heap x dx C mA)
  (hs:W.findIn K (.ref C) "__setattr__"=some (some (.builtin "object.__setattr__"))) (hp:W.plainOver K C=true) (ht:W.takerIn K C name=some none) (hh:W.hasDictIn K C=true)
  (hw:PySem.Within mA ns) (hsz:ns.length<=sizeLine)
  (h:∀h',ObjM h' x dx C (fun y=>if y=name then some v else mA y)->Heap.SameBut dx s.heap h'->Q () { s with heap:=h',toks:=s.toks+2 }):
  wpAny (model prog w) A (setAttr (.ref x) name v) Q E s:=by
 obtain ⟨od,J,hl⟩:=I.look;refine W.set_plain X J hs (W.osa_open (s:={ s with toks:=s.toks+1 }) (r:=none) X J hp ht fun b=>?_);obtain ⟨cd,hc,hd'⟩:=W.any_some hh;have hx:s.heap.get? x=some ⟨.ref C,some dx,.plain,#[]⟩:=I.obj;refine wpAny_bind (wpAny_pure (wpAny_bind (wpAny_bind (wpAny_loadPart hx (wpAny_bind (W.Looks.here (s:={ s with toks:=s.toks+1 }) (W.looks_clsIn X hc) ?_))))));rw [hd'];refine wpAny_pure (a:=some dx) (wpAny_bind (wpAny_pure (wpAny_bind ?_)));refine wpAny_nsSet1 (s:={ s with toks:=s.toks+1 }) I.ns fun h' hn2 hs2=>?_;obtain ⟨oD,esD,epD,hoD,hdD,hcD⟩:=hn2.count (PySem.Within.cons name v hw);refine wpAny_bind (wpAny_lookBehind hoD (by rw [hdD];exact pastItsLine_dict (Nat.le_trans hcD (by rw [List.length_cons];lia))) ?_)
 exact wpAny_pure (h _ ⟨(hs2.2 _ (Ne.symm I.ne)).trans I.obj,hn2,I.ne⟩ hs2)
theorem yU{R:Result->Shared->Prop}{vs:List Value}{kw:List (Str×Value)}(X:K.In s.heap)(hm:W.makesIn K C=true)
  (hi:W.findIn K (.ref C) "__init__"=some (some (.ref f))) (hf:W.typeIn K (.ref f)=some (.type "function"))
  (h:codeAny (model prog w) (A.under (.builtin "type.__call__" ⟨.ref C::vs,kw⟩)) (.call (.ref f) ⟨.ref (s.heap.objs.size+1)::vs,kw⟩) (W.InitBack (s.heap.objs.size+1) R)
   { s with heap:=(s.heap.push W.emptyDict).push (W.instObj C s.heap.objs.size) }):
  codeAny (model prog w) A (.call (.ref C) ⟨vs,kw⟩) R s:=by
 obtain ⟨hh,g,d,t,os⟩:=s;exact W.make_core (W.makes_of X hm) (W.looks_findIn X hi) (fun self=>W.bind_fn X self hf) (.inl rfl) h
end
def cj(f:Str)(v:V):List (Str×V)->List (Str×V)
 |[]=>[(f,v)]
 |(g,x)::r=>if g=f then (g,v)::r else (g,x)::cj f v r
theorem gW(f g:Str)(v:V):∀fs:List (Str×V),(cj f v fs).lookup g=if g=f then some v else fs.lookup g
 |[]=>by
  show List.lookup g [(f,v)]=_
  by_cases h:g=f
  ·have hb:(g==f)=true:=beq_iff_eq.mpr h
   simp only [List.lookup,hb,if_pos h]
  ·have hb:(g==f)=false:=beq_eq_false_iff_ne.mpr h
   simp only [List.lookup,hb,if_neg h]
 |(k,x)::r=>by
  have ih:=gW f g v r;rw [show cj f v ((k,x)::r)=(if k=f then (k,v)::r else (k,x)::cj f v r) from rfl]
  by_cases hk:k=f
  ·rw [if_pos hk]
   by_cases h:g=k
   ·have hb:(g==k)=true:=beq_iff_eq.mpr h
    simp only [List.lookup,hb,if_pos (h.trans hk)]
   ·have hb:(g==k)=false:=beq_eq_false_iff_ne.mpr h
    simp only [List.lookup,hb,if_neg (fun e:g=f=>h (e.trans hk.symm))]
  ·rw [if_neg hk]
   by_cases h:g=k
   ·have hb:(g==k)=true:=beq_iff_eq.mpr h
    simp only [List.lookup,hb,if_neg (fun e:g=f=>hk (h.symm.trans e))]
   ·have hb:(g==k)=false:=beq_eq_false_iff_ne.mpr h
    simp only [List.lookup,hb];exact ih
theorem gs(f:Str)(v:V):∀fs:List (Str×V),f∈(cj f v fs).map (·.1)/\∀g,g∈fs.map (·.1)->g∈(cj f v fs).map (·.1)
 |[]=>⟨by simp [cj],fun g h=>by simp at h⟩
 |(k,x)::r=>by
  obtain ⟨i1,i2⟩:=gs f v r;rw [show cj f v ((k,x)::r)=(if k=f then (k,v)::r else (k,x)::cj f v r) from rfl]
  by_cases hk:k=f
  ·rw [if_pos hk]
   subst hk;exact ⟨by simp,fun g h=>by simpa using h⟩
  ·rw [if_neg hk]
   refine ⟨?_,fun g h=>?_⟩
   ·rw [List.map_cons]
    exact List.mem_cons_of_mem _ i1
   ·rw [List.map_cons] at h ⊢
    rcases List.mem_cons.mp h with e|e
    ·exact List.mem_cons.mpr (.inl e)
    ·exact List.mem_cons_of_mem _ (i2 g e)
theorem hV(f:Str)(v:V):∀fs:List (Str×V),(cj f v fs).length<=fs.length+1
 |[]=>by simp [cj]
 |(k,x)::r=>by
  have ih:=hV f v r;rw [show cj f v ((k,x)::r)=(if k=f then (k,v)::r else (k,x)::cj f v r) from rfl]
  by_cases hk:k=f
  ·rw [if_pos hk,List.length_cons,List.length_cons];lia
  ·rw [if_neg hk,List.length_cons,List.length_cons];lia
theorem cq{v:V}{o:Option Value}(r:RelO (some v) o):∃u,o=some u/\RelV v u:=by
 cases o with
 |none=>exact (show False from r).elim
 |some u=>exact ⟨u,rfl,r⟩
theorem gk{o:Option Value}(r:RelO none o):o=none:=by
 cases o with
 |none=>rfl
 |some u=>exact (show False from r).elim
theorem vB{v:V}{u:Value}(r:RelV v u):W.handedIn u=true:=by
 cases v with
 |non=>cases (show u=Value.none from r);rfl
 |bl b=>cases (show u=Value.bool b from r);rfl
 |int i=>obtain ⟨t,e⟩:=(show ∃t,u=Value.int i t from r);cases e;rfl
 |str x=>obtain ⟨t,e⟩:=(show ∃t,u=Value.str x t from r);cases e;rfl
 |byt b=>obtain ⟨t,e⟩:=(show ∃t,u=Value.bytes b t from r);cases e;rfl
 |flt b=>obtain ⟨t,e⟩:=(show ∃t,u=Value.float b t from r);cases e;rfl
 |ref a=>cases (show u=Value.ref a from r);rfl
 |ty n=>cases (show u=Value.type n from r);rfl
section
variable {P:Program}{w:World}{H H':Hp}{h h':Heap}{a C dx:Addr}{fs fs':List (Str×V)}
theorem iz(hok:HOk P w H h)(e:H a=some (.ins C dx fs)):∃mA,ObjM h a dx C mA/\(∀f,RelO (fs.lookup f) (mA f))/\PySem.Within mA (fs.map (·.1))/\fs.length<=1000/\H dx=some (.own a):=by
 obtain ⟨d,z,ne,ob,mA,n,r,q⟩:=(show ObjOk P w H h a (.ins C dx fs) from hok a _ e);exact ⟨mA,⟨ob,n,ne⟩,r,q,z,d⟩
end
structure Cls(K:W.Frag)(C:Addr):Prop where
 pg:W.plainGet K C Str.empty=true
 hd:W.hasDictIn K C=true
 po:W.plainOver K C=true
 sa:W.findIn K (.ref C) "__setattr__"=some (some (.builtin "object.__setattr__"))
theorem Cls.get{K:W.Frag}{C:Addr}(c:Cls K C)(f:Str):W.plainGet K C f=true:=c.pg
def NoAttr(K:W.Frag)(C:Addr)(f:Str):Prop:=W.findIn K (.ref C) f=some none
theorem NoAttr.taker{K:W.Frag}{C:Addr}{f:Str}(n:NoAttr K C f):W.takerIn K C f=some none:=by
 unfold W.takerIn;rw [show W.findIn K (.ref C) f=some none from n];rfl
structure Meth(K:W.Frag)(C:Addr)(m:Str)(f:Addr):Prop where
 at_:W.findIn K (.ref C) m=some (some (.ref f))
 fn:W.isFn K (.ref f)=true
 kp:W.keepIn K (.ref f)=true
section
variable {X:Cx}{pins:List (Addr×Obj)}{σ:St}{H:Hp}{s:Shared}{a C dx:Addr}{fs:List (Str×V)}{f:Str}{v:V}{A:Around}{E:Value->Shared->Prop}
theorem jX{b:Bool}{Q:Value->Shared->Prop}(I:Inv X pins σ H s)(e:H a=some (.ins C dx fs))(c:Cls X.K C)(n:NoAttr X.K C f)(l:fs.lookup f=some v)
  (h:∀u s',Inv X pins σ H s'->RelV v u->Q u s'):wpAny (model X.prog X.w) A (getAttr (.ref a) f b) Q E s:=by
 obtain ⟨mA,O,r,_,_,_⟩:=iz I.hok e;obtain ⟨u,hu,ru⟩:=cq (v:=v) (o:=mA f) (by rw [<- l];exact r f)
 exact Ag I.kIn O (c.get f) c.hd n hu (vB ru) (h u _ (I.tok _) ru)
theorem kq{m:Str}{g:Addr}{pl:Sem Bool}{Q:Value×List Value->Shared->Prop}(I:Inv X pins σ H s)(e:H a=some (.ins C dx fs))(c:Cls X.K C)(k:Meth X.K C m g)(l:fs.lookup m=none)
  (h:Q (.ref g,[.ref a]) s):wpAny (model X.prog X.w) A (getMethod (.ref a) m pl) Q E s:=by
 obtain ⟨mA,O,r,_,_,_⟩:=iz I.hok e;have hn:mA m=none:=gk (by rw [<- l];exact r m)
 exact yT I.kIn O (c.get m) k.at_ k.fn hn h
theorem jD{y:V}{u:Value}{Q:Unit->Shared->Prop}(I:Inv X pins σ H s)(e:H a=some (.ins C dx fs))(c:Cls X.K C)(n:NoAttr X.K C f)(hl:fs.length<1000)(ry:RelV y u)
  (h:∀s',Inv X pins σ (upd H a (.ins C dx (cj f y fs))) s'->Q () s'):wpAny (model X.prog X.w) A (setAttr (.ref a) f u) Q E s:=by
 obtain ⟨mA,O,r,wi,_,ho⟩:=iz I.hok e;have hz:(fs.map (·.1)).length<=sizeLine:=by rw [List.length_map,sizeLine_eq];lia
 refine BA I.kIn O c.sa c.po n.taker c.hd wi hz fun h' O' sb=>h _ ?_;have hd:∃o,h'.get? dx=some o:=let ⟨o,_,_,e',_⟩:=O'.ns;⟨o,e'⟩;refine I.write (x:=a) (e:=dx) (by rw [e];exact True.intro) (.inr ho) (fun b q hb z=>(sb.2 b hb).trans z) hd ?_
 refine ⟨by rw [av O.ne];exact ho,?_,O.ne,O'.obj,_,O'.ns,fun g=>?_,fun g hg=>?_⟩
 ·have:=hV f y fs;lia
 ·show RelO ((cj f y fs).lookup g) (if g=f then some u else mA g)
  rw [gW]
  by_cases q:g=f
  ·rw [if_pos q,if_pos q];exact ry
  ·rw [if_neg q,if_neg q];exact r g
 ·by_cases q:g=f
  ·rw [q];exact (gs f y fs).1
  ·refine (gs f y fs).2 g (wi g fun z=>hg ?_)
   show (if g=f then some u else mA g)=none
   rw [if_neg q];exact z
theorem zo(I:Inv X pins σ H s):Inv X pins σ (upd (upd H s.heap.objs.size (.own (s.heap.objs.size+1))) (s.heap.objs.size+1) (.ins C s.heap.objs.size []))
  { s with heap:=(s.heap.push W.emptyDict).push (W.instObj C s.heap.objs.size) }:=by
 have e1:(s.heap.push W.emptyDict).get? s.heap.objs.size=some W.emptyDict:=Heap.get?_push_size s.heap rfl;have e2:((s.heap.push W.emptyDict).push (W.instObj C s.heap.objs.size)).get? (s.heap.objs.size+1)=some (W.instObj C s.heap.objs.size):=by
  have:=Heap.get?_push_size (s.heap.push W.emptyDict) (o:=W.instObj C s.heap.objs.size) rfl
  rwa [Heap.size_push] at this
 have e3:(s.heap.push W.emptyDict).Ns s.heap.objs.size (fun _=>none):=⟨W.emptyDict,#[],_,e1,rfl,(fun e he=>absurd he (by simp)),fun _=>rfl⟩
 have I1:=I.laid (a:=s.heap.objs.size) (o:=.own (s.heap.objs.size+1)) (h':=s.heap.push W.emptyDict) (t':=s.toks) (fun b u q=>Heap.get?_push_of_some _ q) (Nat.le_refl _) ⟨_,e1⟩;refine I1.laid (a:=s.heap.objs.size+1) (o:=.ins C s.heap.objs.size []) (t':=s.toks) (fun b u q=>Heap.get?_push_of_some _ q) (Nat.le_of_eq (Heap.size_push _ _)) ?_;have ne:s.heap.objs.size≠s.heap.objs.size+1:=Nat.ne_of_lt (Nat.lt_succ_self _);refine ⟨by rw [av ne,upd_same],Nat.zero_le _,ne,e2,fun _=>none,(Heap.Ns1.of_empty e3).at fun o q=>Heap.get?_push_of_some _ q,fun _=>True.intro,fun y hy=>absurd rfl hy⟩
theorem zF{prog:Program}{w:World}{env:Env}{e:Expr}{f:Str}{pos:Pos}{s:Shared}{Q:Value->Shared->Prop}(hb:attributeBase e f env (eval e env)=eval e env)
  (h:wpAny (model prog w) A (eval e env) (fun o s₁=>wpAny (model prog w) A (getAttr o f true) Q E s₁) E s):wpAny (model prog w) A (eval (.Attribute e f pos) env) Q E s:=
 Attribute_any_ h (by rw [arm_eval_Attribute,hb])
end
def tFld(K:W.Frag)(ta:TE)(f:Str):TE:=fun σ H Q=>ta σ H fun x H1=>∃a C dx fs v,x=.ref a/\H1 a=some (.ins C dx fs)/\Cls K C/\NoAttr K C f/\fs.lookup f=some v/\Q v H1
def sFld(K:W.Frag)(ta tv:TE)(f:Str):TS:=fun D σ H=>tv σ H fun y H1=>ta σ H1 fun x H2=>∃a C dx fs,x=.ref a/\H2 a=some (.ins C dx fs)/\Cls K C/\NoAttr K C f/\fs.length<1000/\
 D.nx σ (upd H2 a (.ins C dx (cj f y fs)))
def DP(X:Cx)(op:Operator)(rd:V->V->Hp->VK->Prop):Prop:=
 ∀(pins:List (Addr×Obj)) (s:Shared) (σ:St) (H:Hp) (x y:V) (u v:Value) (Q:VK),Inv X pins σ H s->RelV x u->RelV y v->rd x y H Q->wpAny (model X.prog X.w) X.A (inplaceOp op u v) (EP X pins σ Q) X.xe s
def AF(K:W.Frag)(ta tv:TE)(rd:V->V->Hp->VK->Prop)(f:Str):TS:=fun D σ H=>ta σ H fun x H1=>∃a C dx fs v,x=.ref a/\H1 a=some (.ins C dx fs)/\Cls K C/\NoAttr K C f/\fs.lookup f=some v/\
 tv σ H1 fun y H2=>rd v y H2 fun z H3=>∃dx' fs',H3 a=some (.ins C dx' fs')/\fs'.length<1000/\D.nx σ (upd H3 a (.ins C dx' (cj f z fs')))
section
variable {X:Cx}{o e value:Expr}{f:Str}{pos pos' tpos:Pos}{ta tv:TE}
theorem EZ(he:PE X e ta)(hb:attributeBase e f X.env (eval e X.env)=eval e X.env):PE X (.Attribute e f pos) (tFld X.K ta f):=by
 intro pins s σ H Q I h;refine zF hb (a_ (he pins s σ H _ I h) fun u s1 zz=>?_);obtain ⟨x,H1,I1,rx,a,C,dx,fs,v,ex,ea,c,n,l,q⟩:=zz;subst ex;obtain rfl:u=Value.ref a:=rx;exact jX I1 ea c n l fun u' s2 I2 ru=>⟨v,H1,I2,ru,q⟩
theorem DN(ha:PE X o ta)(hv:PE X value tv)(hs:swapsWith value (some (.Attribute o f pos')) pos.line X.env=pure false):PS X (.Assign [.Attribute o f pos'] value pos) (sFld X.K ta tv f):=by
 intro pins s σ H D I h;refine plainObj_wpAny_Assign_Attribute (a_ (hv pins s σ H _ I h) fun u s1 ⟨y,H1,I1,ry,q⟩=>a_ (ha pins s1 σ H1 _ I1 q) fun ov s2 zz=>?_) hs;obtain ⟨x,H2,I2,rx,a,C,dx,fs,ex,ea,c,n,l,q2⟩:=zz;subst ex;obtain rfl:ov=Value.ref a:=rx;exact jD I2 ea c n l ry fun s3 I3=>⟨σ,_,I3,q2⟩
theorem lq{op:Operator}{rd:V->V->Hp->VK->Prop}(ha:PE X o ta)(hv:PE X value tv)(hop:DP X op rd):PS X (.AugAssign (.Attribute o f tpos) op value pos) (AF X.K ta tv rd f):=by
 intro pins s σ H D I h;refine wpAny_AugAssign_AttributeAny (a_ (ha pins s σ H _ I h) fun ov s1 zz=>?_);obtain ⟨x,H1,I1,rx,a,C,dx,fs,v,ex,ea,c,n,l,q⟩:=zz;subst ex;obtain rfl:ov=Value.ref a:=rx;refine jX I1 ea c n l fun u s2 I2 ru=>a_ (hv pins s2 σ H1 _ I2 q) fun w3 s3 ⟨y,H2,I3,ry,q3⟩=>a_ (hop pins s3 σ H2 v y u w3 _ I3 ru ry q3) fun w4 s4 ⟨z,H3,I4,rz,dx',fs',ea',l',q4⟩=>?_;exact jD I4 ea' c n l' rz fun s5 I5=>⟨σ,_,I5,q4⟩
def rAdd:V->V->Hp->VK->Prop:=fun x y H Q=>∃i j,x=.int i/\y=.int j/\Q (.int (i+j)) H
def rSub:V->V->Hp->VK->Prop:=fun x y H Q=>∃i j,x=.int i/\y=.int j/\Q (.int (i-j)) H
theorem Dm:DP X .Add rAdd:=by
 rintro pins s σ H x y u v Q I rx ry ⟨i,j,rfl,rfl,q⟩
 obtain ⟨t,rfl⟩:=(show ∃t,u=Value.int i t from rx);obtain ⟨t',rfl⟩:=(show ∃t',v=Value.int j t' from ry);exact PyProof.Rows.iadd_int ⟨.int (i+j),H,I.tok _,⟨_,rfl⟩,q⟩
theorem Dv:DP X .Sub rSub:=by
 rintro pins s σ H x y u v Q I rx ry ⟨i,j,rfl,rfl,q⟩
 obtain ⟨t,rfl⟩:=(show ∃t,u=Value.int i t from rx);obtain ⟨t',rfl⟩:=(show ∃t',v=Value.int j t' from ry);exact PyProof.Rows.isub_int ⟨.int (i-j),H,I.tok _,⟨_,rfl⟩,q⟩
end
section
variable {X:Cx}{pins:List (Addr×Obj)}{σ:St}{H:Hp}{s:Shared}{A:Around}{E:Value->Shared->Prop}{Q:Value->Shared->Prop}{c:Value}{b:Bool}
inductive TyOf(K:W.Frag)(H:Hp):V->Value->Prop where
 |non:TyOf K H .non (.type "NoneType")
 |bl (x:Bool):TyOf K H (.bl x) (.type "bool")
 |int (i:Int):TyOf K H (.int i) (.type "int")
 |str (x:Str):TyOf K H (.str x) (.type "str")
 |flt (x:UInt64):TyOf K H (.flt x) (.type "float")
 |lst {a:Addr} {xs:List V} (e:H a=some (.lst xs)):TyOf K H (.ref a) (.type "list")
 |frz {a:Addr} {o:Obj} {xs:List V} (e:H a=some (.frz o (.lst xs))):TyOf K H (.ref a) (.type "list")
 |tup {a:Addr} {xs:List V} (e:H a=some (.tup xs)):TyOf K H (.ref a) (.type "tuple")
 |dK {a:Addr} {kvs:List (aw×V)} (e:H a=some (.dK kvs)):TyOf K H (.ref a) (.type "dict")
 |dT {a:Addr} {kvs:List (List aw×V)} (e:H a=some (.dT kvs)):TyOf K H (.ref a) (.type "dict")
 |ins {a C dx:Addr} {fs:List (Str×V)} (e:H a=some (.ins C dx fs)) (cl:Cls K C) (ha:W.findIn K (.ref C) "__class__"=some (some (.builtin "object.__class__")))
   (hn:W.specialIn K (.builtin "object.__class__") "__get__"=some (some (.builtin "getset_descriptor.__get__"))) (htk:W.takesIn K (.builtin "object.__class__")=some true)
   (hm:W.mroIn K C (.type "object")=some true):TyOf K H (.ref a) (.ref C)
theorem vY{x:V}{u t:Value}(I:Inv X pins σ H s)(rx:RelV x u)(ty:TyOf X.K H x t)(e:W.kitOne X.K t c=some b)(h:∀tk,Q (.bool b) { s with toks:=tk }):
  wpAny (model X.prog X.w) A (call (.builtin "isinstance") [u,c]) Q E s:=by
 cases ty with
 |non=>cases (show u=Value.none from rx);exact W.kia_one W.kitx_none I.kIn True.intro e (fun z=>nomatch z) h
 |bl y=>cases (show u=Value.bool y from rx);exact W.kia_one W.kitx_bool I.kIn True.intro e (fun z=>nomatch z) h
 |int i=>obtain ⟨t,q⟩:=(show ∃t,u=Value.int i t from rx);cases q;exact W.kia_one W.kitx_int I.kIn True.intro e (fun z=>nomatch z) h
 |str y=>obtain ⟨t,q⟩:=(show ∃t,u=Value.str y t from rx);cases q;exact W.kia_one W.kitx_str I.kIn True.intro e (fun z=>nomatch z) h
 |flt y=>obtain ⟨t,q⟩:=(show ∃t,u=Value.float y t from rx);cases q;exact W.kia_one W.kitx_float I.kIn True.intro e (fun z=>nomatch z) h
 |@lst a xs ea=>
  cases (show u=Value.ref a from rx);obtain ⟨_,_,n,_,h1⟩:=(show ObjOk X.prog X.w H s.heap a (.lst xs) from I.hok a _ ea);exact W.kia_one W.kitx_list I.kIn ⟨_,h1,rfl⟩ e (fun z=>nomatch z) h
 |@frz a ob xs ea=>
  cases (show u=Value.ref a from rx);obtain ⟨_,_,_,n,_,h1⟩:=(show ObjOk X.prog X.w H s.heap a (.frz ob (.lst xs)) from I.hok a _ ea);exact W.kia_one W.kitx_list I.kIn ⟨_,h1,rfl⟩ e (fun z=>nomatch z) h
 |@tup a xs ea=>
  cases (show u=Value.ref a from rx);obtain ⟨_,_,_,p⟩:=(show ObjOk X.prog X.w H s.heap a (.tup xs) from I.hok a _ ea);obtain ⟨o,h1,⟨h2,_⟩,_⟩:=p;exact W.kia_one W.kitx_tuple I.kIn ⟨o,h1,h2⟩ e (fun z=>nomatch z) h
 |@dK a kvs ea=>
  cases (show u=Value.ref a from rx);obtain ⟨_,_,vs,_,p⟩:=(show ObjOk X.prog X.w H s.heap a (.dK kvs) from I.hok a _ ea);obtain ⟨o,es,ep,h1,h2,_⟩:=p;exact W.kia_one W.kitx_dict I.kIn ⟨o,h1,h2.1⟩ e (fun z=>nomatch z) h
 |@dT a kvs ea=>
  cases (show u=Value.ref a from rx);obtain ⟨_,_,xs,_,o,es,ep,h1,h2,_⟩:=(show ObjOk X.prog X.w H s.heap a (.dT kvs) from I.hok a _ ea);exact W.kia_one W.kitx_dict I.kIn ⟨o,h1,h2.1⟩ e (fun z=>nomatch z) h
 |@ins a C dx fs ea cl ha hn htk hm=>
  cases (show u=Value.ref a from rx);obtain ⟨mA,O,_⟩:=iz I.hok ea;obtain ⟨od,J,_⟩:=O.look;exact W.kia_one (W.kitx_own (cl.get _) cl.hd ha hn htk hm) I.kIn J e (fun z=>nomatch z) h
end
end L2
namespace L2
open PySem PySem.Spec PyProof.Rows
structure Room(k:Nat)(A:Around):Prop where
 hd:A.handled=none
 dp:A.depth+3*k+5<recursionLimit
 un:A.units+16*k+200<cLine
 gd:A.guards=some []
theorem Room.mono{j k:Nat}{A:Around}(r:Room k A)(h:j<=k):Room j A:=⟨r.hd,by have:=r.dp;lia,by have:=r.un;lia,r.gd⟩
theorem Room.deeper{k:Nat}{A:Around}(r:Room (k+1) A)(env:Env):Room k (A.deeper env):=
 ⟨r.hd,by have:=r.dp;show A.depth+1+3*k+5<_;lia,by have:=r.un;show A.units+3+16*k+200<_;lia,r.gd⟩
theorem r8{A:Around}{C:Addr}{us:List Value}{kw:List (Str×Value)}:(A.under (.builtin "type.__call__" ⟨.ref C::us,kw⟩)).depth=A.depth+1:=by
 first|rfl|simp [Around.under,Code.weight,Code.isCreation,Code.isGuard,Code.isCaller,Code.frames,Code.isFrame,guardIds]
theorem qr{A:Around}{C:Addr}{us:List Value}{kw:List (Str×Value)}:(A.under (.builtin "type.__call__" ⟨.ref C::us,kw⟩)).units=A.units+1:=by
 first|rfl|simp [Around.under,Code.cUnits,Code.frames,Code.isFrame]
theorem on{A:Around}{C:Addr}{us:List Value}{kw:List (Str×Value)}:(A.under (.builtin "type.__call__" ⟨.ref C::us,kw⟩)).guards=A.guards:=by
 first|rfl|simp [Around.under,Code.guards,pushGuards,Code.isGuard,guardIds]
theorem Room.make{k:Nat}{A:Around}(r:Room (k+1) A)(C:Addr)(us:List Value)(kw:List (Str×Value)):Room k (A.under (.builtin "type.__call__" ⟨.ref C::us,kw⟩)):=
 ⟨r.hd,by have:=r.dp;rw [r8];lia,by have:=r.un;rw [qr];lia,by rw [on];exact r.gd⟩
theorem Room.depth{k:Nat}{A:Around}(r:Room k A):A.depth<recursionLimit:=by have:=r.dp;lia
theorem Room.units{k:Nat}{A:Around}(r:Room k A):A.units+64<cLine:=by have:=r.un;lia
def Gg:TA:=fun _ H Q=>Q [] H
def Hu(ta:TE)(tr:TA):TA:=fun σ H Q=>ta σ H fun x H1=>tr σ H1 fun xs H2=>Q (x::xs) H2
section
variable {X:Cx}{e:Expr}{es:List Expr}{te:TE}{t:TA}{pos:Pos}
theorem yF:PA X [] Gg:=fun _ _ _ _ H Q I h=>Calls.spliced_nil ⟨[],H,I,.nil,h⟩
theorem uW(ha:PE X e te)(hr:PA X es t)(hs:starEach (e::es) X.env=(false,eval e X.env)::starEach es X.env:=by rfl):PA X (e::es) (Hu te t):=by
 intro pos pins s σ H Q I h;rw [hs];show wpAny _ _ (spliced ((false,eval e X.env)::backTo pos (starEach es X.env))) _ _ s;refine Calls.spliced_cons (a_ (ha pins s σ H _ I h) fun u s1 ⟨x,H1,I1,r1,q1⟩=>?_);exact a_ (hr pos pins s1 σ H1 _ I1 q1) fun us s2 ⟨xs,H2,I2,r2,q2⟩=>⟨x::xs,H2,I2,.cons r1 r2,q2⟩
def tTup(t:TA):TE:=fun σ H Q=>t σ H fun xs H1=>xs.length<=sizeLine/\∀p,H1 p=none->Q (.ref p) (upd H1 p (.tup xs))
def tLst(t:TA):TE:=fun σ H Q=>t σ H fun xs H1=>xs.length<=sizeLine/\∀p,H1 p=none->Q (.ref p) (upd H1 p (.lst xs))
theorem EH{x1}(h:PA X es t):PE X (.Tuple es x1 pos) (tTup t):=by
 intro pins s σ H Q I hq;refine wpAny_Tuple_spliced (a_ (h pos pins s σ H _ I hq) fun us s1 ⟨xs,H1,I1,r,z,q⟩=>⟨by rw [<- r.length];exact z,?_⟩)
 have hf:H1 s1.heap.objs.size=none:=I1.hok.fresh (Nat.le_refl _);refine ⟨.ref s1.heap.objs.size,upd H1 s1.heap.objs.size (.tup xs),I1.laid (t':=s1.toks) (fun b u e=>Heap.get?_push_of_some _ e) (Nat.le_refl _) ?_,rfl,q _ hf⟩;exact ⟨z,us,r,⟨_,Heap.get?_push_size _ rfl,⟨rfl,_,rfl⟩,rfl⟩⟩
theorem Fu(h:PA X es t):PE X (.List es pos) (tLst t):=by
 intro pins s σ H Q I hq;refine wpAny_List_spliced (a_ (h pos pins s σ H _ I hq) fun us s1 ⟨xs,H1,I1,r,z,q⟩=>⟨by rw [<- r.length];exact z,?_⟩)
 have hf:H1 s1.heap.objs.size=none:=I1.hok.fresh (Nat.le_refl _);refine ⟨.ref s1.heap.objs.size,upd H1 s1.heap.objs.size (.lst xs),I1.laid (t':=s1.toks) (fun b u e=>Heap.get?_push_of_some _ e) (Nat.le_refl _) ?_,rfl,q _ hf⟩;exact ⟨z,us,0,r,Heap.get?_push_size _ rfl⟩
end
abbrev Sp:=List V->Hp->VK->XK->Prop
abbrev kF:=List Env->Hp->Shared->XK->Value->Shared->Prop
structure Env0(P:Program)(w:World)(K:W.Frag)(mg:Str->Option Value)(base:Heap)(A:Around)(outer:List Env)(s:Shared)(H:Hp):Prop where
 frames:A.frames=some outer
 mod:Mod K mg base
 bs:∀b o,base.get? b=some o->s.heap.get? b=some o/\H b=none
 bsz:base.objs.size<=s.heap.objs.size
 funs:s.heap.FunFrames base outer
 frf:∀b∈eU outer,H b=none
 hok:HOk P w H s.heap
 bare:AllBare s.gens
def CE(outer:List Env)(P:Program)(w:World)(H:Hp)(s:Shared)(Q:VK)(u:Value)(s':Shared):Prop:=
 ∃v H',s'.os=s.os/\AllBare s'.gens/\Un (eU outer) [] H H' s.heap s'.heap/\HOk P w H' s'.heap/\RelV v u/\Q v H'
def CR(CX:kF)(outer:List Env)(P:Program)(w:World)(H:Hp)(s:Shared)(Q:VK)(E:XK)(r:Result)(s':Shared):Prop:=
 match r with
 |.ok (.ret u)=>CE outer P w H s Q u s'
 |.ok _=>False
 |.error e=>CX outer H s E e s'
structure FnOk(P:Program)(w:World)(K:W.Frag)(mg:Str->Option Value)(base:Heap)(CX:kF)(k:Nat)(f:Addr)(fd:FuncData)(ps:List Str)(sp:Sp):Prop where
 len:∀vs H Q E,sp vs H Q E->vs.length=ps.length
 run:∀(A:Around) (outer:List Env) (s:Shared) (H:Hp) (args:Args) (us:List Value) (vs:List V) (Q:VK) (E:XK),Room k A->Env0 P w K mg base A outer s H->BindsTo s fd args (ps.zip us)->Vals vs us->sp vs H Q E->
  codeAny (model P w) A (.call (.ref f) args) (CR CX outer P w H s Q E) s
theorem FnOk.imp{P:Program}{w:World}{K:W.Frag}{mg:Str->Option Value}{base:Heap}{CX:kF}{k:Nat}{f:Addr}{fd:FuncData}{ps:List Str}{sp sp':Sp}(F:FnOk P w K mg base CX k f fd ps sp)
  (h:∀vs H Q E,sp' vs H Q E->sp vs H Q E):FnOk P w K mg base CX k f fd ps sp':=
 ⟨fun vs H Q E q=>F.len vs H Q E (h _ _ _ _ q),fun A outer s H args us vs Q E hr he hb hv hs=>F.run A outer s H args us vs Q E hr he hb hv (h _ _ _ _ hs)⟩
theorem Env0.make{P:Program}{w:World}{K:W.Frag}{mg:Str->Option Value}{base:Heap}{A:Around}{outer:List Env}{s:Shared}{H:Hp}(e:Env0 P w K mg base A outer s H)(C:Addr)(us:List Value)(kw:List (Str×Value)):
  Env0 P w K mg base (A.under (.builtin "type.__call__" ⟨.ref C::us,kw⟩)) outer s H:=⟨by first|exact e.frames|(simpa [Around.under,Code.envs,Code.isFrame,pushEnvs] using e.frames),e.mod,e.bs,e.bsz,e.funs,e.frf,e.hok,e.bare⟩
section
variable {X:Cx}{pins:List (Addr×Obj)}{σ:St}{H:Hp}{s s':Shared}
theorem Inv.env0(I:Inv X pins σ H s):Env0 X.prog X.w X.K X.mg X.base X.A X.stack s H:=
 ⟨I.ok.frames,I.ok.mod,I.bs,Nat.le_trans I.ok.bsz I.sz,I.stack,I.stkFree,I.hok,I.bare⟩
theorem Inv.after{Q:VK}{u:Value}(I:Inv X pins σ H s)(h:CE X.stack X.prog X.w H s Q u s'):EP X pins σ Q u s':=by
 obtain ⟨v,H',os,bare,un,hok,r,q⟩:=h;obtain ⟨hh,g,d,t,os'⟩:=s';obtain rfl:os'=s.os:=os;exact ⟨v,H',I.call (h':=hh) (g':=g) (d':=d) (t':=t) (ch:=[]) un hok bare (fun b z=>absurd z (by simp)),r,q⟩
end
def G3(sp:Sp)(dvs:List V)(E:XK)(t:TA):TE:=fun σ H Q=>t σ H fun vs H1=>sp (vs++dvs) H1 Q E
def Cz(C:Addr)(m:Str)(sp:Sp)(dvs:List V)(E:XK)(ta:TE)(t:TA):TE:=fun σ H Q=>ta σ H fun x H1=>∃a dx fs,x=.ref a/\H1 a=some (.ins C dx fs)/\fs.lookup m=none/\
 t σ H1 fun vs H2=>sp (x::(vs++dvs)) H2 Q E
def Gy(C:Addr)(sp:Sp)(dvs:List V)(E:XK)(t:TA):TE:=fun σ H Q=>t σ H fun vs H1=>∀x dx,H1 x=none->H1 dx=none->dx≠x->
 sp (.ref x::(vs++dvs)) (upd (upd H1 dx (.own x)) x (.ins C dx [])) (fun v H2=>v=.non/\Q (.ref x) H2) E
def Binds(K:W.Frag)(fd:FuncData)(ps:List Str)(ds:List Value):Prop:=
 ∀(s:Shared) (us:List Value),K.In s.heap->(us++ds).length=ps.length->BindsTo s fd ⟨us,[]⟩ (ps.zip (us++ds))
theorem Binds.all{K:W.Frag}{fd:FuncData}{ps:List Str}(h:∀us:List Value,us.length=ps.length->bindArgs fd ⟨us,[]⟩=pure (ps.zip us)):Binds K fd ps []:=fun s us _ hl=>by
 rw [List.append_nil] at hl ⊢;exact .of_eq (h us hl)
def br(CX:kF)(X:Cx)(E:XK):Prop:=∀(pins:List (Addr×Obj)) (σ:St) (H:Hp) (s:Shared) (e:Value) (s':Shared),Inv X pins σ H s->CX X.stack H s E e s'->X.xe e s'
section
variable {X:Cx}{CX:kF}{k:Nat}{f C:Addr}{fd:FuncData}{ps:List Str}{sp:Sp}{dvs:List V}{ds:List Value}{E:XK}{x m:Str}{p pos apos:Pos}{e o:Expr}{es:List Expr}{ta:TE}{t:TA}
theorem qg{pins:List (Addr×Obj)}{σ:St}{H:Hp}{s:Shared}{Q:VK}{us:List Value}{vs:List V}(F:FnOk X.prog X.w X.K X.mg X.base CX k f fd ps sp)(hr:Room k X.A)(hb:Binds X.K fd ps ds)(hd:Vals dvs ds)(hx:br CX X E)
  (I:Inv X pins σ H s) (r:Vals vs us) (h:sp (vs++dvs) H Q E):wpAny (model X.prog X.w) X.A (call (.ref f) us) (EP X pins σ Q) X.xe s:=by
 have r2:Vals (vs++dvs) (us++ds):=r.append hd;have hl:(us++ds).length=ps.length:=by rw [<- r2.length];exact F.len _ _ _ _ h
 refine wpAny_call (codeAny_mono (F.run X.A X.stack s H ⟨us,[]⟩ (us++ds) (vs++dvs) Q E hr I.env0 (hb s us I.kIn hl) r2 h) fun r s' hq=>?_);cases r with
 |error e=>exact hx pins σ H s e s' I hq
 |ok fl=>
  cases fl with
  |ret u=>exact I.after hq
  |next=>exact False.elim hq
  |brk=>exact False.elim hq
  |cont=>exact False.elim hq
theorem sO(F:FnOk X.prog X.w X.K X.mg X.base CX k f fd ps sp)(hr:Room k X.A)(hg:Gl X x)(hm:X.mg x=some (.ref f))(hk:W.keepIn X.K (.ref f)=true)(hb:Binds X.K fd ps ds)(hd:Vals dvs ds)(hx:br CX X E)
  (ha:PA X (e::es) t) (hdb:(x==("__debug__":Str))=false:=by decide) (he:starEach (e::es) X.env=(false,eval e X.env)::starEach es X.env:=by rfl) (hpl:(backTo pos (starEach es X.env)).any (·.1)=false:=by rfl):
  PE X (.Call (.Name x p) (e::es) [] pos) (G3 sp dvs E t):=by
 intro pins s σ H Q I h;refine wpAny_Call_Name_kw (fJ I hg hm ?_ hdb);refine W.callWith_K (h₀:=X.base) I.ok.mod.kin hk (a_ (ha pos pins s σ H _ I h) fun us s1 ⟨vs,H1,I1,r,q⟩=>⟨I1.kIn,?_⟩) he hpl;exact qg F hr hb hd hx I1 r q
theorem zS{pl:Sem Bool}(he:PE X o ta)(c:Cls X.K C)(hm:Meth X.K C m f)(F:FnOk X.prog X.w X.K X.mg X.base CX k f fd ps sp)(hr:Room k X.A)(hb:Binds X.K fd ps ds)(hd:Vals dvs ds)(hx:br CX X E)(ha:PA X (e::es) t)
  (hst:starEach (e::es) X.env=(false,eval e X.env)::starEach es X.env:=by rfl) (hpl:(backTo pos (starEach es X.env)).any (·.1)=false:=by rfl)
  (ht:eval (.Call (.Attribute o m apos) (e::es) [] pos) X.env=(do
   let ov <- eval o X.env
   standAt apos.atName
   let (f,first) <- holding [ov] (getMethod ov m pl)
   callWith pos f first (backTo pos (starEach (e::es) X.env)) (backToKw pos (keywordEach [] X.env))):=by rfl):
  PE X (.Call (.Attribute o m apos) (e::es) [] pos) (Cz C m sp dvs E ta t):=by
 intro pins s σ H Q I h;refine W.methodCall_KW (pl:=pl) (a_ (he pins s σ H _ I h) fun u s1 zz=>?_) ht;obtain ⟨x,H1,I1,rx,a,dx,fs,ex,ea,l,q⟩:=zz;subst ex;obtain rfl:u=Value.ref a:=rx;refine kq I1 ea c hm l ?_;refine W.callWith_K (first:=[.ref a]) (h₀:=X.base) I.ok.mod.kin hm.kp (a_ (ha pos pins s1 σ H1 _ I1 q) fun us s2 ⟨vs,H2,I2,r,q2⟩=>⟨I2.kIn,?_⟩) hst hpl
 exact qg (us:=.ref a::us) (vs:=.ref a::vs) F hr hb hd hx I2 (.cons rfl r) q2
theorem xr{pl:Sem Bool}(he:PE X o ta)(c:Cls X.K C)(hm:Meth X.K C m f)(F:FnOk X.prog X.w X.K X.mg X.base CX k f fd ps sp)(hr:Room k X.A)(hb:Binds X.K fd ps ds)(hd:Vals dvs ds)(hx:br CX X E)
  (ht:eval (.Call (.Attribute o m apos) [] [] pos) X.env=(do
   let ov <- eval o X.env
   standAt apos.atName
   let (f,first) <- holding [ov] (getMethod ov m pl)
   callWith pos f first (backTo pos (starEach [] X.env)) (backToKw pos (keywordEach [] X.env))):=by rfl):
  PE X (.Call (.Attribute o m apos) [] [] pos) (Cz C m sp dvs E ta Gg):=by
 intro pins s σ H Q I h;refine W.methodCall_KW (pl:=pl) (a_ (he pins s σ H _ I h) fun u s1 zz=>?_) ht;obtain ⟨x,H1,I1,rx,a,dx,fs,ex,ea,l,q⟩:=zz;subst ex;obtain rfl:u=Value.ref a:=rx;refine kq I1 ea c hm l ?_;exact W.callWith_K0 (first:=[.ref a]) I1.kIn hm.kp (qg (us:=[.ref a]) (vs:=[.ref a]) F hr hb hd hx I1 (.cons rfl .nil) q)
structure Mk(K:W.Frag)(C f:Addr):Prop where
 makes:W.makesIn K C=true
 init:W.findIn K (.ref C) "__init__"=some (some (.ref f))
 fn:W.isFn K (.ref f)=true
 kp:W.keepIn K (.ref C)=true
theorem zm{pins:List (Addr×Obj)}{σ:St}{H:Hp}{s:Shared}{Q:VK}{us:List Value}{vs:List V}(M:Mk X.K C f)(F:FnOk X.prog X.w X.K X.mg X.base CX k f fd ps sp)(hr:Room (k+1) X.A)(hb:Binds X.K fd ps ds)(hd:Vals dvs ds)
  (hx:br CX X E) (I:Inv X pins σ H s) (r:Vals vs us)
  (h:∀x dx,H x=none->H dx=none->dx≠x->sp (.ref x::(vs++dvs)) (upd (upd H dx (.own x)) x (.ins C dx [])) (fun v H2=>v=.non/\Q (.ref x) H2) E):
  wpAny (model X.prog X.w) X.A (call (.ref C) us) (EP X pins σ Q) X.xe s:=by
 have hq:=h (s.heap.objs.size+1) s.heap.objs.size (I.hok.fresh (Nat.le_succ _)) (I.hok.fresh (Nat.le_refl _)) (Nat.ne_of_lt (Nat.lt_succ_self _));have I2:=zo (C:=C) I;have r2:Vals (V.ref (s.heap.objs.size+1)::(vs++dvs)) (Value.ref (s.heap.objs.size+1)::(us++ds)):=.cons rfl (r.append hd);have hl:(Value.ref (s.heap.objs.size+1)::us++ds).length=ps.length:=by
  have e:=r2.length;rw [F.len _ _ _ _ hq] at e;exact e.symm
 refine wpAny_call (yU (f:=f) I.kIn M.makes M.init (beq_iff_eq.mp M.fn) (codeAny_mono (F.run _ X.stack _ _ ⟨Value.ref (s.heap.objs.size+1)::us,[]⟩ (Value.ref (s.heap.objs.size+1)::(us++ds)) _ _ E (hr.make C us [])
  (I2.env0.make C us []) (hb _ (Value.ref (s.heap.objs.size+1)::us) I2.kIn hl) r2 hq) fun r s' hq'=>?_))
 cases r with
 |error e=>exact hx pins σ _ _ e s' I2 hq'
 |ok fl=>
  cases fl with
  |ret u=>
   obtain ⟨v,H',I3,rv,ev,q3⟩:=I2.after hq';subst ev;exact ⟨rv,⟨V.ref (s.heap.objs.size+1),H',I3,rfl,q3⟩⟩
  |next=>exact False.elim hq'
  |brk=>exact False.elim hq'
  |cont=>exact False.elim hq'
theorem zB(M:Mk X.K C f)(F:FnOk X.prog X.w X.K X.mg X.base CX k f fd ps sp)(hr:Room (k+1) X.A)(hg:Gl X x)(hm:X.mg x=some (.ref C))(hb:Binds X.K fd ps ds)(hd:Vals dvs ds)(hx:br CX X E)
  (ha:PA X (e::es) t) (hdb:(x==("__debug__":Str))=false:=by decide) (he:starEach (e::es) X.env=(false,eval e X.env)::starEach es X.env:=by rfl) (hpl:(backTo pos (starEach es X.env)).any (·.1)=false:=by rfl):
  PE X (.Call (.Name x p) (e::es) [] pos) (Gy C sp dvs E t):=by
 intro pins s σ H Q I h;refine wpAny_Call_Name_kw (fJ I hg hm ?_ hdb);refine W.callWith_K (h₀:=X.base) I.ok.mod.kin M.kp (a_ (ha pos pins s σ H _ I h) fun us s1 ⟨vs,H1,I1,r,q⟩=>⟨I1.kIn,?_⟩) he hpl;exact zm M F hr hb hd hx I1 r q
end
section
variable {X:Cx}{CX:kF}{k:Nat}{f C:Addr}{fd:FuncData}{ps ks:List Str}{sp:Sp}{E:XK}{x m:Str}{p pos apos kpos:Pos}{e o:Expr}{es:List Expr}{kws:List Keyword}{te ta:TE}{t tk:TA}{nm:Option Str}
variable {g:List Value->List Value->List Value}{gV:List V->List V->List V}
end
structure FnScope(N P:List Str)(sc:Scope):Prop where
 kind:sc.kind=.function
 co:sc.isCoroutine=false
 gen:sc.isGenerator=false
 nd:N.Nodup
 pre:N.take P.length=P
 par:∀x∈P,sc.names.lookup x=some .local\/sc.names.lookup x=some .cell
 nofree:∀y∈sc.names,y.2≠.free
theorem kT{kindOf:Str->Option NameKind}{x:Str}:∀{binds:List (Str×Value)} {m:Str->Option Value},(∀v,(x,v)∉binds)->bindL kindOf binds m x=m x
 |[],_,_=>rfl
 |(n,v)::r,m,h=>by
  unfold bindL;rw [kT fun w hw=>h w (List.mem_cons_of_mem _ hw)]
  split
  ·have:x≠n:=by rintro rfl;exact h v List.mem_cons_self
   simp [this]
  ·rfl
theorem lx{kindOf:Str->Option NameKind}{x:Str}:∀{binds:List (Str×Value)} {m:Str->Option Value},(∀v,(x,v)∉binds)->bindC kindOf binds m x=m x
 |[],_,_=>rfl
 |(n,v)::r,m,h=>by
  unfold bindC;rw [lx fun w hw=>h w (List.mem_cons_of_mem _ hw)]
  split
  ·rfl
  ·have:x≠n:=by rintro rfl;exact h v List.mem_cons_self
   simp [this]
theorem lR{kindOf:Str->Option NameKind}{x:Str}{v:Value}:∀{P:List Str} {vs:List Value} {i:Nat} {m:Str->Option Value},P.Nodup->P[i]?=some x->vs[i]?=some v->kindOf x=some .local->
  bindL kindOf (P.zip vs) m x=some v
 |[],_,_,_,_,h,_,_=>by simp at h
 |_::_,[],_,_,_,_,h,_=>by simp at h
 |p::P,w::vs,0,m,nd,h1,h2,hk=>by
  simp at h1 h2;subst h1;subst h2;show bindL kindOf ((p,w)::P.zip vs) m p=_;unfold bindL;rw [kT fun v hv=>(List.nodup_cons.mp nd).1 (List.of_mem_zip hv).1,if_pos hk];simp
 |p::P,w::vs,i+1,m,nd,h1,h2,hk=>by
  show bindL kindOf ((p,w)::P.zip vs) m x=_;unfold bindL;exact lR (i:=i) (List.nodup_cons.mp nd).2 (by simpa using h1) (by simpa using h2) hk
theorem lG{kindOf:Str->Option NameKind}{x:Str}{v:Value}:∀{P:List Str} {vs:List Value} {i:Nat} {m:Str->Option Value},P.Nodup->P[i]?=some x->vs[i]?=some v->kindOf x≠some .local->
  bindC kindOf (P.zip vs) m x=some v
 |[],_,_,_,_,h,_,_=>by simp at h
 |_::_,[],_,_,_,_,h,_=>by simp at h
 |p::P,w::vs,0,m,nd,h1,h2,hk=>by
  simp at h1 h2;subst h1;subst h2;show bindC kindOf ((p,w)::P.zip vs) m p=_;unfold bindC;rw [lx fun v hv=>(List.nodup_cons.mp nd).1 (List.of_mem_zip hv).1,if_neg hk];simp
 |p::P,w::vs,i+1,m,nd,h1,h2,hk=>by
  show bindC kindOf ((p,w)::P.zip vs) m x=_;unfold bindC;exact lG (i:=i) (List.nodup_cons.mp nd).2 (by simpa using h1) (by simpa using h2) hk
def start(N:List Str)(vs:List V):St:=vs.map some++List.replicate (N.length-vs.length) none
def cF(CX:kF)(P:Program)(w:World)(K:W.Frag)(mg:Str->Option Value)(base:Heap)(N:List Str)(qual:Str)(scope:Scope)(f:Addr)(cd:Value)(A:Around)(outer:List Env)(s:Shared)(H:Hp)(E:XK):Cx where
 prog:=P
 w:=w
 K:=K
 mg:=mg
 base:=base
 A:=A.deeper (envOfC qual scope s.heap.objs.size f cd)
 N:=N
 s₀:=s
 H₀:=H
 env:=envOfC qual scope s.heap.objs.size f cd
 outer:=outer
 stack:=envOfC qual scope s.heap.objs.size f cd::outer
 ex:=[]
 calm:=true
 fn:=fun _=>true
 pn:=[]
 xe:=fun e s'=>wpAny (model P w) (A.deeper (envOfC qual scope s.heap.objs.size f cd)) (leaving (envOfC qual scope s.heap.objs.size f cd) e) (fun _ s''=>CX outer H s E e s'') (fun e' s''=>CX outer H s E e' s'') s'
theorem pw{sc:Scope}{n:Nat}{x:Str}(h:sc.names.lookup x=some .cell):∃c,(cellsFrom n sc.names []).lookup x=some c:=by
 have q:=W.cellsFrom_some sc.names n [] (.inl h);exact Option.isSome_iff_exists.mp q
theorem vj{CX:kF}{P:Program}{w:World}{K:W.Frag}{mg:Str->Option Value}{base:Heap}{N ps:List Str}{qual:Str}{scope:Scope}{f:Addr}{cd:Value}{A:Around}{outer:List Env}{s s1:Shared}{H:Hp}{E:XK}{us:List Value}{vs:List V}
  (S:FnScope N ps scope) (hd:A.handled=none) (e0:Env0 P w K mg base A outer s H) (hl:vs.length=ps.length) (r:Vals vs us)
  (x:InCallC s s.heap.objs.size (bindL (envOfC qual scope s.heap.objs.size f cd).kindOf (ps.zip us) fun _=>none) (cellsFrom (s.heap.objs.size+1) scope.names []) (bindC (envOfC qual scope s.heap.objs.size f cd).kindOf (ps.zip us) fun _=>none) s1):
  Inv (cF CX P w K mg base N qual scope f cd A outer s H E) [] (start N vs) H s1:=by
 have hpl:ps.length<=N.length:=by have:=congrArg List.length S.pre;rw [List.length_take] at this;lia
 obtain ⟨h1,tk,rfl,hk⟩:=x.done;have noA:∀b:Addr,b∉(cF CX P w K mg base N qual scope f cd A outer s H E).ex:=fun b z=>absurd (show b∈([]:List Addr) from z) (by simp)
 refine ⟨⟨e0.mod,S.kind,rfl,rfl,Nat.le_refl _,fun y z c h1 h2=>?_,fun y hy=>?_,fun y c _ h=>?_,fun _=>hd,Around.frames_deeper e0.frames,.inr ⟨rfl,rfl⟩,fun b z=>absurd z (noA b),e0.bs,e0.bsz,fun b _ _=>noA b,fun b z=>absurd z (noA b),e0.funs,e0.frf⟩,
  rfl,e0.bare,Un.kept hk,⟨_,x.toInCall.ns,fun i y v h1 h2 h3=>?_⟩,fun y c h=>⟨_,x.cell y c h⟩,e0.hok.fresh (Nat.le_refl _),fun y c h=>?_,fun p hp=>absurd (show p∈([]:List (Addr×Obj)) from hp) (by simp),e0.hok.kept hk,?_⟩
 ·exact name_of_addr x.apart (PySem.mem_of_lookup h1) (PySem.mem_of_lookup h2)
 ·have hy:scope.names.lookup y=some .cell\/scope.names.lookup y=some .free:=hy
  rcases hy with hy|hy
  ·exact pw hy
  ·exact absurd rfl (S.nofree _ (PySem.mem_of_lookup hy))
 ·exact Nat.le_of_lt (x.above y c (PySem.mem_of_lookup h))
 ·have hi:i<vs.length:=by
   unfold start at h2
   by_cases hi:i<vs.length
   ·exact hi
   ·rw [List.getElem?_append_right (by simpa using hi)] at h2
    rw [List.getElem?_replicate] at h2
    split at h2<;>cases h2
  have ha:vs[i]?=some v:=by
   unfold start at h2;rw [List.getElem?_append_left (by simpa using hi),List.getElem?_map] at h2
   cases e:vs[i]? with
   |none=>rw [e] at h2;cases h2
   |some a=>rw [e] at h2;cases h2;rfl
  obtain ⟨u,hu,rv⟩:=r.get ha;have hp:ps[i]?=some y:=by
   rw [<- S.pre,List.getElem?_take_of_lt (by lia)];exact h1
  have ndP:ps.Nodup:=by rw [<- S.pre];exact S.nd.sublist (List.take_sublist _ _)
  refine ⟨u,rv,?_⟩;rcases S.par y (List.mem_of_getElem? hp) with k|k
  ·exact .inl ⟨k,lR ndP hp hu k⟩
  ·obtain ⟨c,e⟩:=pw (n:=s.heap.objs.size+1) k
   refine .inr ⟨.inl k,c,e,?_⟩;have q:=x.cell y c e;rw [lG ndP hp hu (by show scope.names.lookup y≠_;rw [k];decide)] at q
   exact q
 ·exact e0.hok.fresh (Nat.le_of_lt (x.above y c (PySem.mem_of_lookup h)))
 ·unfold start
  show _=N.length;rw [List.length_append,List.length_map,List.length_replicate];lia
theorem CK{CX:kF}{P:Program}{w:World}{K:W.Frag}{mg:Str->Option Value}{base:Heap}{k:Nat}{f:Addr}{name qual:Str}{params:Arguments}{body:List Stmt}{scope:Scope}{dV kV doc pm cdv ct oc:Value}{an od:Option Addr}
  {osl:Array (Option Value)} {N ps:List Str} {sp:Sp} (lk:K.lookup f=some ⟨oc,od,.func (W.fnOf name qual params body scope dV kV doc pm an cdv ct),osl⟩) (hcd:W.codeIn K cdv qual=true) (S:FnScope N ps scope)
  (len:∀vs H Q E,sp vs H Q E->vs.length=ps.length)
  (hbody:∀(A:Around) (outer:List Env) (s:Shared) (H:Hp) (vs:List V) (Q:VK) (E:XK),Room k (A.deeper (envOfC qual scope s.heap.objs.size f cdv))->sp vs H Q E->
   ∃t,sg (cF CX P w K mg base N qual scope f cdv A outer s H E) body t/\t { nx:=fun _ H'=>Q .non H',rt:=Q } (start N vs) H):
  FnOk P w K mg base CX (k+1) f (W.fnOf name qual params body scope dV kV doc pm an cdv ct) ps sp:=by
 refine ⟨len,fun A outer s H args us vs Q E hr e0 hb r hsp=>?_⟩;have hl:=len _ _ _ _ hsp;have KX:K.In s.heap:=e0.mod.kin.keeps fun b o e=>(e0.bs b o e).1;have lim:s.heap.NoLimit:=e0.mod.nolimit.keeps fun b o e=>(e0.bs b o e).1;have hkind:∀y∈ps.zip us,scope.names.lookup y.1=some .local\/(scope.names.lookup y.1=some .cell/\((cellsFrom (s.heap.objs.size+1) scope.names []).lookup y.1).isSome=true):=fun ⟨n,v⟩ hy=>by
  rcases S.par n (List.of_mem_zip hy).1 with q|q
  ·exact .inl q
  ·exact .inr ⟨q,W.cellsFrom_some _ _ _ (.inl q)⟩
 refine codeAny_call_function hr.depth (KX _ _ lk) rfl S.co S.gen rfl (W.codeRec_of KX hcd) (hb _ _ _ _ ?_);refine wpAny_newFunctionEnv_cells S.kind hkind fun env he s1 x=>?_;subst he;refine ⟨lim.keeps x.toInCall.keep,codeAny_func ?_⟩;obtain ⟨t,ht,hq⟩:=hbody A outer s H vs Q E (hr.deeper _) hsp;have I:Inv (cF CX P w K mg base N qual scope f cdv A outer s H E) [] (start N vs) H s1:=vj S hr.hd e0 hl r x;refine wpAny_mono (ht [] s1 (start N vs) H _ I hq) (fun fl s' hs=>?_) fun e s' hs=>hs;have fin:∀{σ':St} {H':Hp} {v:V} {u:Value},Inv (cF CX P w K mg base N qual scope f cdv A outer s H E) [] σ' H' s'->RelV v u->Q v H'->CE outer P w H s Q u s':=
  fun {σ' H' v u} J rv q=>⟨v,H',J.os,J.bare,J.base,J.hok,rv,q⟩
 cases fl with
 |ret u=>
  obtain ⟨v,σ',H',J,rv,q⟩:=hs;exact fin J rv q
 |next=>
  obtain ⟨σ',H',J,q⟩:=hs;exact fin (v:=V.non) (u:=Value.none) J rfl q
 |brk=>
  obtain ⟨_,_,_,q⟩:=hs;exact False.elim q
 |cont=>
  obtain ⟨_,_,_,q⟩:=hs;exact False.elim q
end L2
namespace L2
open PySem PySem.Spec PyProof.Rows
section
variable {X:Cx}{x:Str}{p pos:Pos}{e:Expr}{es:List Expr}{t:TA}{id T:String}{r:List V->Hp->VK->Prop}
def tCB(r:List V->Hp->VK->Prop)(t:TA):TE:=fun σ H Q=>t σ H fun vs H1=>r vs H1 Q
theorem wC(hc:bI X (.builtin id) r)(hg:Gl X x)(hm:X.mg x=none)(hv:bootBuiltins x=some (.builtin id))(ha:PA X (e::es) t)(hn:x≠"__name__":=by decide)(hdb:(x==("__debug__":Str))=false:=by decide)
  (he:starEach (e::es) X.env=(false,eval e X.env)::starEach es X.env:=by rfl) (hpl:(backTo pos (starEach es X.env)).any (·.1)=false:=by rfl):PE X (.Call (.Name x p) (e::es) [] pos) (tCB r t):=by
 intro pins s σ H Q I h;refine wpAny_Call_Name_kw (cA I hg hm hv ?_ hn hdb);exact PyProof.Rows.callWith_builtin1 (a_ (ha pos pins s σ H _ I h) fun us s1 ⟨vs,H1,I1,r1,q1⟩=>hc pins s1 σ H1 vs us Q I1 r1 q1) he hpl
theorem vg(hc:bI X (.type T) r)(hg:Gl X x)(hm:X.mg x=none)(hv:bootBuiltins x=some (.type T))(ha:PA X (e::es) t)(hn:x≠"__name__":=by decide)(hdb:(x==("__debug__":Str))=false:=by decide)
  (he:starEach (e::es) X.env=(false,eval e X.env)::starEach es X.env:=by rfl) (hpl:(backTo pos (starEach es X.env)).any (·.1)=false:=by rfl):PE X (.Call (.Name x p) (e::es) [] pos) (tCB r t):=by
 intro pins s σ H Q I h;refine wpAny_Call_Name_kw (cA I hg hm hv ?_ hn hdb);exact PyProof.Rows.callWith_type1 (a_ (ha pos pins s σ H _ I h) fun us s1 ⟨vs,H1,I1,r1,q1⟩=>hc pins s1 σ H1 vs us Q I1 r1 q1) he hpl
end
end L2
namespace HT
open PySem PyProof.Rows
section
open PySem.SeqAt
open PySem.AutoSeq1 (wpAny_loadPart')
open PySem.MeetsSeq PySem.MeetsSeq2 PySem.MeetsSeq3
end
section
variable {prog:Program}{w:World}{A:Around}{E:Value->Shared->Prop}{s:Shared}
theorem Ah{t b:Addr}{vs ws:List Value}{Q:Value->Shared->Prop}(ht:IsTup s.heap t vs.toArray)(hb:IsTup s.heap b ws.toArray)(hv:vs≠[])
  (h1:ws=[]->Q (.ref t) s) (h2:ws≠[]->Q (.ref s.heap.objs.size) { s with heap:=s.heap.push { cls:=.type "tuple",data:=.seq (vs++ws).toArray } })
  (hsz:vs.length+ws.length<=sizeLine):wpAny (model prog w) A (binaryOp .Add (.ref t) (.ref b)) Q E s:=by
 obtain ⟨⟨cls,dd,data,sl⟩,ho,hc,n,hd⟩:=id ht;obtain ⟨⟨cls2,dd2,data2,sl2⟩,ho2,hc2,n2,hd2⟩:=id hb;simp only at hc hd hc2 hd2;subst hc hd hc2 hd2;have e:vs.toArray++ws.toArray=(vs++ws).toArray:=by simp
 by_cases hw:ws=[]
 ·exact concat_meets ⟨_,ho,rfl⟩ ⟨_,ho2,rfl⟩ noFill_tuple_add seq_tuple_add PySem.F.slot_tuple_add PySem.F.entry_tuple_add (PySem.F.args_tuple_add_2 _ _)
   (tuple_addW1 t b vs.toArray ws.toArray n n2 dd dd2 sl sl2 (by simpa using hv) (by simp [hw])) ⟨ho,ho2,h1 hw⟩
 ·refine concat_meets ⟨_,ho,rfl⟩ ⟨_,ho2,rfl⟩ noFill_tuple_add seq_tuple_add PySem.F.slot_tuple_add PySem.F.entry_tuple_add (PySem.F.args_tuple_add_2 _ _)
   (tuple_addW2 t b vs.toArray ws.toArray n n2 dd dd2 sl sl2 (by simpa using hv) (by simpa using hw) (by rw [List.size_toArray,List.size_toArray];exact hsz)) ⟨ho,ho2,?_⟩
  rw [e];exact h2 hw
def sIx(n d:Nat):Option Int->Nat
 |none=>d
 |some v=>if v<0 then (v+(n:Int)).toNat else min v.toNat n
theorem wV(n d:Nat):sIx n d none=d:=rfl
theorem A1(n d k:Nat):sIx n d (some (k:Int))=min k n:=by
 show (if (k:Int)<0 then ((k:Int)+(n:Int)).toNat else min (k:Int).toNat n)=min k n
 rw [if_neg (by lia),Int.toNat_natCast]
theorem F6(n d:Nat)(hd:d<=n)(o:Option Int):sIx n d o<=n:=by
 cases o with
 |none=>exact hd
 |some v=>
  show (if v<0 then (v+(n:Int)).toNat else min v.toNat n)<=n
  by_cases hv:v<0
  ·rw [if_pos hv];lia
  ·rw [if_neg hv];exact Nat.min_le_right _ _
theorem sx(v:Int)(n d:Nat):(if v<0 then max (v+(n:Int)) 0 else min v (n:Int))=((sIx n d (some v):Nat):Int):=by
 show (if v<0 then max (v+(n:Int)) 0 else min v (n:Int))=(((if v<0 then (v+(n:Int)).toNat else min v.toNat n):Nat):Int)
 by_cases hv:v<0
 ·simp only [if_pos hv];lia
 ·simp only [if_neg hv];lia
theorem pT(lo hi:Option Int)(n:Nat):Builtin.Slice.sliceAdjust lo hi 1 (n:Int)=(((sIx n 0 lo:Nat):Int),((sIx n n hi:Nat):Int)):=by
 have h1:¬((1:Int)<0):=by lia
 unfold Builtin.Slice.sliceAdjust;simp only [h1,if_false];refine Prod.ext ?_ ?_
 ·cases lo with
  |none=>rfl
  |some v=>exact sx v n 0
 ·cases hi with
  |none=>rfl
  |some v=>exact sx v n n
theorem rb(i j:Nat):Builtin.Slice.slicePlaces (i:Int) (j:Int) 1=j-i:=by
 unfold Builtin.Slice.slicePlaces;have h1:(1:Int)>0:=by lia
 simp only [h1,if_true,Int.ediv_one]
 split<;>lia
theorem jK{v:Value}{o:Option Int}{Q:Option Int->Shared->Prop}(p:IsPart v o)(h:Q o s):wpAny (model prog w) A (Builtin.Slice.slicePartIndex v) Q E s:=by
 cases p with
 |none=>exact slicePart_none h
 |int i t=>exact slicePart_int h
theorem c_{sl:Addr}{vl vu:Value}{lo hi:Option Int}{n:Nat}{Q:Int×Int×Nat->Shared->Prop}(hs:s.heap.IsSliceOf sl vl vu .none)(pl:IsPart vl lo)(pu:IsPart vu hi)
  (h:Q (((sIx n 0 lo:Nat):Int),1,sIx n n hi-sIx n 0 lo) s):wpAny (model prog w) A (Builtin.Slice.sliceApplied (.ref sl) (pure (n:Int))) Q E s:=by
 obtain ⟨os,hos,hcs,hds⟩:=id hs;unfold Builtin.Slice.sliceApplied Builtin.Slice.sliceFields;refine wpAny_bind (wpAny_bind (wpAny_field hos hds (x:=vl) rfl (wpAny_bind (wpAny_field hos hds (x:=vu) rfl (wpAny_bind (wpAny_field hos hds (x:=.none) rfl (wpAny_pure ?_)))))));refine wpAny_bind (slicePart_none ?_);show wpAny _ _ (if ((1:Int)==0)=true then _ else _) _ _ s
 rw [if_neg (by decide)]
 refine wpAny_bind (jK pl (wpAny_bind (jK pu (wpAny_bind (wpAny_pure ?_)))));show wpAny _ _ (match Builtin.Slice.sliceAdjust lo hi 1 (n:Int) with|(lo,hi)=>pure (lo,(1:Int),Builtin.Slice.slicePlaces lo hi 1)) _ _ s
 rw [pT lo hi n];show wpAny _ _ (pure (((sIx n 0 lo:Nat):Int),(1:Int),Builtin.Slice.slicePlaces ((sIx n 0 lo:Nat):Int) ((sIx n n hi:Nat):Int) 1)) _ _ s;rw [rb];exact wpAny_pure h
theorem xI(xs:Array Value)(i k:Nat):((List.range k).filterMap fun (m:Nat)=>xs[((i:Int)+(m:Int)*1).toNat]?).toArray=((xs.toList.drop i).take k).toArray:=by
 have e:(fun (m:Nat)=>xs[((i:Int)+(m:Int)*1).toNat]?)=fun m=>xs[i+m]?:=by
  funext m;have:((i:Int)+(m:Int)*1).toNat=i+m:=by lia
  rw [this]
 rw [e];have:=pick_run xs i k;rw [List.filterMap_map] at this;have e2:((fun x=>xs[x]?) ∘ fun x=>i+x)=fun m=>xs[i+m]?:=rfl;rw [e2] at this;rw [this]
theorem gc{t sl:Addr}{items:Array Value}{vl vu:Value}{lo hi:Option Int}{Q:Value->Shared->Prop}(ht:IsTup s.heap t items)(hs:s.heap.IsSliceOf sl vl vu .none)(pl:IsPart vl lo)(pu:IsPart vu hi)
  (hw:¬(sIx items.size 0 lo=0/\sIx items.size items.size hi=items.size))
  (h:Q (.ref s.heap.objs.size) { s with heap:=s.heap.push { cls:=.type "tuple",data:=.seq ((items.toList.drop (sIx items.size 0 lo)).take (sIx items.size items.size hi-sIx items.size 0 lo)).toArray } })
  (hsz:items.size<=sizeLine):wpAny (model prog w) A (getItem (.ref t) (.ref sl)) Q E s:=by
 have htake:sizeOk (.seq ((items.toList.drop (sIx items.size 0 lo)).take (sIx items.size items.size hi-sIx items.size 0 lo)).toArray):=by
  show ((items.toList.drop (sIx items.size 0 lo)).take (sIx items.size items.size hi-sIx items.size 0 lo)).toArray.size<=sizeLine;rw [List.size_toArray,List.length_take,List.length_drop,Array.length_toList];lia
 have hj:sIx items.size items.size hi<=items.size:=F6 _ _ (Nat.le_refl _) hi;obtain ⟨os,hos,hcs,hds⟩:=id hs;have hTs:s.TypeIs (.ref sl) "slice":=⟨os,hos,hcs⟩;unfold getItem
 try with_reducible refine wpAny_holding ?_
 first|refine wpAny_bind (wpAny_pure ?_)|skip
 refine wpAny_bind (wpAny_sequenceKey ht.typeIs (by decide) ?_)
 refine wpAny_bind (wpAny_callSpecial?_slot (name:=Str.ofString "__getitem__") ht.typeIs PyProof.Rows.slot_tuple_getitem
  (wpAny_call_entry PyProof.Rows.slot_tuple_getitem ht.typeIs entry_tuple_getitem ?_ (args_tuple_getitem _ _)))
 show wpAny _ _ (Builtin.Tuple.tupleItemsOf (.ref t) >>= _) _ _ s;refine wpAny_bind (tupleItemsOf_ ht ?_);refine wpAny_bind (wpAny_typeOf hTs ?_);rw [if_pos (by decide)]
 refine wpAny_bind (c_ hs pl pu ?_);have hno:¬((((sIx items.size 0 lo:Nat):Int)==0&&(1:Int)==1&&(sIx items.size items.size hi-sIx items.size 0 lo)==items.size)=true):=by
  intro q;rw [Bool.and_eq_true,Bool.and_eq_true] at q;have q1:((sIx items.size 0 lo:Nat):Int)=0:=eq_of_beq q.1.1;have q2:sIx items.size items.size hi-sIx items.size 0 lo=items.size:=eq_of_beq q.2;exact hw ⟨by lia,by lia⟩
 show wpAny _ _ (if (((sIx items.size 0 lo:Nat):Int)==0&&(1:Int)==1&&(sIx items.size items.size hi-sIx items.size 0 lo)==items.size)=true then _ else _) _ _ s
 rw [if_neg hno,xI]
 first
  |exact wpAny_bind (m:=Builtin.Tuple.tupleExact _) (wpAny_newObj_type (wpAny_pure ⟨_,rfl,wpAny_pure h⟩) htake)
  |exact wpAny_bind (m:=Builtin.Tuple.tupleExact _) (wpAny_newObj_type (wpAny_bind (wpAny_pure (wpAny_pure ⟨_,rfl,wpAny_pure h⟩))) htake)
  |exact wpAny_bind (wpAny_bind (m:=Builtin.Tuple.tupleExact _) (wpAny_newObj_type (wpAny_pure (wpAny_pure ⟨_,rfl,wpAny_pure h⟩)) htake))
  |exact wpAny_bind (wpAny_bind (m:=Builtin.Tuple.tupleExact _) (wpAny_newObj_type (wpAny_pure ⟨_,rfl,wpAny_pure h⟩) htake))
end
end HT
namespace L2
open PySem PySem.Spec PyProof.Rows
abbrev TO:=St->Hp->(Option Int->Hp->Prop)->Prop
def PO(X:Cx)(e:Option Expr)(t:TO):Prop:=
 ∀(pins:List (Addr×Obj)) (s:Shared) (σ:St) (H:Hp) (Q:Option Int->Hp->Prop),Inv X pins σ H s->t σ H Q->
  wpAny (model X.prog X.w) X.A (evalPart e X.env) (fun u s'=>∃o H',Inv X pins σ H' s'/\IsPart u o/\Q o H') X.xe s
def Bn:TO:=fun _ H Q=>Q none H
def Hg(t:TE):TO:=fun σ H Q=>t σ H fun x H1=>∃i,x=.int i/\Q (some i) H1
section
variable {X:Cx}{e:Expr}{te:TE}{lo hi:Option Expr}{tl th:TO}{pos p2:Pos}
theorem Ba:PO X none Bn:=by
 intro pins s σ H Q I h;rw [evalPart_none];exact wpAny_pure ⟨none,H,I,.none,h⟩
theorem Av(h:PE X e te):PO X (some e) (Hg te):=by
 intro pins s σ H Q I hw;rw [evalPart_some];refine a_ (h pins s σ H _ I hw) fun u s1 ⟨x,H1,I1,r1,q1⟩=>?_;obtain ⟨i,rfl,q⟩:=q1;obtain ⟨t,rfl⟩:=r1;exact ⟨some i,H1,I1,.int i t,q⟩
def HQ(X:Cx)(r:V->Option Int->Option Int->Hp->VK->Prop):Prop:=
 ∀(pins:List (Addr×Obj)) (s:Shared) (σ:St) (H:Hp) (x:V) (v vl vu:Value) (lo hi:Option Int) (sl:Addr) (Q:VK),Inv X pins σ H s->RelV x v->s.heap.IsSliceOf sl vl vu .none->IsPart vl lo->IsPart vu hi->r x lo hi H Q->
  ∃T id,typeLookup (.type T) "__getitem__"=pure (some (.builtin id))/\s.TypeIs v T/\wpAny (model X.prog X.w) X.A (getItem v (.ref sl)) (EP X pins σ Q) X.xe s
def tSl(r:V->Option Int->Option Int->Hp->VK->Prop)(te:TE)(tl th:TO):TE:=fun σ H Q=>te σ H fun x H1=>tl σ H1 fun l H2=>th σ H2 fun u H3=>r x l u H3 Q
theorem xf{r:V->Option Int->Option Int->Hp->VK->Prop}(hr:HQ X r)(he:PE X e te)(hl:PO X lo tl)(hu:PO X hi th):PE X (.Subscript e (.Slice lo hi none p2) pos) (tSl r te tl th):=by
 intro pins s σ H Q I h;refine Subscript_ (a_ (he pins s σ H _ I h) fun v s1 ⟨x,H1,I1,r1,q1⟩=>?_);refine wpAny_Slice (a_ (hl pins s1 σ H1 _ I1 q1) fun vl s2 ⟨l,H2,I2,pl,q2⟩=>a_ (hu pins s2 σ H2 _ I2 q2) fun vu s3 ⟨u,H3,I3,pu,q3⟩=>?_);rw [evalPart_none];refine wpAny_pure ?_;have I4:Inv X pins σ H3 { s3 with heap:=s3.heap.push { cls:=.type "slice",data:=.fields #[vl,vu,.none] } }:=I3.kept (t':=s3.toks) fun b ob q=>Heap.get?_push_of_some _ q;obtain ⟨T,id,hT,ht,hg⟩:=hr pins { s3 with heap:=s3.heap.push { cls:=.type "slice",data:=.fields #[vl,vu,.none] } } σ H3 x v vl vu l u s3.heap.objs.size Q I4 r1 (Heap.IsSliceOf.new ..) pl pu q3;show wpAny (model X.prog X.w) X.A (subscriptTail e (.Slice lo hi none p2) v (.ref s3.heap.objs.size)) (EP X pins σ Q) X.xe { s3 with heap:=s3.heap.push { cls:=.type "slice",data:=.fields #[vl,vu,.none] } };exact tail_any (ops:=[.ref s3.heap.objs.size,v]) ht hT hg (by with_unfolding_all rfl)
def iu(xs:List V)(lo hi:Option Int):List V:=(xs.drop (HT.sIx xs.length 0 lo)).take (HT.sIx xs.length xs.length hi-HT.sIx xs.length 0 lo)
theorem gY(xs:List V)(lo hi:Option Int):(iu xs lo hi).length<=xs.length:=by
 unfold iu;rw [List.length_take,List.length_drop];lia
def rSlT(K:W.Frag):V->Option Int->Option Int->Hp->VK->Prop:=fun x lo hi H Q=>∃a xs,x=.ref a/\fE K H a xs/\
 ¬(HT.sIx xs.length 0 lo=0/\HT.sIx xs.length xs.length hi=xs.length)/\∀p,H p=none->Q (.ref p) (upd H p (.tup (iu xs lo hi)))
theorem Et:HQ X (rSlT X.K):=by
 intro pins s σ H x v vl vu lo hi sl Q I rx hs pl pu h;obtain ⟨a,xs,rfl,hx,hw,q⟩:=h;cases rx;obtain ⟨its,r,ht,hz⟩:=I.tuple hx;have hlen:its.toArray.size=xs.length:=by rw [List.size_toArray];exact r.length.symm
 refine ⟨"tuple",_,PyProof.Rows.slot_tuple_getitem.lookup,ht.typeIs,?_⟩;refine HT.gc ht hs pl pu (by rw [hlen];exact hw) ?_ (by rw [hlen];exact hz)
 rw [hlen];refine ⟨.ref s.heap.objs.size,_,I.laid (t':=s.toks) (o:=.tup (iu xs lo hi)) (fun b ob q=>Heap.get?_push_of_some _ q) (Nat.le_refl _) ?_,rfl,q _ (I.hok.fresh (Nat.le_refl _))⟩;exact ⟨Nat.le_trans (gY xs lo hi) hz,_,(r.drop (HT.sIx xs.length 0 lo)).take (HT.sIx xs.length xs.length hi-HT.sIx xs.length 0 lo),⟨_,Heap.get?_push_size _ rfl,⟨rfl,_,rfl⟩,rfl⟩⟩
def HH(K:W.Frag):R2:=fun x y H Q=>∃a b xs ys,x=.ref a/\y=.ref b/\fE K H a xs/\fE K H b ys/\xs≠[]/\xs.length+ys.length<=sizeLine/\
 (ys=[]->Q (.ref a) H)/\(ys≠[]->∀p,H p=none->Q (.ref p) (upd H p (.tup (xs++ys))))
theorem Vals.nil_iff{xs:List V}{us:List Value}(r:Vals xs us):us=[]↔xs=[]:=by
 cases r with
 |nil=>simp
 |cons _ _=>simp
theorem A2:bU X (binaryOp .Add) (HH X.K):=by
 intro pins s σ H x y v u Q I rx ry h;obtain ⟨a,b,xs,ys,rfl,rfl,ha,hb,hx,hz,q1,q2⟩:=h;cases rx;cases ry;obtain ⟨its,r1,p1,_⟩:=I.tuple ha;obtain ⟨its2,r2,p2,_⟩:=I.tuple hb;refine HT.Ah p1 p2 (fun z=>hx (r1.nil_iff.mp z)) (fun z=>⟨.ref a,H,I,rfl,q1 (r2.nil_iff.mp z)⟩) (fun z=>?_) (by rw [<- r1.length,<- r2.length];exact hz)
 refine ⟨.ref s.heap.objs.size,_,I.laid (t':=s.toks) (o:=.tup (xs++ys)) (fun b ob q=>Heap.get?_push_of_some _ q) (Nat.le_refl _) ?_,rfl,q2 (fun w=>z (r2.nil_iff.mpr w)) _ (I.hok.fresh (Nat.le_refl _))⟩;exact ⟨by rw [List.length_append];exact hz,_,r1.append r2,⟨_,Heap.get?_push_size _ rfl,⟨rfl,_,rfl⟩,rfl⟩⟩
end
end L2
namespace L2
open PySem PySem.Spec PyProof.Rows
def nP(n:Nat)(i:Int):Option Nat:=if 0<=i then (if i<n then some i.toNat else none) else if -(n:Int)<=i then some (i+n).toNat else none
def atI{α:Type}(xs:List α)(i:Int):Option α:=(nP xs.length i).bind fun j=>xs[j]?
theorem mO{n:Nat}{i:Int}{j:Nat}(h:nP n i=some j):seqIndex? i n=some j/\j<n/\-(n:Int)<=i/\i<n:=by
 unfold nP at h
 by_cases h0:0<=i
 ·rw [if_pos h0] at h
  by_cases h1:i<n
  ·rw [if_pos h1] at h
   have e:i.toNat=j:=Option.some.inj h;exact ⟨by rw [seqIndex_of h0 h1,e],by lia,by lia,h1⟩
  ·rw [if_neg h1] at h;cases h
 ·rw [if_neg h0] at h
  by_cases h1:-(n:Int)<=i
  ·rw [if_pos h1] at h
   have e:(i+n).toNat=j:=Option.some.inj h;exact ⟨by rw [seqIndex_neg (by lia) h1,e],by lia,h1,by lia⟩
  ·rw [if_neg h1] at h;cases h
theorem m5{α:Type}{xs:List α}{i:Int}{v:α}(h:atI xs i=some v):∃j,seqIndex? i xs.length=some j/\xs[j]?=some v/\j<xs.length/\-(xs.length:Int)<=i/\i<xs.length:=by
 unfold atI at h;cases e:nP xs.length i with
 |none=>rw [e] at h;cases h
 |some j=>
  rw [e] at h;obtain ⟨h1,h2,h3,h4⟩:=mO e;exact ⟨j,h1,h,h2,h3,h4⟩
def sj(b:Expr):Prop:=∀o i,subscripted b false o i=operate [o,i] (getItem o i)
def IxR(X:Cx)(r:R2):Prop:=
 ∀(value slice:Expr) (pins:List (Addr×Obj)) (s:Shared) (σ:St) (H:Hp) (x y:V) (v u:Value) (Q:VK),Inv X pins σ H s->RelV x v->RelV y u->r x y H Q->
  subscripted slice false v u=operate [v,u] (getItem v u)->wpAny (model X.prog X.w) X.A (subscriptTail value slice v u) (EP X pins σ Q) X.xe s
def tY(X:Cx)(id:String)(r:V->List V->Hp->VK->Prop):Prop:=
 ∀(pins:List (Addr×Obj)) (s:Shared) (σ:St) (H:Hp) (x:V) (xs:List V) (v:Value) (us:List Value) (Q:VK),Inv X pins σ H s->RelV x v->Vals xs us->r x xs H Q->
  wpAny (model X.prog X.w) X.A (call (.builtin id) (v::us)) (EP X pins σ Q) X.xe s
section
variable {X:Cx}{a b:Expr}{ta tb:TE}{pos:Pos}
theorem IxR.or{r r':R2}(h:IxR X r)(h':IxR X r'):IxR X (fun x y H Q=>r x y H Q\/r' x y H Q):=by
 intro value slice pins s σ H x y v u Q I rx ry q hs;rcases q with q|q
 ·exact h value slice pins s σ H x y v u Q I rx ry q hs
 ·exact h' value slice pins s σ H x y v u Q I rx ry q hs
theorem H_{r:R2}(hr:IxR X r)(ha:PE X a ta)(hb:PE X b tb)(hs:sj b):PE X (.Subscript a b pos) (Im r ta tb):=by
 intro pins s σ H Q I h;exact Subscript_ (EF ha hb I h fun v u s2 x y H2 I2 rx ry q=>hr a b pins s2 σ H2 x y v u Q I2 rx ry q (hs _ _))
def GG(K:W.Frag):R2:=fun x y H Q=>∃p xs i v,x=.ref p/\y=.int i/\SqL K H p xs/\atI xs i=some v/\Q v H
def G5(K:W.Frag):R2:=fun x y H Q=>∃p xs i v,x=.ref p/\y=.int i/\fE K H p xs/\atI xs i=some v/\Q v H
def Ge:R2:=fun x y H Q=>∃z i c,x=.str z/\y=.int i/\z.length<=sizeLine/\atI z.cps.toList i=some c/\Q (.str ⟨#[c]⟩) H
theorem ix_list:IxR X (GG X.K):=by
 intro value slice pins s σ H x y v u Q I rx ry h hs;obtain ⟨p,xs,i,z,rfl,rfl,hq,he,q⟩:=h;cases rx;obtain ⟨t,rfl⟩:=ry;obtain ⟨its,r,pl,hz⟩:=I.list hq;obtain ⟨j,h1,h2,h3,h4,h5⟩:=m5 he;obtain ⟨w,ew,rw'⟩:=r.get h2;have hl:=r.length;have hn:=em;have fin:EP X pins σ Q w s:=⟨z,H,I,rw',q⟩
 by_cases h0:0<=i
 ·have hj:i.toNat=j:=by
   rw [seqIndex_of h0 h5] at h1;exact Option.some.inj h1
  exact item_listR pl.isList h0 (by lia) (by rw [hj];simpa using ew) fin hs
 ·have hj:(i+(its.toArray.size:Int)).toNat=j:=by
   rw [seqIndex_neg (by lia) h4] at h1
   rw [List.size_toArray,<- hl];exact Option.some.inj h1
  exact subscriptTail_builtinR (x:=w) pl.isList.typeIs slot_list_getitem.lookup
   (wpAny_getItem_list_neg (Q:=fun r s'=>r=w/\EP X pins σ Q r s') pl.isList (by lia) (by rw [List.size_toArray]<;>lia) (by lia) (by rw [hj];simpa using ew) ⟨rfl,fin⟩) hs
theorem ix_tup:IxR X (G5 X.K):=by
 intro value slice pins s σ H x y v u Q I rx ry h hs;obtain ⟨p,xs,i,z,rfl,rfl,hq,he,q⟩:=h;cases rx;obtain ⟨t,rfl⟩:=ry;obtain ⟨its,r,pl,hz⟩:=I.tuple hq;obtain ⟨j,h1,h2,h3,h4,h5⟩:=m5 he;obtain ⟨w,ew,rw'⟩:=r.get h2;have hl:=r.length;have hn:=em;have fin:EP X pins σ Q w s:=⟨z,H,I,rw',q⟩
 exact subscriptTail_builtinR (x:=w) pl.typeIs slot_tuple_getitem.lookup
  (getItem_tuple (j:=j) (Q:=fun r s'=>r=w/\EP X pins σ Q r s') pl (by lia) (by lia) (by rw [List.size_toArray,<- hl];exact h1) (by simpa using ew) ⟨rfl,fin⟩) hs
theorem zd:IxR X Ge:=by
 intro value slice pins s σ H x y v u Q I rx ry h hs;obtain ⟨z,i,c,rfl,rfl,hz,he,q⟩:=h;obtain ⟨t,rfl⟩:=rx;obtain ⟨t',rfl⟩:=ry;obtain ⟨j,h1,h2,h3,h4,h5⟩:=m5 he;have hl:z.cps.toList.length=z.length:=by simp [Str.length]
 rw [hl] at h1 h4 h5;have hn:=em;exact tail_any (typeIs_str s z t) slot_str_getitem.lookup (getItem_str (c:=c) (by
  have e1:decide (i < -(2 ^ 63:Int))=false:=decide_eq_false (by lia)
  have e2:decide (i>=2 ^ 63)=false:=decide_eq_false (by lia)
  rw [e1,e2,Bool.or_false]) (by rw [h1];simpa using h2) ⟨.str ⟨#[c]⟩,H,I.tok _,⟨_,rfl⟩,q⟩) hs
def rIx(K:W.Frag):R2:=fun x y H Q=>GG K x y H Q\/G5 K x y H Q\/Ge x y H Q
theorem EL:IxR X (rIx X.K):=ix_list.or (ix_tup.or zd)
theorem rB(its:List Value)(n j:Nat)(u:Value):Obj.mapSeq (·.setIfInBounds j u) { cls:=.type "list",data:=.seq its.toArray n }={ cls:=.type "list",data:=.seq (its.set j u).toArray n }:=by
 simp [Obj.mapSeq]
theorem Inv.lst{pins:List (Addr×Obj)}{σ:St}{H:Hp}{s:Shared}{p:Addr}{xs:List V}(I:Inv X pins σ H s)(h:H p=some (.lst xs)):
  ∃(its:List Value) (n:Nat),Vals xs its/\s.heap.get? p=some { cls:=.type "list",data:=.seq its.toArray n }/\xs.length<=sizeLine:=by
 obtain ⟨z,its,n,r,e⟩:=I.hok p _ h;exact ⟨its,n,r,e,z⟩
theorem Inv.lstUpd{pins:List (Addr×Obj)}{σ:St}{H:Hp}{s:Shared}{p:Addr}{xs ys:List V}{its its':List Value}{n n':Nat}{f:Obj->Obj}(I:Inv X pins σ H s)(h:H p=some (.lst xs))
  (ho:s.heap.get? p=some { cls:=.type "list",data:=.seq its.toArray n }) (hf:f { cls:=.type "list",data:=.seq its.toArray n }={ cls:=.type "list",data:=.seq its'.toArray n' }) (r:Vals ys its') (hz:ys.length<=sizeLine) (t:Nat):
  Inv X pins σ (upd H p (.lst ys)) { s with heap:=s.heap.update p f,toks:=t }:=by
 have e:(s.heap.update p f).get? p=some { cls:=.type "list",data:=.seq its'.toArray n' }:=by
  rw [Heap.get?_update_self f ho (by rw [hf]<;>rfl),hf]
 refine I.write (x:=p) (e:=p) (by rw [h];trivial) (.inl rfl) (fun b u hb q=>(Heap.get?_update_other _ _ (Ne.symm hb)).trans q) ⟨_,e⟩ ?_
 exact ⟨hz,its',n',r,e⟩
def Gh:V->V->V->Hp->(Hp->Prop)->Prop:=fun o i v H Q=>∃p xs k j,o=.ref p/\i=.int k/\H p=some (.lst xs)/\nP xs.length k=some j/\Q (upd H p (.lst (xs.set j v)))
theorem yY:Ak X Gh:=by
 intro pins s σ H o i v ov iv u Q I ro ri rv h;obtain ⟨p,xs,k,j,rfl,rfl,hp,hj,q⟩:=h;cases ro;obtain ⟨t,rfl⟩:=ri;obtain ⟨its,n,r,ho,hz⟩:=I.lst hp;obtain ⟨h1,h2,h3,h4⟩:=mO hj;have hl:=r.length;have hn:=em;have I':Inv X pins σ (upd H p (.lst (xs.set j v))) { s with heap:=s.heap.update p (Obj.mapSeq (·.setIfInBounds j u)) }:=
  I.lstUpd hp ho (rB its n j u) (r.set rv j) (by rw [List.length_set];exact hz) s.toks
 by_cases h0:0<=k
 ·have hk:k.toNat=j:=by
   rw [seqIndex_of h0 h4] at h1;exact Option.some.inj h1
  exact W.ki_setAt ho h0 (by lia) (by rw [List.size_toArray,<- hl];exact h4) (by rw [hk];exact ⟨_,I',q⟩)
 ·have hk:(k+(its.toArray.size:Int)).toNat=j:=by
   rw [seqIndex_neg (by lia) h3] at h1
   rw [List.size_toArray,<- hl];exact Option.some.inj h1
  exact W.ki_setBack ho (by lia) (by rw [List.size_toArray,<- hl];exact h3) (by lia) (by rw [hk];exact ⟨_,I',q⟩)
theorem m3(lo hi:Option Int)(n:Nat):(sliceBounds lo hi none n).1=((HT.sIx n 0 lo:Nat):Int)/\(sliceBounds lo hi none n).2.1=((HT.sIx n n hi:Nat):Int)/\(sliceBounds lo hi none n).2.2=1:=by
 refine ⟨?_,?_,rfl⟩
 ·cases lo with
  |none=>simp [sliceBounds,HT.sIx]
  |some i=>
   simp only [sliceBounds,HT.sIx,Option.getD_none,show (1:Int)>0 by decide,if_true]
   by_cases h:i<0
   ·simp only [h,if_true]<;>lia
   ·simp only [h,if_false]<;>lia
 ·cases hi with
  |none=>simp [sliceBounds,HT.sIx]
  |some i=>
   simp only [sliceBounds,HT.sIx,Option.getD_none,show (1:Int)>0 by decide,if_true]
   by_cases h:i<0
   ·simp only [h,if_true]<;>lia
   ·simp only [h,if_false]<;>lia
theorem kI(its:List Value)(lo hi:Option Int):slicePick its.toArray lo hi none=((its.drop (HT.sIx its.length 0 lo)).take (HT.sIx its.length its.length hi-HT.sIx its.length 0 lo)).toArray:=by
 obtain ⟨h1,h2,h3⟩:=m3 lo hi its.toArray.size;unfold slicePick;rw [h1,h2,h3];simp only [sliceRange_one,pick_run,List.size_toArray]<;>rfl
def rSlL(K:W.Frag):V->Option Int->Option Int->Hp->VK->Prop:=fun x lo hi H Q=>∃a xs,x=.ref a/\SqL K H a xs/\∀p,H p=none->Q (.ref p) (upd H p (.lst (iu xs lo hi)))
theorem tz:HQ X (rSlL X.K):=by
 intro pins s σ H x v vl vu lo hi sl Q I rx hs pl pu h;obtain ⟨a,xs,rfl,hx,q⟩:=h;cases rx;obtain ⟨its,r,ht,hz⟩:=I.list hx;have hlen:=r.length;refine ⟨"list",_,slot_list_getitem.lookup,ht.isList.typeIs,?_⟩;refine wpAny_getItem_list_slice ht.isList hs pl pu .none (by simp) ?_ (by rw [List.size_toArray]<;>lia)
 rw [kI,<- hlen];refine ⟨.ref s.heap.objs.size,_,I.laid (t':=s.toks) (o:=.lst (iu xs lo hi)) (fun b ob q=>Heap.get?_push_of_some _ q) (Nat.le_refl _) ?_,rfl,q _ (I.hok.fresh (Nat.le_refl _))⟩;exact ⟨Nat.le_trans (gY xs lo hi) hz,_,0,(r.drop (HT.sIx xs.length 0 lo)).take (HT.sIx xs.length xs.length hi-HT.sIx xs.length 0 lo),Heap.get?_push_size _ rfl⟩
def wO:V->Bool
 |.non=>true
 |.bl _=>true
 |.int _=>true
 |.str _=>true
 |_=>false
def nR:V->V->Bool
 |.non,.non=>true
 |.bl a,.bl b=>a==b
 |.bl a,.int b=>(if a then 1 else 0)==b
 |.int a,.bl b=>a==(if b then 1 else 0)
 |.int a,.int b=>a==b
 |.str a,.str b=>a==b
 |_,_=>false
theorem w_{A:Around}{s:Shared}{y x:V}{u v:Value}(ry:RelV y u)(rx:RelV x v)(fy:wO y=true)(fx:wO x=true):SeqAt.EqAt A s u v (nR y x):=by
 cases y with
 |non=>
  cases ry;cases x with
  |non=>cases rx;exact SeqAt.EqAt.same _
  |bl b=>cases rx;exact SeqAt.EqAt.none_bool b
  |int b=>obtain ⟨t,rfl⟩:=rx;exact SeqAt.EqAt.none_int b t
  |str b=>obtain ⟨t,rfl⟩:=rx;exact SeqAt.EqAt.none_str b t
  |_=>exact absurd (show false=true from fx) Bool.false_ne_true
 |bl a=>
  cases ry;cases x with
  |non=>cases rx;exact SeqAt.EqAt.bool_none a
  |bl b=>cases rx;exact SeqAt.EqAt.bool_bool a b
  |int b=>obtain ⟨t,rfl⟩:=rx;exact SeqAt.EqAt.bool_int a b t
  |str b=>obtain ⟨t,rfl⟩:=rx;exact SeqAt.EqAt.bool_str a b t
  |_=>exact absurd (show false=true from fx) Bool.false_ne_true
 |int a=>
  obtain ⟨t',rfl⟩:=ry;cases x with
  |non=>cases rx;exact SeqAt.EqAt.int_none a t'
  |bl b=>cases rx;exact SeqAt.EqAt.int_bool a t' b
  |int b=>obtain ⟨t,rfl⟩:=rx;exact SeqAt.EqAt.int_int a t' b t
  |str b=>obtain ⟨t,rfl⟩:=rx;exact SeqAt.EqAt.int_str a t' b t
  |_=>exact absurd (show false=true from fx) Bool.false_ne_true
 |str a=>
  obtain ⟨t',rfl⟩:=ry;cases x with
  |non=>cases rx;exact SeqAt.EqAt.str_none a t'
  |bl b=>cases rx;exact SeqAt.EqAt.str_bool a t' b
  |int b=>obtain ⟨t,rfl⟩:=rx;exact SeqAt.EqAt.str_int a t' b t
  |str b=>obtain ⟨t,rfl⟩:=rx;exact SeqAt.EqAt.str_str a t' b t
  |_=>exact absurd (show false=true from fx) Bool.false_ne_true
 |_=>exact absurd (show false=true from fy) Bool.false_ne_true
theorem mI:bI X (.builtin "len") (fun xs H Q=>∃p ys,xs=[.ref p]/\(SqL X.K H p ys\/fE X.K H p ys)/\Q (.int ys.length) H):=by
 intro pins s σ H xs us Q I r h;obtain ⟨p,ys,rfl,hq,q⟩:=h;obtain ⟨u,rfl,rx⟩:=jV r;cases rx;have hn:=em;rcases hq with hq|hq
 ·obtain ⟨its,r',pl,hz⟩:=I.list hq
  have hlen:=r'.length;exact Calls.call_len_list pl.isList (by simp only [List.size_toArray]<;>lia) ⟨.int ys.length,H,I.tok _,⟨s.toks+1,by rw [List.size_toArray,hlen]⟩,q⟩
 ·obtain ⟨its,r',pl,hz⟩:=I.tuple hq
  have hlen:=r'.length;exact len_tuple pl (by simp only [List.size_toArray]<;>lia) ⟨.int ys.length,H,I.tok _,⟨s.toks+1,by rw [List.size_toArray,hlen]⟩,q⟩
theorem mS:bI X (.builtin "len") (fun xs H Q=>∃z,xs=[.str z]/\z.length<=sizeLine/\Q (.int z.length) H):=by
 intro pins s σ H xs us Q I r h;obtain ⟨z,rfl,hz,q⟩:=h;obtain ⟨u,rfl,t,rfl⟩:=jV r;have hn:=em;exact len_str (by lia) ⟨.int z.length,H,I.tok _,⟨_,rfl⟩,q⟩
theorem nr:bI X (.type "list") (fun xs H Q=>∃p ys,xs=[.ref p]/\(SqL X.K H p ys\/fE X.K H p ys)/\∀l,H l=none->Q (.ref l) (upd H l (.lst ys))):=by
 intro pins s σ H xs us Q I r h;obtain ⟨p,ys,rfl,hq,q⟩:=h;obtain ⟨u,rfl,rx⟩:=jV r;cases rx
 have fin:∀(its:List Value),Vals ys its->ys.length<=sizeLine->∀(h':Heap) (c':Nat),(∀b o',s.heap.get? b=some o'->h'.get? b=some o')->
   h'.get? s.heap.objs.size=some { cls:=.type "list",dict:=none,data:=.seq its.toArray c',slots:=#[] }->EP X pins σ Q (.ref s.heap.objs.size) { s with heap:=h' }:=fun its r' hz h' c' kp e=>
  ⟨.ref s.heap.objs.size,_,I.laid (t':=s.toks) kp (Nat.le_refl _) (show ObjOk X.prog X.w _ h' _ (.lst ys) from ⟨hz,its,c',r',e⟩),rfl,q _ (I.hok.fresh (Nat.le_refl _))⟩
 rcases hq with hq|hq
 ·obtain ⟨its,r',pl,hz⟩:=I.list hq
  have hlen:=r'.length;obtain ⟨o,ho,hc,n,hd⟩:=pl.isList;exact call_list_seq p (.inl rfl) ho hc hd (fun h' c' kp e=>fin its r' hz h' c' kp e) (by simp only [List.size_toArray]<;>lia)
 ·obtain ⟨its,r',pl,hz⟩:=I.tuple hq
  have hlen:=r'.length;obtain ⟨o,ho,hc,n,hd⟩:=pl;exact call_list_seq p (.inr rfl) ho hc hd (fun h' c' kp e=>fin its r' hz h' c' kp e) (by simp only [List.size_toArray]<;>lia)
theorem fc:bI X (.type "tuple") (fun xs H Q=>∃p ys,xs=[.ref p]/\((SqL X.K H p ys/\∀l,H l=none->Q (.ref l) (upd H l (.tup ys)))\/(fE X.K H p ys/\Q (.ref p) H))):=by
 intro pins s σ H xs us Q I r h;obtain ⟨p,ys,rfl,h⟩:=h;obtain ⟨u,rfl,rx⟩:=jV r;cases rx;rcases h with ⟨hq,q⟩|⟨hq,q⟩
 ·obtain ⟨its,r',pl,hz⟩:=I.list hq
  have hlen:=r'.length;refine call_tuple_list pl.isList (fun h' kp=>?_) (by simp only [List.size_toArray]<;>lia)
  have I1:Inv X pins σ H { s with heap:=h' }:=I.kept (t':=s.toks) kp;have I2:Inv X pins σ (upd H h'.objs.size (.tup ys)) { s with heap:=h'.push { cls:=.type "tuple",data:=.seq its.toArray } }:=
   I1.laid (t':=s.toks) (fun b o e=>Heap.get?_push_of_some _ e) (Nat.le_refl _) (show ObjOk X.prog X.w _ _ _ (.tup ys) from ⟨hz,its,r',⟨_,Heap.get?_push_size _ rfl,⟨rfl,_,rfl⟩,rfl⟩⟩)
  exact ⟨.ref h'.objs.size,_,I2,rfl,q _ (I1.hok.fresh (Nat.le_refl _))⟩
 ·obtain ⟨its,r',pl,hz⟩:=I.tuple hq
  exact call_tuple_same pl ⟨.ref p,H,I,rfl,q⟩
def tyV(K:W.Frag)(T:String)(x:V)(H:Hp):Prop:=match x with
 |.str _=>T="str"
 |.int _=>T="int"
 |.ref p=>(T="list"/\∃xs,SqL K H p xs)\/(T="tuple"/\∃o,K.lookup p=some o/\o.cls=.type "tuple"/\o.dict=none)\/
   (T="dict"/\((∃kvs,H p=some (.dK kvs))\/∃kvs,H p=some (.dT kvs)))\/(T="set"/\∃S n,H p=some (.set S n))
 |_=>False
theorem xD{pins:List (Addr×Obj)}{σ:St}{H:Hp}{s:Shared}{T:String}{x:V}{v:Value}(I:Inv X pins σ H s)(r:RelV x v)(ty:tyV X.K T x H):
  s.TypeIs v T/\∀a,v=.ref a->∃ob,s.heap.get? a=some ob/\ob.dict=none:=by
 cases x with
 |str z=>
  obtain ⟨t,rfl⟩:=r;cases (show T="str" from ty);exact ⟨typeIs_str s z t,fun _ e=>nomatch e⟩
 |int i=>
  obtain ⟨t,rfl⟩:=r;cases (show T="int" from ty);exact ⟨typeIs_int s i t,fun _ e=>nomatch e⟩
 |ref p=>
  cases r;rcases ty with ⟨rfl,xs,hq⟩|⟨rfl,o,hk,hc,hd⟩|⟨rfl,hk⟩|⟨rfl,S,n,hk⟩
  ·obtain ⟨its,_,pl,_⟩:=I.list hq
   refine ⟨pl.isList.typeIs,fun a e=>?_⟩;cases e;obtain ⟨o,n,e,c,hd,_⟩:=pl;exact ⟨o,e,hd⟩
  ·refine ⟨⟨o,I.kIn p o hk,hc⟩,fun a e=>?_⟩
   cases e;exact ⟨o,I.kIn _ o hk,hd⟩
  ·have z:∃o,s.heap.get? p=some o/\o.ExactDict:=by
    rcases hk with ⟨kvs,hk⟩|⟨kvs,hk⟩
    ·obtain ⟨_,_,_,_,o,_,_,e,ex,_⟩:=I.hok p _ hk
     exact ⟨o,e,ex⟩
    ·obtain ⟨_,_,_,_,o,_,_,e,ex,_⟩:=I.hok p _ hk
     exact ⟨o,e,ex⟩
   obtain ⟨o,e,ex⟩:=z;refine ⟨⟨o,e,ex.1⟩,fun a e2=>?_⟩;cases e2;exact ⟨o,e,ex.2.1⟩
  ·obtain ⟨o,_,_,_,e,ex,_⟩:=I.hok p _ hk
   refine ⟨⟨o,e,ex.1⟩,fun a e2=>?_⟩;cases e2;exact ⟨o,e,ex.2.1⟩
 |_=>exact False.elim ty
def tBM0(K:W.Frag)(T:String)(r:V->List V->Hp->VK->Prop)(to:TE):TE:=fun σ H Q=>to σ H fun x H1=>tyV K T x H1/\r x [] H1 Q
def tBM(K:W.Frag)(T:String)(r:V->List V->Hp->VK->Prop)(to:TE)(t:TA):TE:=fun σ H Q=>to σ H fun x H1=>tyV K T x H1/\t σ H1 fun xs H2=>r x xs H2 Q
variable {o e:Expr}{es:List Expr}{to:TE}{t:TA}{name:Str}{apos cpos:Pos}{T id:String}{r:V->List V->Hp->VK->Prop}
theorem EC(pa:PlainAttrs T)(slot:Slot T name id)(hty:typeOf (.builtin id)=pure (.type "method_descriptor"))(hm:tY X id r)(ho:PE X o to)
  (hbase:attributeBase o name X.env (eval o X.env)=eval o X.env:=by rfl) (hline:(apos.endLine==cpos.line)=true:=by rfl):PE X (.Call (.Attribute o name apos) [] [] cpos) (tBM0 X.K T r to):=by
 intro pins s σ H Q I h;refine wpAny_Call_method0_late hbase hline (a_ (ho pins s σ H _ I h) fun v s1 ⟨x,H1,I1,r1,ty,q1⟩=>?_);obtain ⟨h1,h2⟩:=xD I1 r1 ty;exact ⟨T,id,pa,slot,hty,h1,h2,Calls.callWith_builtin rfl (PySem.evalArgs_none (hm pins s1 σ H1 x [] v [] Q I1 r1 .nil q1))⟩
theorem GD(pa:PlainAttrs T)(slot:Slot T name id)(hty:typeOf (.builtin id)=pure (.type "method_descriptor"))(hm:tY X id r)(ho:PE X o to)(ha:PA X (e::es) t)
  (hbase:attributeBase o name X.env (eval o X.env)=eval o X.env:=by rfl)
  (hfew:((backTo cpos (starEach (e::es) X.env)).all (fun x=>!x.1)&&(backToKw cpos (keywordEach [] X.env)).all (fun x=>x.1.isSome)
   && decide ((e::es).length+([]:List Keyword).length+(if ([]:List Keyword).isEmpty then 0 else 1)<30))=true:=by rfl)
  (hline:(apos.endLine==cpos.line)=true:=by rfl) (hs:starEach (e::es) X.env=(false,eval e X.env)::starEach es X.env:=by rfl) (hplain:(backTo cpos (starEach es X.env)).any (·.1)=false:=by rfl):
  PE X (.Call (.Attribute o name apos) (e::es) [] cpos) (tBM X.K T r to t):=by
 intro pins s σ H Q I h;refine wpAny_Call_method_late hbase hfew hline rfl (a_ (ho pins s σ H _ I h) fun v s1 ⟨x,H1,I1,r1,ty,q1⟩=>?_);obtain ⟨h1,h2⟩:=xD I1 r1 ty;refine ⟨T,id,pa,slot,hty,h1,h2,?_⟩;have hA:=ha cpos pins s1 σ H1 _ I1 q1;rw [hs] at hA ⊢;refine Calls.callWith_builtin (by show (false||(backTo cpos (starEach es X.env)).any (·.1))=false;rw [hplain]<;>rfl) (Calls.evalArgs_plain ?_)
 exact a_ hA fun us s2 ⟨vs,H2,I2,r2,q2⟩=>hm pins s2 σ H2 x vs v us Q I2 r1 r2 q2
end
end L2
namespace L2
open PySem PySem.Spec PyProof.Rows
def MtM(X:Cx)(id:String)(r:V->List V->Hp->VK->Prop):Prop:=
 ∀(pins:List (Addr×Obj)) (s:Shared) (σ:St) (H:Hp) (x:V) (xs:List V) (v:Value) (us:List Value) (Q:VK),Inv X pins σ H s->RelV x v->Vals xs us->r x xs H Q->
  wpAny (model X.prog X.w) X.A (call (.builtin id) (v::us)) (EP X pins σ Q) X.xe s
theorem Vals.one:∀{x:V} {us:List Value},Vals [x] us->∃u,us=[u]/\RelV x u
 |_,_,h=>by cases h with|cons r q=>cases q;exact ⟨_,rfl,r⟩
theorem Vals.two:∀{x y:V} {us:List Value},Vals [x,y] us->∃u v,us=[u,v]/\RelV x u/\RelV y v
 |_,_,_,h=>by cases h with|cons r q=>cases q with|cons q z=>cases z;exact ⟨_,_,rfl,r,q⟩
theorem Vals.zero:∀{us:List Value},Vals [] us->us=[]
 |_,.nil=>rfl
theorem Vals.dropLast{xs:List V}{us:List Value}(h:Vals xs us):Vals xs.dropLast us.dropLast:=by
 induction h with
 |nil=>exact .nil
 |cons r t ih=>
  cases t with
  |nil=>exact .nil
  |cons q t'=>exact .cons r ih
theorem Vals.eraseIdx:∀{xs:List V} {us:List Value} (i:Nat),Vals xs us->Vals (xs.eraseIdx i) (us.eraseIdx i)
 |_,_,_,.nil=>.nil
 |_,_,0,.cons _ t=>t
 |_,_,i+1,.cons r t=>.cons r (Vals.eraseIdx i t)
theorem Vals.rep{xs:List V}{us:List Value}(h:Vals xs us):∀k:Nat,Vals (List.replicate k xs).flatten (List.replicate k us).flatten
 |0=>.nil
 |k+1=>by
  rw [List.replicate_succ,List.replicate_succ,List.flatten_cons,List.flatten_cons];exact Vals.append h (Vals.rep h k)
theorem qd{α:Type}(l:List α):l.eraseIdx (l.length-1)=l.dropLast:=by
 induction l with
 |nil=>rfl
 |cons a r ih=>
  cases r with
  |nil=>rfl
  |cons b r=>
   have e:(a::b::r).length-1=((b::r).length-1)+1:=by
    have h1:(a::b::r).length=r.length+2:=rfl;have h2:(b::r).length=r.length+1:=rfl;lia
   rw [e,List.eraseIdx_cons_succ,ih]
   all_goals rfl
theorem lM{α:Type}:∀(l:List α) (i:Nat),(l.eraseIdx i).length<=l.length
 |[],_=>Nat.le_refl _
 |_::_,0=>Nat.le_succ _
 |_::r,i+1=>Nat.succ_le_succ (lM r i)
section
variable {X:Cx}{pins:List (Addr×Obj)}{σ:St}{H:Hp}{s:Shared}{l b:Addr}{xs ys zs:List V}
theorem Inv.lset{its its':List Value}{n:Nat}{f:Array Value->Array Value}{t':Nat}(I:Inv X pins σ H s)(hH:H l=some (.lst xs))
  (e:s.heap.get? l=some { cls:=.type "list",data:=.seq its.toArray n }) (hf:f its.toArray=its'.toArray) (hv:Vals ys its') (hz:ys.length<=sizeLine):
  Inv X pins σ (upd H l (.lst ys)) { s with heap:=s.heap.update l (Obj.mapSeq f),toks:=t' }:=by
 have q:=PySem.IsL.update e f;rw [hf] at q;refine I.write (x:=l) (e:=l) (by rw [hH];exact trivial) (.inl rfl) (fun b' u hb hu=>(Heap.get?_update_other s.heap (Obj.mapSeq f) (Ne.symm hb)).trans hu) ⟨_,q⟩ ?_
 exact ⟨hz,its',_,hv,q⟩
theorem Inv.lnew{its:List Value}{t':Nat}(I:Inv X pins σ H s)(hv:Vals ys its)(hz:ys.length<=sizeLine):
  Inv X pins σ (upd H s.heap.objs.size (.lst ys)) { s with heap:=s.heap.push { cls:=.type "list",data:=.seq its.toArray },toks:=t' }:=
 I.laid (fun _ _ q=>Heap.get?_push_of_some _ q) (Nat.le_refl _) ⟨hz,its,0,hv,Heap.get?_push_size _ rfl⟩
theorem Inv.fresh(I:Inv X pins σ H s):H s.heap.objs.size=none:=I.hok.fresh (Nat.le_refl _)
theorem Inv.lstM(I:Inv X pins σ H s)(hH:H l=some (.lst xs)):xs.length<=sizeLine/\∃(its:List Value) (n:Nat),Vals xs its/\xs.length=its.length/\s.heap.get? l=some { cls:=.type "list",data:=.seq its.toArray n }:=by
 obtain ⟨z,its,n,r,e⟩:=I.hok l _ hH;exact ⟨z,its,n,r,r.length,e⟩
end
section
variable {X:Cx}
def Ab:V->List V->Hp->VK->Prop:=fun x vs H Q=>∃l xs y,x=.ref l/\vs=[y]/\H l=some (.lst xs)/\xs.length<sizeLine/\Q .non (upd H l (.lst (xs++[y])))
theorem vo:MtM X "list.append" Ab:=by
 intro pins s σ H x vs v us Q I rx rv h;obtain ⟨l,xs,y,rfl,rfl,hH,hz,q⟩:=h;cases rx;obtain ⟨u,rfl,ru⟩:=rv.one;obtain ⟨z,its,n,r,hl,e⟩:=I.lstM hH;refine call_meets F.slot_list_append ⟨_,e,rfl⟩ F.entry_list_append (F.args_list_append_2 _ _) (PySem.list_append l its.toArray n u (by rw [List.size_toArray];lia)) ⟨e,?_⟩
 refine ⟨.non,_,I.lset (its':=its++[u]) hH e (by simp) (r.append (.cons ru .nil)) ?_,rfl,q⟩
 rw [List.length_append,List.length_singleton];lia
def rPop:V->List V->Hp->VK->Prop:=fun x vs H Q=>∃l xs y,x=.ref l/\vs=[]/\H l=some (.lst xs)/\xs[xs.length-1]?=some y/\Q y (upd H l (.lst xs.dropLast))
theorem Ef:MtM X "list.pop" rPop:=by
 intro pins s σ H x vs v us Q I rx rv h;obtain ⟨l,xs,y,rfl,rfl,hH,hy,q⟩:=h;cases rx;have hus:=rv.zero;subst hus;obtain ⟨z,its,n,r,hl,e⟩:=I.lstM hH;obtain ⟨u,hu,ru⟩:=r.get hy;have hy':its.toArray[its.toArray.size-1]?=some u:=by
  show its.toArray[its.length-1]?=some u;rw [<- Array.getElem?_toList,<- hl];exact hu
 refine call_meets F.slot_list_pop ⟨_,e,rfl⟩ F.entry_list_pop (F.args_list_pop_1 _) (MeetsSeq.list_pop_last l its.toArray n u hy' (by rw [List.size_toArray];lia)) ⟨e,?_⟩
 refine ⟨y,_,I.lset (its':=its.dropLast) hH e ?_ r.dropLast ?_,ru,q⟩
 ·show its.toArray.eraseIdxIfInBounds (its.toArray.size-1)=its.dropLast.toArray
  rw [List.size_toArray,List.eraseIdxIfInBounds_toArray,qd]
 ·rw [List.length_dropLast]
  lia
def EN:V->List V->Hp->VK->Prop:=fun x vs H Q=>∃l xs i k y,x=.ref l/\vs=[.int i]/\H l=some (.lst xs)/\-(2 ^ 63)<=i/\i<2 ^ 63/\seqIndex? i xs.length=some k/\xs[k]?=some y/\Q y (upd H l (.lst (xs.eraseIdx k)))
theorem z6:MtM X "list.pop" EN:=by
 intro pins s σ H x vs v us Q I rx rv h;obtain ⟨l,xs,i,k,y,rfl,rfl,hH,h1,h2,hk,hy,q⟩:=h;cases rx;obtain ⟨u,rfl,ru⟩:=rv.one;obtain ⟨t,rfl⟩:=ru;obtain ⟨z,its,n,r,hl,e⟩:=I.lstM hH;obtain ⟨w,hw,rw'⟩:=r.get hy
 refine call_meets F.slot_list_pop ⟨_,e,rfl⟩ F.entry_list_pop (F.args_list_pop_2 _ _)
  (MeetsSeq.list_pop_at l its.toArray n i t k w (fitsIndex_both h1 h2) (by rw [List.size_toArray,<- hl];exact hk) (by rw [<- Array.getElem?_toList];exact hw) (by rw [List.size_toArray];lia)) ⟨e,?_⟩
 refine ⟨y,_,I.lset (its':=its.eraseIdx k) hH e ?_ (r.eraseIdx k) ?_,rw',q⟩
 ·show its.toArray.eraseIdxIfInBounds k=(its.eraseIdx k).toArray
  rw [List.eraseIdxIfInBounds_toArray]
 ·have:=lM xs k
  lia
theorem As{α:Type}(xs:List α)(k:Nat):(List.replicate k xs).flatten.length=k*xs.length:=by
 induction k with
 |zero=>simp
 |succ k ih=>rw [List.replicate_succ,List.flatten_cons,List.length_append,ih,Nat.succ_mul,Nat.add_comm]
end
section
variable {prog:Program}{w:World}{A:Around}{E:Value->Shared->Prop}{s:Shared}
set_option maxRecDepth 100000 in
end
section
variable {X:Cx}
end
end L2
namespace L2
open PySem PySem.Spec PyProof.Rows
section
variable {κ:Type}[DecidableEq κ]
def cM(kvs:List (κ×V))(k:κ):Option V:=(kvs.find? fun kv=>decide (kv.1=k)).map (·.2)
def ca(kvs:List (κ×V))(k:κ)(v:V):List (κ×V):=
 if (kvs.any fun kv=>decide (kv.1=k))=true then kvs.map (fun kv=>if kv.1=k then (kv.1,v) else kv) else kvs++[(k,v)]
def ff(kvs:List (κ×V))(k:κ):List (κ×V):=kvs.filter fun kv=>decide (kv.1≠k)
theorem jE{p:κ×V}{r:List (κ×V)}{k:κ}(e:p.1=k):cM (p::r) k=some p.2:=by simp [cM,List.find?_cons,e]
theorem ki{p:κ×V}{r:List (κ×V)}{k:κ}(e:¬p.1=k):cM (p::r) k=cM r k:=by simp [cM,List.find?_cons,e]
theorem oQ(k:κ):∀kvs:List (κ×V),(kvs.any fun kv=>decide (kv.1=k))=(cM kvs k).isSome
 |[]=>rfl
 |p::r=>by
  rw [List.any_cons]
  by_cases e:p.1=k
  ·simp only [jE e,decide_eq_true e,Bool.true_or,Option.isSome_some]
  ·rw [ki e,decide_eq_false e,Bool.false_or];exact oQ k r
theorem dX(kvs:List (κ×V))(k:κ)(v:V):(ca kvs k v).length<=kvs.length+1:=by
 unfold ca
 split
 ·rw [List.length_map];lia
 ·rw [List.length_append,List.length_cons,List.length_nil];lia
theorem RelO.isSome_eq{o:Option V}{u:Option Value}(r:RelO o u):o.isSome=u.isSome:=by
 cases o with
 |none=>cases u with
  |none=>rfl
  |some _=>exact (show False from r).elim
 |some _=>cases u with
  |none=>exact (show False from r).elim
  |some _=>rfl
theorem KV.val{kvs:List (κ×V)}{vs:List (κ×Value)}(r:KV kvs vs)(k:κ):RelO (cM kvs k) (valueAt vs k):=by
 unfold KV at r
 induction r with
 |nil=>exact True.intro
 |@cons p q ps qs h t ih=>
  obtain ⟨h1,h2⟩:=h
  by_cases e:p.1=k
  ·have e':q.1=k:=h1.symm.trans e
   have b:valueAt (q::qs) k=some q.2:=by simp [valueAt,List.find?_cons,e']
   rw [jE e,b];exact h2
  ·have e':¬q.1=k:=fun z=>e (h1.trans z)
   have b:valueAt (q::qs) k=valueAt qs k:=by simp [valueAt,List.find?_cons,e']
   rw [ki e,b];exact ih
theorem KV.any{kvs:List (κ×V)}{vs:List (κ×Value)}(r:KV kvs vs)(k:κ):(kvs.any fun kv=>decide (kv.1=k))=vs.any fun kv=>decide (kv.1=k):=by
 unfold KV at r
 induction r with
 |nil=>rfl
 |cons h t ih=>rw [List.any_cons,List.any_cons,ih,h.1]
theorem KV.repl{kvs:List (κ×V)}{vs:List (κ×Value)}(r:KV kvs vs)(k:κ){y:V}{u:Value}(ry:RelV y u):
  KV (kvs.map fun kv=>if kv.1=k then (kv.1,y) else kv) (vs.map fun kv=>if kv.1=k then (kv.1,u) else kv):=by
 unfold KV at r ⊢
 induction r with
 |nil=>exact .nil
 |@cons p q ps qs h t ih=>
  rw [List.map_cons,List.map_cons];refine .cons ?_ ih;obtain ⟨h1,h2⟩:=h
  by_cases e:p.1=k
  ·rw [if_pos e,if_pos (h1.symm.trans e)];exact ⟨h1,ry⟩
  ·rw [if_neg e,if_neg (fun z=>e (h1.trans z))];exact ⟨h1,h2⟩
theorem KV.put{kvs:List (κ×V)}{vs:List (κ×Value)}(r:KV kvs vs)(k:κ){y:V}{u:Value}(ry:RelV y u):KV (ca kvs k y) (stored vs k u):=by
 unfold ca stored;rw [r.any k]
 by_cases e:(vs.any fun kv=>decide (kv.1=k))=true
 ·rw [if_pos e,if_pos e];exact r.repl k ry
 ·rw [if_neg e,if_neg e];exact Paired.snoc r ⟨rfl,ry⟩
theorem KV.drop{kvs:List (κ×V)}{vs:List (κ×Value)}(r:KV kvs vs)(k:κ):KV (ff kvs k) (without vs k):=by
 unfold KV at r ⊢;unfold ff without
 induction r with
 |nil=>exact .nil
 |@cons p q ps qs h t ih=>
  obtain ⟨h1,h2⟩:=h;rw [List.filter_cons,List.filter_cons]
  by_cases e:p.1=k
  ·have a:¬decide (p.1≠k)=true:=by simp [e]
   have b:¬decide (q.1≠k)=true:=by simp [h1.symm.trans e]
   rw [if_neg a,if_neg b];exact ih
  ·have e':¬q.1=k:=fun z=>e (h1.trans z)
   have a:decide (p.1≠k)=true:=by simp [e]
   have b:decide (q.1≠k)=true:=by simp [e']
   rw [if_pos a,if_pos b];exact .cons ⟨h1,h2⟩ ih
theorem KV.length{kvs:List (κ×V)}{vs:List (κ×Value)}(r:KV kvs vs):kvs.length=vs.length:=Paired.length r
theorem wA(kvs:List (κ×V))(k:κ):(ff kvs k).length<=kvs.length:=List.length_filter_le _ _
end
theorem ia{P:Program}{w:World}{k:aw}{u:Value}(r:RelV (kV k) u):(aH P w).is k u=true:=by
 cases k with
 |inl i=>obtain ⟨t,e⟩:=(show ∃t,u=Value.int i t from r);subst e;exact oV P w i t
 |inr x=>obtain ⟨t,e⟩:=(show ∃t,u=Value.str x t from r);subst e;exact oJ P w x t
theorem lA{P:Program}{w:World}:∀{ks:List aw} {us:List Value},Vals (ks.map kV) us->ItemsAre (aH P w) ks us
 |[],_,r=>by rw [List.map_nil] at r;cases r;exact .nil
 |k::ks,_,r=>by
  rw [List.map_cons] at r;cases r with
  |cons h t=>exact .cons (ia h) (lA t)
abbrev KT(H:Hp):List (List aw×V)->List (List aw×Addr×Value)->Prop:=Paired fun p q=>p.1=q.1/\H q.2.1=some (.tup (p.1.map kV))/\RelV p.2 q.2.2
theorem KT.val{H:Hp}{kvs:List (List aw×V)}{xs:List (List aw×Addr×Value)}(r:KT H kvs xs)(k:List aw):RelO (cM kvs k) ((atKey xs k).map (·.2)):=by
 induction r with
 |nil=>exact True.intro
 |@cons p q ps qs h t ih=>
  obtain ⟨h1,_,h2⟩:=h
  by_cases e:p.1=k
  ·have e':q.1=k:=h1.symm.trans e
   have b:atKey (q::qs) k=some q.2:=by simp [atKey,List.find?_cons,e']
   rw [jE e,b];exact h2
  ·have e':¬q.1=k:=fun z=>e (h1.trans z)
   have b:atKey (q::qs) k=atKey qs k:=by simp [atKey,List.find?_cons,e']
   rw [ki e,b];exact ih
theorem KT.repl{H:Hp}{kvs:List (List aw×V)}{xs:List (List aw×Addr×Value)}(r:KT H kvs xs)(k:List aw){y:V}{u:Value}(ry:RelV y u):
  KT H (kvs.map fun kv=>if kv.1=k then (kv.1,y) else kv) (xs.map (putAt k u)):=by
 induction r with
 |nil=>exact .nil
 |@cons p q ps qs h t ih=>
  rw [List.map_cons,List.map_cons];refine .cons ?_ ih;obtain ⟨h1,h2,h3⟩:=h;unfold putAt
  by_cases e:p.1=k
  ·rw [if_pos e,if_pos (h1.symm.trans e)];exact ⟨h1,h2,ry⟩
  ·rw [if_neg e,if_neg (fun z=>e (h1.trans z))];exact ⟨h1,h2,h3⟩
theorem KT.put{H:Hp}{kvs:List (List aw×V)}{xs:List (List aw×Addr×Value)}(r:KT H kvs xs)(k:List aw){b:Addr}{y:V}{u:Value}(hb:H b=some (.tup (k.map kV)))(ry:RelV y u):
  KT H (ca kvs k y) (storedH xs k b u):=by
 have e:(kvs.any fun kv=>decide (kv.1=k))=(atKey xs k).isSome:=by
  rw [oQ,(r.val k).isSome_eq,Option.isSome_map]
 unfold ca storedH;rw [e]
 by_cases q:(atKey xs k).isSome=true
 ·rw [if_pos q,if_pos q];exact r.repl k ry
 ·rw [if_neg q,if_neg q];exact Paired.snoc r ⟨rfl,hb,ry⟩
theorem KT.keeps{H H':Hp}{kvs:List (List aw×V)}{xs:List (List aw×Addr×Value)}(r:KT H kvs xs)(ht:∀b ys,H b=some (.tup ys)->H' b=some (.tup ys)):KT H' kvs xs:=
 cS r fun _ _ z=>⟨z.1,ht _ _ z.2.1,z.2.2⟩
section
variable {P:Program}{w:World}{H:Hp}{h:Heap}{a:Addr}
theorem CG{u:HO}(ok:HOk P w H h)(e:Rd H a u):ObjOk P w H h a u:=e.ok ok
theorem hZ{kvs:List (aw×V)}(ok:HOk P w H h)(e:Rd H a (.dK kvs)):kvs.length<=sizeLine/\(a==sysModules)=false/\∃vs,KV kvs vs/\h.DictOf (aH P w) a vs:=
 show ObjOk P w H h a (.dK kvs) from CG ok e
theorem wY{kvs:List (aw×V)}(ok:HOk P w H h)(e:H a=some (.dK kvs)):kvs.length<=sizeLine/\(a==sysModules)=false/\∃vs,KV kvs vs/\h.DictOf (aH P w) a vs:=hZ ok (.inl e)
theorem nM{ks:List aw}(ok:HOk P w H h)(e:H a=some (.tup (ks.map kV))):(tupleKind (aH P w)).is h ks a:=by
 obtain ⟨_,its,r,o,h1,⟨h2,n,h3⟩,_⟩:=(show ObjOk P w H h a (.tup (ks.map kV)) from ok a _ e);exact ⟨o,its.toArray,n,h1,h2,h3,by simpa using lA r⟩
theorem oC{kvs:List (List aw×V)}(ok:HOk P w H h)(e:Rd H a (.dT kvs)):kvs.length<=sizeLine/\(a==sysModules)=false/\
  ∃xs,KT H kvs xs/\h.DictOfH (tupleKind (aH P w)) a xs:=by
 obtain ⟨z,y,xs,r,o,es,ep,h1,h2,h3,h4,h5⟩:=(show ObjOk P w H h a (.dT kvs) from CG ok e);refine ⟨z,y,xs,r,o,es,ep,h1,h2,h3,h4,fun x hx=>?_,h5⟩;have all:∀{l:List (List aw×V)} {m:List (List aw×Addr×Value)},KT H l m->∀x∈m,(tupleKind (aH P w)).is h x.1 x.2.1:=by
  intro l m q
  induction q with
  |nil=>intro x hx;exact nomatch hx
  |@cons p q ps qs hq t ih=>
   intro x hx;rcases List.mem_cons.mp hx with e|hx
   ·subst e
    exact nM ok (by rw [<- hq.1];exact hq.2.1)
   ·exact ih x hx
 exact all r x hx
theorem Hb{kvs:List (List aw×V)}(ok:HOk P w H h)(e:H a=some (.dT kvs)):kvs.length<=sizeLine/\(a==sysModules)=false/\
  ∃xs,KT H kvs xs/\h.DictOfH (tupleKind (aH P w)) a xs:=oC ok (.inl e)
end
def DGet(H:Hp)(a:Addr)(y:V)(r:Option V):Prop:=
 (∃kvs k,Rd H a (.dK kvs)/\y=kV k/\r=cM kvs k)\/∃kvs k b,Rd H a (.dT kvs)/\y=.ref b/\H b=some (.tup (k.map kV))/\r=cM kvs k
def DPut(H:Hp)(a:Addr)(y v:V)(H':Hp):Prop:=
 (∃kvs k,H a=some (.dK kvs)/\y=kV k/\kvs.length<sizeLine/\H'=upd H a (.dK (ca kvs k v)))\/
 ∃kvs k b,H a=some (.dT kvs)/\y=.ref b/\H b=some (.tup (k.map kV))/\kvs.length<sizeLine/\H'=upd H a (.dT (ca kvs k v))
theorem DGet.k{H:Hp}{a:Addr}{kvs:List (aw×V)}{k:aw}(e:H a=some (.dK kvs)):DGet H a (kV k) (cM kvs k):=.inl ⟨kvs,k,.inl e,rfl,rfl⟩
theorem zn{H:Hp}{a b:Addr}{kvs:List (List aw×V)}{k:List aw}(e:H a=some (.dT kvs))(eb:H b=some (.tup (k.map kV))):DGet H a (.ref b) (cM kvs k):=.inr ⟨kvs,k,b,.inl e,rfl,eb,rfl⟩
theorem DPut.k{H:Hp}{a:Addr}{kvs:List (aw×V)}{k:aw}{v:V}(e:H a=some (.dK kvs))(hl:kvs.length<sizeLine):DPut H a (kV k) v (upd H a (.dK (ca kvs k v))):=.inl ⟨kvs,k,e,rfl,hl,rfl⟩
theorem FQ{H:Hp}{a b:Addr}{kvs:List (List aw×V)}{k:List aw}{v:V}(e:H a=some (.dT kvs))(eb:H b=some (.tup (k.map kV)))(hl:kvs.length<sizeLine):
  DPut H a (.ref b) v (upd H a (.dT (ca kvs k v))):=.inr ⟨kvs,k,b,e,rfl,eb,hl,rfl⟩
section
variable {X:Cx}{pins:List (Addr×Obj)}{σ:St}{H:Hp}{s:Shared}{a:Addr}{y v:V}{u r:Value}{o:Option V}{A:Around}{E:Value->Shared->Prop}
theorem Inv.big(I:Inv X pins σ H s):sysModules<s.heap.objs.size:=by
 have h:mainGlobals<s.heap.objs.size:=(I.mod.glob.keeps I.bk).lt;exact Nat.lt_trans (by decide) h
theorem lH{Q:Value->Shared->Prop}(hu:A.units+1<cLine)(I:Inv X pins σ H s)(g:DGet H a y (some v))(ry:RelV y u)(h:∀w' s',Inv X pins σ H s'->RelV v w'->Q w' s'):
  wpAny (model X.prog X.w) A (getItem (.ref a) u) Q E s:=by
 rcases g with ⟨kvs,k,e,ey,l⟩|⟨kvs,k,b,e,ey,eb,l⟩
 ·subst ey
  obtain ⟨z,hd,vs,rel,dd⟩:=hZ I.hok e;obtain ⟨w',hw,rw'⟩:=cq (v:=v) (o:=valueAt vs k) (by rw [l];exact rel.val k)
  exact wpAny_getItem_of (ia ry) dd.mapOf hw (h w' _ (I.tok _) rw')
 ·subst ey
  cases (show u=Value.ref b from ry);obtain ⟨z,hd,xs,rel,dd⟩:=oC I.hok e;obtain ⟨w',hw,rw'⟩:=cq (v:=v) (o:=(atKey xs k).map (·.2)) (by rw [l];exact rel.val k)
  obtain ⟨p,hp,hp2⟩:=Option.map_eq_some_iff.mp hw;refine wpAny_getItem_heap (tupleKind_room_in1 hu) (nM I.hok eb) dd hp ?_;rw [hp2];exact h w' _ (I.tok _) rw'
theorem Ga{Q:Value->Shared->Prop}(hu:A.units+1<cLine)(I:Inv X pins σ H s)(g:DGet H a y o)(ry:RelV y u)(h:∀s',Inv X pins σ H s'->Q (.bool o.isSome) s'):
  wpAny (model X.prog X.w) A (compareOp .In u (.ref a)) Q E s:=by
 rcases g with ⟨kvs,k,e,ey,l⟩|⟨kvs,k,b,e,ey,eb,l⟩
 ·subst ey
  obtain ⟨z,hd,vs,rel,dd⟩:=hZ I.hok e;refine wpAny_in_of (ia ry) hd dd.mapOf ?_;rw [<- (rel.val k).isSome_eq,<- l];exact h _ (I.tok _)
 ·subst ey
  cases (show u=Value.ref b from ry);obtain ⟨z,hd,xs,rel,dd⟩:=oC I.hok e;refine wpAny_in_heap (tupleKind_room_in1 hu) (nM I.hok eb) hd dd ?_;have q:=(rel.val k).isSome_eq;rw [Option.isSome_map] at q;rw [<- q,<- l];exact h _ (I.tok _)
theorem nC{h':Heap}{t':Nat}{ob:HO}(I:Inv X pins σ H s)(mu:Hl (H a))(hs:Heap.SameBut a s.heap h')(he:∃q,h'.get? a=some q)(new:ObjOk X.prog X.w (upd H a ob) h' a ob):
  Inv X pins σ (upd H a ob) { s with heap:=h',toks:=t' }:=
 I.write (x:=a) (e:=a) mu (.inl rfl) (fun b q hb z=>(hs.2 b hb).trans z) he new
theorem jT{P:Program}{w:World}{H':Hp}{h':Heap}{kvs:List (aw×V)}{vs:List (aw×Value)}(z:kvs.length<=sizeLine)(hd:(a==sysModules)=false)(rel:KV kvs vs)(dd:h'.DictOf (aH P w) a vs):
  ObjOk P w H' h' a (.dK kvs):=⟨z,hd,vs,rel,dd⟩
theorem lT{H':Hp}{Q:Unit->Shared->Prop}(hu:A.units+1<cLine)(I:Inv X pins σ H s)(g:DPut H a y v H')(ry:RelV y u)(rv:RelV v r)(h:∀s',Inv X pins σ H' s'->Q () s'):
  wpAny (model X.prog X.w) A (setItem (.ref a) u r) Q E s:=by
 rcases g with ⟨kvs,k,e,ey,l,eH⟩|⟨kvs,k,b,e,ey,eb,l,eH⟩
 ·subst ey eH
  obtain ⟨z,hd,vs,rel,dd⟩:=wY I.hok e;have hz:vs.length<=sizeLine:=by rw [<- rel.length];exact z
  have hl:(ca kvs k v).length<=sizeLine:=by have:=dX kvs k v;lia
  refine wpAny_setItem_pairs (hsz:=hz) (ia ry) dd fun h' dd' hs=>h _ ?_;have he:∃q,h'.get? a=some q:=let ⟨q,_,_,hq,_⟩:=dd';⟨q,hq⟩;exact nC I (by rw [e];exact True.intro) hs he (jT hl hd (rel.put k rv) dd')
 ·subst ey eH
  cases (show u=Value.ref b from ry);obtain ⟨z,hd,xs,rel,dd⟩:=Hb I.hok e;have hz:xs.length<=sizeLine:=by rw [<- Paired.length rel];exact z
  have hl:(ca kvs k v).length<=sizeLine:=by have:=dX kvs k v;lia
  refine wpAny_setItem_heap (hsz:=hz) (tupleKind_room_in1 hu) (nM I.hok eb) dd fun h' dd' hs=>h _ ?_;obtain ⟨q,es,ep,hq,h2,h3,h4,_,h5⟩:=dd';refine nC I (by rw [e];exact True.intro) hs ⟨q,hq⟩ ⟨hl,hd,_,(rel.put k eb rv).keeps fun c ys ec=>?_,q,es,ep,hq,h2,h3,h4,h5⟩
  rw [av (HM ec e (fun z=>nomatch z))];exact ec
end
section
variable {X:Cx}{pins:List (Addr×Obj)}{σ:St}{H:Hp}{s:Shared}{a:Addr}{kvs:List (aw×V)}{k:aw}{u:Value}{A:Around}{E:Value->Shared->Prop}
theorem C0{v:V}{more:List Value}{Q:Value->Shared->Prop}(I:Inv X pins σ H s)(e:H a=some (.dK kvs))(ry:RelV (kV k) u)(l:cM kvs k=some v)(hm:more=[]\/∃x,more=[x])
  (h:∀w' s',Inv X pins σ (upd H a (.dK (ff kvs k))) s'->RelV v w'->Q w' s'):wpAny (model X.prog X.w) A (call (.builtin "dict.pop") (.ref a::u::more)) Q E s:=by
 obtain ⟨z,hd,vs,rel,dd⟩:=wY I.hok e;obtain ⟨w',hw,rw'⟩:=cq (v:=v) (o:=valueAt vs k) (by rw [<- l];exact rel.val k)
 have hp:(keyPart u).isSome=true:=by
  cases k with
  |inl i=>obtain ⟨t,q⟩:=(show ∃t,u=Value.int i t from ry);subst q;rfl
  |inr x=>obtain ⟨t,q⟩:=(show ∃t,u=Value.str x t from ry);subst q;rfl
 have ha:argsOk "dict.pop" ⟨.ref a::u::more,[]⟩:=by
  rcases hm with q|⟨x,q⟩
  ·subst q;exact PySem.F.args_dict_pop_2 _ _
  ·subst q;exact PySem.F.args_dict_pop_3 _ _ _
 refine call_meetsIn PySem.F.slot_dict_pop dd.typeIs PySem.F.entry_dict_pop ha (meets_dict_pop_there (aH X.prog X.w) a (ia ry) more hm hp)
  ⟨vs,w',dd,by rw [<- rel.length];exact z,hw,fun h' dd' hs=>h w' _ ?_ rw'⟩
 have he:∃q,h'.get? a=some q:=let ⟨q,_,_,hq,_⟩:=dd';⟨q,hq⟩;exact nC I (by rw [e];exact True.intro) hs he (jT (Nat.le_trans (wA kvs k) z) hd (rel.drop k) dd')
theorem Eu{r:Value}{Q:Value->Shared->Prop}(I:Inv X pins σ H s)(e:H a=some (.dK kvs))(ry:RelV (kV k) u)(l:cM kvs k=none)(h:∀s',Inv X pins σ H s'->Q r s'):
  wpAny (model X.prog X.w) A (call (.builtin "dict.pop") [.ref a,u,r]) Q E s:=by
 obtain ⟨z,hd,vs,rel,dd⟩:=wY I.hok e;have hn:valueAt vs k=none:=gk (by rw [<- l];exact rel.val k)
 have hp:(keyPart u).isSome=true:=by
  cases k with
  |inl i=>obtain ⟨t,q⟩:=(show ∃t,u=Value.int i t from ry);subst q;rfl
  |inr x=>obtain ⟨t,q⟩:=(show ∃t,u=Value.str x t from ry);subst q;rfl
 exact call_meetsIn PySem.F.slot_dict_pop dd.typeIs PySem.F.entry_dict_pop (PySem.F.args_dict_pop_3 _ _ _) (meets_dict_pop_default (aH X.prog X.w) a (ia ry) hd hp r) ⟨vs,dd,hn,h _ (I.tok _)⟩
theorem Hi{Q:Value->Shared->Prop}(I:Inv X pins σ H s)(e:Rd H a (.dK kvs))(h:∀t s',Inv X pins σ H s'->Q (.int kvs.length t) s'):wpAny (model X.prog X.w) A (call (.builtin "len") [.ref a]) Q E s:=by
 obtain ⟨z,hd,vs,rel,dd⟩:=hZ I.hok e;refine call_len_dict hd dd (by rw [<- rel.length];rw [sizeLine_eq] at z;lia) ?_
 rw [<- rel.length];exact h _ _ (I.tok _)
end
theorem ou{X:Cx}{pins:List (Addr×Obj)}{σ:St}{H:Hp}{s:Shared}{a:Addr}{y:V}{o:Option V}(I:Inv X pins σ H s)(g:DGet H a y o):s.TypeIs (.ref a) "dict":=by
 rcases g with ⟨kvs,k,e,_,_⟩|⟨kvs,k,b,e,_,_,_⟩
 ·obtain ⟨_,_,vs,_,dd⟩:=hZ I.hok e
  exact dd.typeIs
 ·obtain ⟨_,_,xs,_,dd⟩:=oC I.hok e
  exact dd.typeIs
section
variable {X:Cx}{o i e value:Expr}{pos pos' tpos:Pos}{td ty tv:TE}
end
section
variable {X:Cx}{pos:Pos}
end
structure M1(X:Cx)(o:Expr)(m:Str)(apos:Pos)(e:Expr)(cpos:Pos):Prop where
 base:attributeBase o m X.env (eval o X.env)=eval o X.env
 few:((backTo cpos (starEach [e] X.env)).all (fun x=>!x.1)&&(backToKw cpos (keywordEach [] X.env)).all (fun x=>x.1.isSome)
  && decide (([e]:List Expr).length+([]:List Keyword).length+(if ([]:List Keyword).isEmpty then 0 else 1)<30))=true
 line:(apos.endLine==cpos.line)=true
 trees:backTo cpos (starEach [e] X.env)=[(false,eval e X.env)]
structure M2(X:Cx)(o:Expr)(m:Str)(apos:Pos)(e f:Expr)(cpos:Pos):Prop where
 base:attributeBase o m X.env (eval o X.env)=eval o X.env
 few:((backTo cpos (starEach [e,f] X.env)).all (fun x=>!x.1)&&(backToKw cpos (keywordEach [] X.env)).all (fun x=>x.1.isSome)
  && decide (([e,f]:List Expr).length+([]:List Keyword).length+(if ([]:List Keyword).isEmpty then 0 else 1)<30))=true
 line:(apos.endLine==cpos.line)=true
 trees:backTo cpos (starEach [e,f] X.env)=[(false,eval e X.env),(false,eval f X.env)]
def IsD(H:Hp)(a:Addr):Prop:=(∃kvs,Rd H a (.dK kvs))\/∃kvs,Rd H a (.dT kvs)
theorem wv{X:Cx}{pins:List (Addr×Obj)}{σ:St}{H:Hp}{s:Shared}{a:Addr}(I:Inv X pins σ H s)(d:IsD H a):
  s.TypeIs (.ref a) "dict"/\(∀b,Value.ref a=.ref b->∃ob,s.heap.get? b=some ob/\ob.dict=none)/\(a==sysModules)=false:=by
 rcases d with ⟨kvs,e⟩|⟨kvs,e⟩
 ·obtain ⟨_,hd,vs,_,dd⟩:=hZ I.hok e
  refine ⟨dd.typeIs,fun b q=>?_,hd⟩;cases q;obtain ⟨ob,_,_,h1,h2,_⟩:=dd;exact ⟨ob,h1,h2.2.1⟩
 ·obtain ⟨_,hd,xs,_,dd⟩:=oC I.hok e
  refine ⟨dd.typeIs,fun b q=>?_,hd⟩;cases q;obtain ⟨ob,_,_,h1,h2,_⟩:=dd;exact ⟨ob,h1,h2.2.1⟩
section
variable {X:Cx}{pins:List (Addr×Obj)}{σ:St}{H:Hp}{s:Shared}{a:Addr}{y d:V}{u r:Value}{o:Option V}{A:Around}{E:Value->Shared->Prop}
end
def EY(td ty:TE):TE:=fun σ H Q=>td σ H fun x H1=>∃a,x=.ref a/\IsD H1 a/\ty σ H1 fun y H2=>∃kvs k v,H2 a=some (.dK kvs)/\y=kV k/\cM kvs k=some v/\Q v (upd H2 a (.dK (ff kvs k)))
def FJ(td ty tx:TE):TE:=fun σ H Q=>td σ H fun x H1=>∃a,x=.ref a/\IsD H1 a/\ty σ H1 fun y H2=>tx σ H2 fun z H3=>∃kvs k,H3 a=some (.dK kvs)/\y=kV k/\
 (∀v,cM kvs k=some v->Q v (upd H3 a (.dK (ff kvs k))))/\(cM kvs k=none->Q z H3)
section
variable {X:Cx}{o e f:Expr}{apos cpos:Pos}{td ty tx:TE}
theorem xi(ho:PE X o td)(he:PE X e ty)(m:M1 X o "pop" apos e cpos):PE X (.Call (.Attribute o "pop" apos) [e] [] cpos) (EY td ty):=by
 intro pins s σ H Q I h;refine wpAny_Call_method m.base m.few m.line PySem.F.plainAttrs_dict PySem.F.slot_dict_pop PySem.F.type_dict_pop (a_ (ho pins s σ H _ I h) fun u s1 ⟨x,H1,I1,rx,a,ex,d,q1⟩=>?_);subst ex;obtain rfl:u=Value.ref a:=rx;obtain ⟨t1,t2,_⟩:=wv I1 d;refine ⟨t1,t2,?_⟩;rw [m.trees];refine Calls.callWith_builtin rfl (Calls.evalArgs_plain (Calls.spliced_cons (a_ (he pins s1 σ H1 _ I1 q1) fun iv s2 ⟨y,H2,I2,ry,kvs,k,v,ea,ey,l,q2⟩=>Calls.spliced_nil ?_)));subst ey;exact C0 I2 ea ry l (.inl rfl) fun w' s3 I3 rw'=>⟨v,_,I3,rw',q2⟩
theorem zj(ho:PE X o td)(he:PE X e ty)(hf:PE X f tx)(m:M2 X o "pop" apos e f cpos):PE X (.Call (.Attribute o "pop" apos) [e,f] [] cpos) (FJ td ty tx):=by
 intro pins s σ H Q I h;refine wpAny_Call_method m.base m.few m.line PySem.F.plainAttrs_dict PySem.F.slot_dict_pop PySem.F.type_dict_pop (a_ (ho pins s σ H _ I h) fun u s1 ⟨x,H1,I1,rx,a,ex,d,q1⟩=>?_);subst ex;obtain rfl:u=Value.ref a:=rx;obtain ⟨t1,t2,_⟩:=wv I1 d;refine ⟨t1,t2,?_⟩;rw [m.trees];refine Calls.callWith_builtin rfl (Calls.evalArgs_plain (Calls.spliced_cons (a_ (he pins s1 σ H1 _ I1 q1) fun iv s2 ⟨y,H2,I2,ry,q2⟩=>
  Calls.spliced_cons (a_ (hf pins s2 σ H2 _ I2 q2) fun fv s3 ⟨z,H3,I3,rz,kvs,k,ea,ey,q3,q4⟩=>Calls.spliced_nil ?_))))
 subst ey;cases l:cM kvs k with
 |some v=>exact C0 I3 ea ry l (.inr ⟨fv,rfl⟩) fun w' s4 I4 rw'=>⟨v,_,I4,rw',q3 v l⟩
 |none=>exact Eu I3 ea ry l fun s4 I4=>⟨z,H3,I4,rz,q4 l⟩
end
section
variable {X:Cx}{pins:List (Addr×Obj)}{σ:St}{H:Hp}{s:Shared}{a:Addr}{kvs:List (aw×V)}{A:Around}{E:Value->Shared->Prop}
theorem wQ{Q:Value->Shared->Prop}(I:Inv X pins σ H s)(e:Rd H a (.dK kvs))(h:∀p s',H p=none->Inv X pins σ (upd H p (.dK kvs)) s'->Q (.ref p) s'):wpAny (model X.prog X.w) A (call (.type "dict") [.ref a]) Q E s:=by
 obtain ⟨z,hd,vs,rel,dd⟩:=hZ I.hok e;refine kt_call_dict hd dd (by rw [<- rel.length];exact z) fun h' dd' hs=>?_
 refine h _ _ (I.hok.fresh (Nat.le_refl _)) (I.laid (a:=s.heap.objs.size) (o:=.dK kvs) (t':=s.toks) (fun b q hq=>?_) (Nat.le_refl _) (jT z (beq_eq_false_iff_ne.mpr (Ne.symm (Nat.ne_of_lt I.big))) rel dd'));exact (hs.2 b (Nat.ne_of_lt (Heap.lt_size hq))).trans (Heap.get?_push_of_some _ hq)
end
section
variable {X:Cx}{pins:List (Addr×Obj)}{σ:St}{H:Hp}{s:Shared}{a:Addr}{y:V}{u:Value}{A:Around}{E:Value->Shared->Prop}
end
end L2
namespace Att
open PySem PySem.W PySem.Calls PyProof.Rows
theorem ij{P:Params}{h:Heap}:∀(ns:List Int) (vs:List Value),WellAll P h vs (ns.map WData.int)->IntsAre vs ns:=by
 intro ns
 induction ns with
 |nil=>
  intro vs w;rw [List.map_nil] at w;cases w;exact .nil
 |cons n ns ih=>
  intro vs w;rw [List.map_cons] at w;cases w with
  |cons a b=>
   cases a;exact .cons _ _ (ih _ b)
theorem vw{l:OpenLaw}{n:Nat}(hn:l.most=some n){P:Params}{h:Heap}{args:List WData}{vals:List Value}
  (hpre:l.row.toRowW.claim.pre args=true) (hwl:WellAll P h vals args):
  ∃a vs ns,vals=[Value.ref a]/\args=[WData.list (ns.map WData.int)]/\h.get? a=some { cls:=.type "list",data:=.seq vs.toArray }/\IntsAre vs ns/\ns.length<=n:=by
 have hsh:WShape.hasAll [] args [.list .int]=true:=(pre_splitW hpre).1;have hc:l.pre.holds [] { args:=args }=true:=(pre_splitW hpre).2;obtain ⟨d,r,rfl,h1,h2⟩:=hasAllW_cons hsh;obtain rfl:=hasAllW_nil h2;obtain ⟨xs,rfl,h3⟩:=hasW_list h1;obtain ⟨ns,rfl⟩:=items_int h3;have hlen:ns.length<=n:=by
  unfold OpenLaw.pre at hc;have h4:(WTm.not (.lt (.lit (.int (n:Int))) (.len (.arg 0)))).holds [] { args:=[.list (ns.map .int)] }=true:=by
   have h4:=(holds_andW hc).1;rw [hn] at h4;exact h4
  have h5:=condW_of h4 (w_not (w_lt w_lit (w_len_list (w_arg rfl))));rw [List.length_map] at h5;refine Nat.le_of_not_lt fun q=>?_;have q':(n:Int)<((ns.length:Nat):Int):=by lia
  first
   |(rw [decide_eq_true q'] at h5;exact absurd h5 (by decide))
   |(simp at h5;lia)
 cases hwl with
 |cons w1 w2=>
  cases w2;cases w1 with
  |list ho hall=>exact ⟨_,_,ns,rfl,rfl,ho,ij ns _ hall,hlen⟩
theorem wf(l:OpenLaw)(args:List WData):l.row.toRowW.claim.post args (.bool true) args=true:=
 postW_of (r:=l.row.toRowW) (X:=(true==true))
  (show WShape.has [] (.bool true) .bool=true by first|rfl|decide|simp [WShape.has,WShape.arms,WShape.armsAll])
  (show (WTm.eq .res (.lit (.bool true))).value [] { args:=args,res:=some (.bool true),after:=args }=some (.bool (true==true)) from w_eq_bool (w_res rfl) w_lit) rfl
theorem oj{l:OpenLaw}{n:Nat}{q:Program}{loose:List Str}{XP:(Str->Option Value)->Heap->Prop}{YP:World->Heap->Prop}{d:DefRec}
  (hn:l.most=some n) (hdf:d.params.defaults=[])
  (call:∀(w:World) (s₀ s₁:Shared) (mg mb:Str->Option Value) (fa:Addr) (o:Obj) (pm cd doc:Value) (a:Addr) (vs:List Value) (ns:List Int),
   Ground q loose [] XP w s₀ mg mb s₁.heap->YP w s₁.heap->
   s₁.heap.get? fa=some o->o.data=.func (docDef d.name d.params d.body d.scope pm cd doc)->s₁.heap.CodeRec cd d.name->mg d.name=some (.ref fa)->
   s₁.heap.get? a=some { cls:=.type "list",data:=.seq vs.toArray }->IntsAre vs ns->ns.length<=n->s₁.gens=#[]->
   codeAny (model l.prog w) callerA (.call (.ref fa) ⟨[.ref a],[]⟩) (fun r s'=>r=.ok (.ret (.bool true))/\OldK s₁.heap s'.heap/\s'.os=s₁.os/\AllBare s'.gens) s₁):
  WalkO q loose XP YP l.row.toRowW d [] (fun f vs=>PySem.call f vs):=by
 intro w s₀ s₁ mg mb G Y fa o pm cd doc dV kV ho hd hcd hD hmg hg args vals as hpre hlay hrd hwl hlo;obtain rfl:dV=.none:=Dflts.none hD hdf;obtain rfl:kV=.none:=Dflts.noKw hD;obtain ⟨a,vs,ns,rfl,rfl,hobj,hints,hlen⟩:=vw hn hpre hwl;refine enter_call (codeAny_mono (call w s₀ s₁ mg mb fa o pm cd doc a vs ns G Y ho (fd_plain hd) hcd hmg hobj hints hlen hg) fun r s' hq=>?_);obtain ⟨rfl,h2,h3,h4⟩:=hq;exact ⟨.inl ⟨.bool true,.bool true,[],rfl,fun _=>rfl,.bool true,wf l _,fun _=>⟨List.Pairwise.nil,fun _ hm=>(nomatch hm)⟩⟩,h2,h3,h4⟩
section
variable {prog:Program}{w:World}{A:Around}{E:Value->Shared->Prop}{s:Shared}{K:Frag}
end
end Att
namespace L2
open PySem PySem.Spec PyProof.Rows
theorem kR:∀{vs:List Value} {ns:List Int},IntsAre vs ns->Vals (ns.map V.int) vs
 |_,_,.nil=>.nil
 |_,_,.cons n t h=>.cons ⟨t,rfl⟩ (kR h)
def xK(H:Hp):Prop:=∀b,H b=none\/∃o xs,H b=some (.frz o (.lst xs))
theorem wJ{P:Program}{w:World}{K:W.Frag}{mg mb:Str->Option Value}{CX:kF}{k:Nat}{fa a:Addr}{fd:FuncData}{x:Str}{sp:Sp}{s₁:Shared}{vs:List Value}{ns:List Int}
  (KX:K.In s₁.heap) (hns:s₁.heap.Ns mainGlobals mg) (hb:s₁.heap.Ns builtinsNs mb) (hbb:∀x:Str,x≠"__name__"->mb x=bootBuiltins x) (hlim:s₁.heap.NoLimit) (hg:s₁.gens=#[])
  (ha:s₁.heap.get? a=some { cls:=.type "list",data:=.seq vs.toArray }) (hi:IntsAre vs ns) (hl:ns.length<=sizeLine) (hr:Room k callerA)
  (F:∀base:Heap,K.In base->base.Ns mainGlobals mg->FnOk P w K mg base CX k fa fd [x] sp) (hbind:∀(s:Shared) (u:Value),BindsTo s fd ⟨[u],[]⟩ [(x,u)])
  (hsp:∀H:Hp,xK H->SqL K H a (ns.map V.int)->sp [.ref a] H (fun v _=>v=.bl true) fun _ _ _=>False)
  (hCX:∀H e s',CX [] H s₁ (fun _ _ _=>False) e s'->False):
  codeAny (model P w) callerA (.call (.ref fa) ⟨[.ref a],[]⟩) (fun r s'=>r=.ok (.ret (.bool true))/\OldK s₁.heap s'.heap/\s'.os=s₁.os/\AllBare s'.gens) s₁:=by
 have rv:=kR hi;have lenV:=hi.length
 -- from an abstract heap in which nothing but the script may be tracked
 have core:∀H:Hp,xK H->SqL K H a (ns.map V.int)->HOk P w H s₁.heap->(∀b,H b≠none->b=a)->(H a≠none->K.lookup a=none)->
   codeAny (model P w) callerA (.call (.ref fa) ⟨[.ref a],[]⟩) (fun r s'=>r=.ok (.ret (.bool true))/\OldK s₁.heap s'.heap/\s'.os=s₁.os/\AllBare s'.gens) s₁:=by
  intro H hO hS hok hA hK;have base_of:∀{b:Addr} {o:Obj},s₁.heap.get? b=some o->H b=none->(mv s₁.heap H).get? b=some o:=fun e n=>xT e n;have noA:∀{b:Addr} {o:Obj} {es:Array DictEntry} {ep:Nat},s₁.heap.get? b=some o->o.data=.dict es ep->H b=none:=fun {b o es ep} e d=>by
   cases q:H b with
   |none=>rfl
   |some u=>
    have e':b=a:=hA b (by rw [q];simp)
    subst e';rw [ha] at e;cases e;have d':Data.seq vs.toArray _=Data.dict es ep:=d;cases d'
  have nsK:∀{b:Addr} {m:Str->Option Value},s₁.heap.Ns b m->(mv s₁.heap H).Ns b m:=fun {b m} ⟨o,es,ep,e,d,r⟩=>⟨o,es,ep,base_of e (noA e d),d,r⟩;have hKb:K.In (mv s₁.heap H):=fun b o e=>base_of (KX b o e) (by
   cases q:H b with
   |none=>rfl
   |some u=>
    have e':b=a:=hA b (by rw [q];simp)
    subst e';rw [hK (by rw [q];simp)] at e;cases e)
  have hM:Mod K mg (mv s₁.heap H):=⟨hKb,nsK hns,⟨mb,nsK hb,hbb⟩,let ⟨mc,h1,h2⟩:=hlim;⟨mc,nsK h1,h2⟩⟩;have e0:Env0 P w K mg (mv s₁.heap H) callerA [] s₁ H:=⟨rfl,hM,fun b o e=>B2 e,Nat.le_of_eq (vf _ _),trivial,fun b hb=>absurd (show b∈([]:List Addr) from hb) (by simp),hok,.of_eq hg⟩
  refine codeAny_mono ((F _ hKb (nsK hns)).run callerA [] s₁ H ⟨[.ref a],[]⟩ [.ref a] [.ref a] _ _ hr e0 (hbind s₁ (.ref a)) (.cons rfl .nil) (hsp H hO hS)) fun r s' h=>?_;cases r with
  |error e=>exact (hCX H e s' h).elim
  |ok fl=>
   cases fl with
   |next=>exact False.elim h
   |brk=>exact False.elim h
   |cont=>exact False.elim h
   |ret u=>
    obtain ⟨v,H',os,bare,un,hok',r',q⟩:=h;have q':v=.bl true:=q;subst q';obtain rfl:u=Value.bool true:=r';refine ⟨rfl,OldK.of_keep fun b o e=>?_,os,bare⟩;cases q:H b with
    |none=>exact un.keep b o e q (by intro z;exact absurd (show b∈([]:List Addr) from z) (by simp)) (by simp)
    |some u=>
     rcases hO b with z|⟨ob,xs,z⟩
     ·rw [q] at z;cases z
     ·have z2:=un.frzs b ob _ z
      obtain ⟨e1,_⟩:=hok b _ z;obtain ⟨e2,_⟩:=hok' b _ z2;rw [e] at e1;cases e1;exact e2
 cases hk:K.lookup a with
 |some o=>
  -- the script is one of the module's own objects
  have e:=KX a o hk;rw [ha] at e;cases e;refine core (fun _=>none) (fun _=>.inl rfl) (.inr ⟨_,vs.toArray,_,hk,rfl,rfl,rfl,by rw [List.size_toArray,lenV];exact hl,by simpa using rv⟩) (fun b u z=>by have z':(none:Option HO)=some u:=z;cases z') (fun b z=>absurd rfl z) fun z=>absurd rfl z
 |none=>
  refine core (fun b=>if b=a then some (.frz { cls:=.type "list",data:=.seq vs.toArray } (.lst (ns.map V.int))) else none) (fun b=>?_) (.inl (.inr ⟨{ cls:=.type "list",data:=.seq vs.toArray },if_pos rfl⟩)) (fun b u z=>?_) (fun b z=>?_) fun _=>hk
  ·by_cases hb:b=a
   ·exact .inr ⟨_,_,if_pos hb⟩
   ·exact .inl (if_neg hb)
  ·by_cases hb:b=a
   ·have z':=(if_pos hb).symm.trans z
    cases z';subst hb;exact ⟨ha,by rw [List.length_map];exact hl,vs,_,rv,ha⟩
   ·have z':=(if_neg hb).symm.trans z
    cases z'
  ·by_cases hb:b=a
   ·exact hb
   ·exact absurd (if_neg hb) z
end L2
namespace L2
open PySem PySem.Spec PyProof.Rows
theorem zC{l:W.OpenLaw}{n k:Nat}{q:Program}{loose:List Str}{XP:(Str->Option Value)->Heap->Prop}{YP:World->Heap->Prop}{d:DefRec}{K:Params->W.Frag}{CX:World->kF}{sp:World->Sp}{x:Str}
  (hn:l.most=some n) (hn2:n<=sizeLine) (hdf:d.params.defaults=[]) (hr:Room k callerA)
  (hY:∀(w:World) (h:Heap),YP w h->(K w.params).In h)
  (F:∀(w:World) (mg:Str->Option Value) (fa:Addr) (h:Heap),(K w.params).In h->h.Ns mainGlobals mg->mg d.name=some (.ref fa)->
   ∃fd:FuncData,(∀(s:Shared) (u:Value),BindsTo s fd ⟨[u],[]⟩ [(x,u)])/\
    ∀base:Heap,(K w.params).In base->base.Ns mainGlobals mg->FnOk l.prog w (K w.params) mg base (CX w) k fa fd [x] (sp w))
  (hsp:∀(w:World) (H:Hp) (a:Addr) (ns:List Int),ns.length<=n->xK H->SqL (K w.params) H a (ns.map V.int)->sp w [.ref a] H (fun v _=>v=.bl true) fun _ _ _=>False)
  (hCX:∀(w:World) (H:Hp) (s:Shared) (e:Value) (s':Shared),CX w [] H s (fun _ _ _=>False) e s'->False):
  W.WalkO q loose XP YP l.row.toRowW d [] (fun f vs=>PySem.call f vs):=by
 refine Att.oj hn hdf fun w s₀ s₁ mg mb fa o pm cd doc a vs ns G Y ho hd hcd hmg hobj hints hlen hg=>?_;have KX:=hY w _ Y;obtain ⟨fd,hb,hF⟩:=F w mg fa _ KX G.T.g hmg;exact wJ KX G.T.g G.T.b G.T.builtins G.T.nolimit hg hobj hints (Nat.le_trans hlen hn2) hr hF hb (fun H hO hS=>hsp w H a ns hlen hO hS) fun H e s'=>hCX w H s₁ e s'
end L2
namespace L2
open PySem PySem.Spec PyProof.Rows
def cQ(s:Stmt)(j:Nat):Stmt:=match s with
 |.ClassDef _ _ _ body _ _ _ _ _ _ _=>body.getD j (.Pass ⟨0,0,0,0⟩)
 |_=>.Pass ⟨0,0,0,0⟩
def bG(s:Stmt):Arguments:=match s with
 |.FunctionDef _ a _ _ _ _ _ _ _ _=>a
 |_=>{ posonlyargs:=[],args:=[],vararg:=none,kwonlyargs:=[],kw_defaults:=[],kwarg:=none,defaults:=[] }
def bf(s:Stmt):List Stmt:=match s with
 |.FunctionDef _ _ b _ _ _ _ _ _ _=>b
 |_=>[]
def aA(s:Stmt):Scope:=match s with
 |.FunctionDef _ _ _ _ _ _ sc _ _ _=>sc
 |_=>{ kind:=.function,names:=[],isGenerator:=false,isCoroutine:=false }
abbrev CX0:kF:=fun _ _ _ _ _ _=>False
abbrev E0:XK:=fun _ _ _=>False
structure Fun(K:W.Frag)(x qual:Str)(st:Stmt)(f:Addr)(fd:FuncData):Prop where
 ex:∃(oc:Value) (od:Option Addr) (kV doc pm:Value) (an:Option Addr) (cdv ct:Value) (osl:Array (Option Value)),
  fd=W.fnOf x qual (bG st) (bf st) (aA st) .none kV doc pm an cdv ct/\K.lookup f=some ⟨oc,od,.func fd,osl⟩/\W.codeIn K cdv qual=true
 kp:W.keepIn K (.ref f)=true
section
variable {P:Program}{w:World}{K:W.Frag}{mg:Str->Option Value}{base:Heap}
theorem Fun.binds{x qual:Str}{st:Stmt}{f:Addr}{fd:FuncData}{ps:List Str}(F:Fun K x qual st f fd)
  (h:∀(kV doc pm:Value) (an:Option Addr) (cdv ct:Value) (us:List Value),us.length=ps.length->bindArgs (W.fnOf x qual (bG st) (bf st) (aA st) .none kV doc pm an cdv ct) ⟨us,[]⟩=pure (ps.zip us)):Binds K fd ps []:=by
 obtain ⟨oc,od,kV,doc,pm,an,cdv,ct,osl,rfl,lk,hcd⟩:=F.ex;exact .all (h kV doc pm an cdv ct)
theorem qk{x qual:Str}{st:Stmt}{f:Addr}{oc:Value}{od an:Option Addr}{osl:Array (Option Value)}{kV doc pm cdv ct:Value}(l:K.lookup f=some ⟨oc,od,.func (W.fnOf x qual (bG st) (bf st) (aA st) .none kV doc pm an cdv ct),osl⟩)
  (c:W.codeIn K cdv qual=true) (k:W.keepIn K (.ref f)=true):Fun K x qual st f (W.fnOf x qual (bG st) (bf st) (aA st) .none kV doc pm an cdv ct):=⟨⟨oc,od,kV,doc,pm,an,cdv,ct,osl,rfl,l,c⟩,k⟩
end
theorem n_{A:Around}{k:Nat}(hr:Room k A):A.units+1<cLine:=Nat.lt_of_le_of_lt (Nat.add_le_add_left (by decide:1<=64) _) hr.units
section
variable {X:Cx}
theorem vR:bI X (.builtin "len") (fun xs H Q=>∃a kvs,xs=[V.ref a]/\H a=some (.dK kvs)/\Q (.int kvs.length) H):=by
 intro pins s σ H xs us Q I r h;obtain ⟨a,kvs,rfl,ha,q⟩:=h;obtain ⟨u,rfl,ru⟩:=jV r;cases ru;exact Hi I (.inl ha) fun t s' I'=>⟨.int kvs.length,H,I',⟨t,rfl⟩,q⟩
end
section
variable {κ:Type}[DecidableEq κ]
end
end L2
namespace L2
open PySem PySem.Spec PyProof.Rows
section
variable {prog:Program}{w:World}{A:Around}{R:Result->Shared->Prop}{s:Shared}
theorem fV{elt target iter:Expr}{ifs:List Expr}{scope:Scope}{pos:Pos}{it acc:Value}{env:Env}(I:Nat->Shared->Prop)
  (turn:∀n s,I n s->wpAny (model prog w) A (pyNext it) (fun r s₁=>match r with
   |none=>R (.ok .next) s₁
   |some v=>wpAny (model prog w) A (letOwnedTupleGo target it v) (fun _ s₂=>wpAny (model prog w) A (assign target env v) (fun _ s₃=>
     wpAny (model prog w) A (forIn ifs true fun c r=>if r=true then do let ok <- isTrue c env (eval c env);pure (ForInStep.yield ok) else pure (ForInStep.yield r)) (fun ok s₄=>
      if ok=true then wpAny (model prog w) A (eval elt env) (fun x s₅=>
       wpAny (model prog w) A (call (.builtin "list.append") [acc,x]) (fun _ s₆=>∃m,m<n/\I m s₆) (fun _ _=>False) s₅) (fun _ _=>False) s₄
      else ∃m,m<n/\I m s₄) (fun _ _=>False) s₃) (fun _ _=>False) s₂) (fun _ _=>False) s₁) (fun _ _=>False) s)
  (n:Nat) (h:I n s):
  codeAny (model prog w) A (.compLoop (.ListComp elt [⟨target,iter,ifs,0⟩] scope pos) 0 it acc env) R s:=by
 refine codeAny_loop rfl I (fun n s hI=>?_) n h;show wpAny _ A ((compTurn (.ListComp elt [⟨target,iter,ifs,0⟩] scope pos) 0 it acc env).onRaise (fun x=>do noteFrame x env;theTreesLotGoes x)) _ _ s
 refine wpAny_noted ?_;rw [compTurn_list];refine wpAny_bind (wpAny_standAt (wpAny_bind (wpAny_mono (turn n s hI) (fun r s₁ h₁=>?_) fun _ _ z=>z.elim)));cases r with
 |none=>exact wpAny_pure h₁
 |some v=>
  refine wpAny_bind (wpAny_mono h₁ (fun _ s₂ h₂=>wpAny_bind (wpAny_mono h₂ (fun _ s₃ h₃=>wpAny_bind (wpAny_mono h₃ (fun ok s₄ h₄=>?_) fun _ _ z=>z.elim)) fun _ _ z=>z.elim)) fun _ _ z=>z.elim);cases ok with
  |false=>exact wpAny_pure ⟨rfl,h₄⟩
  |true=>
   exact wpAny_bind (wpAny_bind (wpAny_mono h₄ (fun x s₅ h₅=>wpAny_bind (wpAny_mono h₅ (fun _ s₆ h₆=>wpAny_pure (wpAny_pure ⟨rfl,h₆⟩)) fun _ _ z=>z.elim)) fun _ _ z=>z.elim))
end
def aU(X:Cx)(N:List Str)(scope:Scope)(cl:List (Str×Addr))(C:Addr)(s₀:Shared)(H₀:Hp)(fp:List Addr)(pl:List (Addr×Obj)):Cx where
 prog:=X.prog
 w:=X.w
 K:=X.K
 mg:=X.mg
 base:=X.base
 A:=X.A
 N:=N
 s₀:=s₀
 H₀:=H₀
 env:=compEnvC scope cl C X.env
 outer:=X.stack
 stack:=X.stack
 ex:=fp
 fn:=fun _=>false
 calm:=X.calm
 pn:=X.pn++pl
 xe:=fun _ _=>False
inductive Frees(X:Cx)(scope:Scope):List Str->List Nat->Prop where
 |nil:Frees X scope [] []
 |cons {x:Str} {j:Nat} {xs:List Str} {js:List Nat}:X.N[j]?=some x->(X.env.kindOf x=some .cell\/X.env.kindOf x=some .free)->
   ((relabel scope X.env).names.lookup x=some .cell\/(relabel scope X.env).names.lookup x=some .free)->Frees X scope xs js->Frees X scope (x::xs) (j::js)
theorem Frees.length{X:Cx}{scope:Scope}:∀{xs:List Str} {js:List Nat},Frees X scope xs js->xs.length=js.length
 |_,_,.nil=>rfl
 |_,_,.cons _ _ _ t=>congrArg (·+1) t.length
theorem Frees.get{X:Cx}{scope:Scope}:∀{xs:List Str} {js:List Nat},Frees X scope xs js->∀{i:Nat} {x:Str},xs[i]?=some x->∃j,js[i]?=some j/\X.N[j]?=some x/\(X.env.kindOf x=some .cell\/X.env.kindOf x=some .free)/\
   ((relabel scope X.env).names.lookup x=some .cell\/(relabel scope X.env).names.lookup x=some .free)
 |_,_,.nil,i,x,h=>by simp at h
 |_,_,.cons a b c _,0,x,h=>by simp at h;subst h;exact ⟨_,rfl,a,b,c⟩
 |_,_,.cons _ _ _ t,i+1,x,h=>by
  obtain ⟨j,h1,h2⟩:=t.get (i:=i) (x:=x) (by simpa using h)
  exact ⟨j,by simpa using h1,h2⟩
def bp(ls:List Str)(js:List Nat)(σ:St):St:=ls.map (fun _=>none)++js.map fun j=>(σ[j]?).join
structure CompOk(X:Cx)(scope:Scope)(cl:List (Str×Addr))(ls fs:List Str)(js:List Nat):Prop where
 kind:scope.kind=.function
 nocell:∀y∈scope.names,y.2≠.cell
 locs:∀x∈scope.names,x.2=.local->scope.names.lookup x.1=some .local
 clos:closureFor scope X.env=pure cl
 cells:∀x c,cl.lookup x=some c->X.env.cells.lookup x=some c
 has:∀x,((relabel scope X.env).names.lookup x=some .cell\/(relabel scope X.env).names.lookup x=some .free)->∃c,cl.lookup x=some c
 frees:Frees X scope fs js
theorem yP{X:Cx}{pins:List (Addr×Obj)}{σ:St}{H:Hp}{s:Shared}{scope:Scope}{cl:List (Str×Addr)}{ls fs:List Str}{js:List Nat}{fp:List Addr}{h₁:Heap}{m:Str->Option Value}{t':Nat}
  (I:Inv X pins σ H s) (co:CompOk X scope cl ls fs js) (hfp:∀b∈fp,dE X pins H b/\b<s.heap.objs.size) (hns:h₁.Ns s.heap.objs.size m) (hk:∀b o,s.heap.get? b=some o->h₁.get? b=some o):
  Inv (aU X (ls++fs) scope cl s.heap.objs.size s H fp pins) [] (bp ls js σ) H { s with heap:=h₁,toks:=t' }:=by
 have lk:∀b o,s.heap.get? b=some o->b≠s.heap.objs.size:=fun b o e=>Nat.ne_of_lt (Heap.lt_size e);refine ⟨⟨I.ok.mod,co.kind,I.ok.glob,I.ok.blt,Nat.le_refl _,fun x y c h1 h2=>?_,fun x hx=>co.has x hx,fun x c h _=>absurd (show false=true from h) Bool.false_ne_true,I.ok.hd,I.ok.frames,.inl rfl,fun b hb=>⟨Nat.ne_of_lt (hfp b hb).2,fun x c e=>?_⟩,
   fun b o e=>I.bs b o e,Nat.le_trans I.ok.bsz I.sz,fun b o e hb=>?_,fun b hb hf=>?_,I.stack,fun b hb=>I.stkFree b hb⟩,
  rfl,I.bare,Un.kept hk,⟨m,hns,fun i x v h1 h2 h3=>?_⟩,fun x c e=>?_,I.hok.fresh (Nat.le_refl _),fun x c e=>I.freeC x c (co.cells x c e),fun p hp=>?_,I.hok.kept hk,?_⟩
 ·exact I.ok.inj x y c (co.cells x c h1) (co.cells y c h2)
 ·exact (hfp b hb).1.2.2.2.2.1 x c (co.cells x c e)
 ·obtain ⟨f0,f1,f2,f3,_⟩:=(hfp b hb).1
  rcases f3 with z|z
  ·exact I.ok.noex b o e z
  ·exact absurd (Nat.lt_of_lt_of_le (Heap.lt_size (I.ok.bs b o e).1) z) (Nat.lt_irrefl _)
 ·obtain ⟨f0,f1,f2,f3,_⟩:=(hfp b hb).1
  rcases List.mem_cons.mp (I.stkSub b hf) with z|z
  ·exact f1 z
  ·exact f2 z
 ·have hi:¬i<ls.length:=fun hi=>by
   have h2':(bp ls js σ)[i]?=some (some v):=h2;unfold bp at h2';rw [List.getElem?_append_left (by simpa using hi),List.getElem?_map,List.getElem?_eq_getElem hi] at h2'
   cases h2'
  have hN:fs[i-ls.length]?=some x:=by
   have h1':(ls++fs)[i]?=some x:=h1
   rwa [List.getElem?_append_right (by lia)] at h1'
  obtain ⟨j,hj,hx,hc,hl⟩:=co.frees.get hN;have hσ:σ[j]?=some (some v):=by
   have h2':(bp ls js σ)[i]?=some (some v):=h2;unfold bp at h2';rw [List.getElem?_append_right (by simpa using hi),List.length_map,List.getElem?_map,hj] at h2'
   have q:(σ[j]?).join=some v:=by simpa using h2'
   cases e:σ[j]? with
   |none=>rw [e] at q;cases q
   |some o=>rw [e] at q;have q':o=some v:=q;rw [q']
  obtain ⟨mX,_,hlX⟩:=I.loc;have vis:CQ X.env.scope x:=by
   rcases hc with z|z
   ·exact .inr (.inl z)
   ·exact .inr (.inr z)
  obtain ⟨u,ru,lo⟩:=hlX j x v hx hσ vis;refine ⟨u,ru,.inr ⟨hl,?_⟩⟩;obtain ⟨c,ec⟩:=co.has x hl;refine ⟨c,ec,?_⟩;rcases lo with ⟨kl,_⟩|⟨_,c',e',z⟩
  ·rcases hc with q|q<;>(rw [q] at kl;cases kl)
  ·rw [co.cells x c ec] at e'
   cases e';obtain ⟨o,ho,hd⟩:=z;exact ⟨o,hk _ _ ho,hd⟩
 ·obtain ⟨v,o,ho,hd⟩:=I.cell x c (co.cells x c e)
  exact ⟨v,o,hk _ _ ho,hd⟩
 ·have hp':p∈X.pn++pins:=by
   have q:p∈(X.pn++pins)++[]:=hp;simpa using q
  obtain ⟨e,n,ne,nf,d⟩:=I.pin p hp';refine ⟨hk _ _ e,n,lk _ _ e,fun hb=>?_,d⟩;rcases List.mem_cons.mp (I.stkSub p.1 hb) with z|z
  ·exact ne z
  ·exact nf z
 ·show (bp ls js σ).length=(ls++fs).length
  unfold bp;rw [List.length_append,List.length_map,List.length_map,List.length_append,co.frees.length]
def AC(X:Cx)(ifs:List Expr)(t:TT):Prop:=
 ∀(pins:List (Addr×Obj)) (s:Shared) (σ:St) (H:Hp) (Q:Bool->Hp->Prop),Inv X pins σ H s->t σ H Q->
  wpAny (model X.prog X.w) X.A (forIn ifs true fun c r=>if r=true then do let ok <- isTrue c X.env (eval c X.env);pure (ForInStep.yield ok) else pure (ForInStep.yield r)) (TP X pins σ Q) X.xe s
def tAll:TT:=fun _ H Q=>Q true H
theorem A4{X:Cx}:AC X [] tAll:=fun _ _ _ H _ I h=>wpAny_tests_nil ⟨H,I,h⟩
theorem zH{X:Cx}{c:Expr}{t:TT}(h:PT X c t):AC X [c] t:=fun pins s σ H Q I q=>wpAny_tests_one (h pins s σ H Q I q)
def sZ(wi:TI)(ls:List Str)(js:List Nat)(g:TG)(tt:TT)(te:TE):TE:=fun σ H Q=>wi σ H fun J H1=>∀p,H1 p=none->∃W:Nat->Nat->St->Hp->Prop,(∃m,W 0 m (bp ls js σ) (upd H1 p (.lst [])))/\∀i m σ' H',W i m σ' H'->
 (J.stop i H'/\Q (.ref p) H')\/(J.go i H'/\∃N:St->Hp->Prop,(∀σ2 H2,N σ2 H2->∃m',m'<m/\W (i+1) m' σ2 H2)/\∀x H2,J.yld i H' x H2->g x σ' H2 fun σ3 H3=>tt σ3 H3 fun c H4=>
  if c=true then te σ3 H4 fun y H5=>∃ys,H5 p=some (.lst ys)/\ys.length<sizeLine/\N σ3 (upd H5 p (.lst (ys++[y]))) else N σ3 H4)
section
variable {X:Cx}{tg iter elt:Expr}{ifs:List Expr}{scope:Scope}{cl:List (Str×Addr)}{pos:Pos}{ls fs:List Str}{js:List Nat}{wi:TI}{g:TG}{tt:TT}{te:TE}
theorem o5{pins:List (Addr×Obj)}{σ:St}{s2:Shared}{it:Addr}{fp:List Addr}{tn:Nat->Heap->Prop}{J:It}{H1:Hp}{R:Value->Addr->Result->Shared->Prop}{Q:VK}{E:Value->Shared->Prop}(hc:X.calm=true)(co:CompOk X scope cl ls fs js)
  (hY:∀(C:Addr) (s₀:Shared) (H₀:Hp) (fp:List Addr) (pl:List (Addr×Obj)),PG (aU X (ls++fs) scope cl C s₀ H₀ fp pl) tg g/\AC (aU X (ls++fs) scope cl C s₀ H₀ fp pl) ifs tt/\PE (aU X (ls++fs) scope cl C s₀ H₀ fp pl) elt te)
  (I:Inv X pins σ H1 s2) (T:Turn X.prog X.w X.K tg J fp it tn) (st:tn 0 s2.heap) (hf:∀b∈fp,dE X pins H1 b)
  (q:∀p,H1 p=none->∃W:Nat->Nat->St->Hp->Prop,(∃m,W 0 m (bp ls js σ) (upd H1 p (.lst [])))/\∀i m σ' H',W i m σ' H'->
   (J.stop i H'/\Q (.ref p) H')\/(J.go i H'/\∃N:St->Hp->Prop,(∀σ2 H2,N σ2 H2->∃m',m'<m/\W (i+1) m' σ2 H2)/\∀x H2,J.yld i H' x H2->g x σ' H2 fun σ3 H3=>tt σ3 H3 fun c H4=>
    if c=true then te σ3 H4 fun y H5=>∃ys,H5 p=some (.lst ys)/\ys.length<sizeLine/\N σ3 (upd H5 p (.lst (ys++[y]))) else N σ3 H4))
  (hR:∀(p C:Addr) (H':Hp) (s':Shared) (m:Str->Option Value),s'.heap.Ns C m->Inv X pins σ H' s'->H' C=none->C≠X.env.locals->X.s₀.heap.objs.size<=C->(∀x c,X.env.cells.lookup x=some c->c≠C)->(∀pp∈X.pn++pins,pp.1≠C)->Q (.ref p) H'->R (.ref p) C (.ok .next) s'):
  wpAny (model X.prog X.w) X.A (newList []) (fun acc s₃=>wpAny (model X.prog X.w) X.A (newFunctionEnv scope X.env.globals cl [] X.env.qual none .none (some X.env)) (fun cenv s₄=>
   codeAny (model X.prog X.w) X.A (.compStart (.ListComp elt [⟨tg,iter,ifs,0⟩] scope pos) 0 (.ref it) acc { cenv with scope:=relabel scope X.env }) (R acc cenv.locals) s₄) E s₃) E s2:=by
 have hp0:H1 s2.heap.objs.size=none:=I.hok.fresh (Nat.le_refl _);obtain ⟨W,⟨m0,w0⟩,turn⟩:=q s2.heap.objs.size hp0;refine wpAny_newObj_type (wpAny_newFunctionEnv co.nocell (by intro y hy;simp at hy) (fun h₁ hns₁ hsb₁=>?_) co.kind)
 dsimp only at hns₁ hsb₁ ⊢;have I3:Inv X pins σ (upd H1 s2.heap.objs.size (.lst [])) { s2 with heap:=s2.heap.push { cls:=.type "list",dict:=none,data:=.seq ([]:List Value).toArray } }:=
  I.lnew (its:=[]) (t':=s2.toks) .nil (Nat.zero_le _)
 generalize hs3:({ s2 with heap:=s2.heap.push { cls:=.type "list",dict:=none,data:=.seq ([]:List Value).toArray } }:Shared)=s3 at I3;have hh3:s2.heap.push { cls:=.type "list",dict:=none,data:=.seq ([]:List Value).toArray }=s3.heap:=by rw [<- hs3]
 rw [hh3] at hns₁ hsb₁ ⊢;have hsz3:s3.heap.objs.size=s2.heap.objs.size+1:=by rw [<- hh3,Heap.size_push]
 have hk3:∀b o,s2.heap.get? b=some o->s3.heap.get? b=some o:=fun b o e=>by rw [<- hh3];exact Heap.get?_push_of_some _ e
 have hlt:∀b∈fp,b<s2.heap.objs.size:=fun b hb=>by
  obtain ⟨o,e,_⟩:=T.obj _ _ st b hb;exact Heap.lt_size e
 have hnp:∀b∈fp,upd H1 s2.heap.objs.size (.lst []) b=none:=fun b hb=>by
  rw [av (Nat.ne_of_lt (hlt b hb))];exact (hf b hb).1
 have hf3:∀b∈fp,dE X pins (upd H1 s2.heap.objs.size (.lst [])) b/\b<s3.heap.objs.size:=fun b hb=>⟨⟨hnp b hb,(hf b hb).2⟩,by rw [hsz3];exact Nat.lt_succ_of_lt (hlt b hb)⟩
 have hk4:∀b o,s3.heap.get? b=some o->h₁.get? b=some o:=fun b o e=>hsb₁.extBut b o (Nat.ne_of_lt (Heap.lt_size e)) (Heap.get?_push_of_some _ e);have st4:tn 0 h₁:=T.keep _ _ _ st fun b hb o e=>hk4 b o (hk3 b o e);have I4:=yP (t':=s3.toks) I3 co hf3 hns₁ hk4;obtain ⟨hg,ht,he⟩:=hY s3.heap.objs.size s3 (upd H1 s2.heap.objs.size (.lst [])) fp pins;have stat:∀{H':Hp},(∀b∈fp,H' b=none)->∀b∈fp,dE (aU X (ls++fs) scope cl s3.heap.objs.size s3 (upd H1 s2.heap.objs.size (.lst [])) fp pins) [] H' b:=fun {H'} hn b hb=>by
  obtain ⟨f0,f1,f2,f3,f4,f5⟩:=hf b hb;refine ⟨hn b hb,Nat.ne_of_lt (hf3 b hb).2,fun z=>?_,.inl hb,fun x c e=>f4 x c (co.cells x c e),fun pp hp=>f5 pp ?_⟩
  ·rcases List.mem_cons.mp (I3.stkSub b z) with y|y
   ·exact f1 y
   ·exact f2 y
  ·have q:pp∈(X.pn++pins)++[]:=hp
   simpa using q
 have loop:∀s₄:Shared,s₄={ s3 with heap:=h₁,toks:=s3.toks }->
   codeAny (model X.prog X.w) X.A (.compLoop (.ListComp elt [⟨tg,iter,ifs,0⟩] scope pos) 0 (.ref it) (.ref s2.heap.objs.size) (compEnvC scope cl s3.heap.objs.size X.env)) (R (.ref s2.heap.objs.size) s3.heap.objs.size) s₄:=by
  rintro s₄ rfl
  refine fV (fun n s'=>∃i σ' H',Inv (aU X (ls++fs) scope cl s3.heap.objs.size s3 (upd H1 s2.heap.objs.size (.lst [])) fp pins) [] σ' H' s'/\tn i s'.heap/\(∀b∈fp,H' b=none)/\W i n σ' H') ?_ m0 ⟨0,_,_,I4,st4,hnp,w0⟩
  rintro n s5 ⟨i,σ5,H5,I5,st5,fr5,w5⟩
  rcases turn i n σ5 H5 w5 with ⟨stop,qn⟩|⟨go,N,hN,step⟩
  ·refine a_ (T.done (aU X (ls++fs) scope cl s3.heap.objs.size s3 (upd H1 s2.heap.objs.size (.lst [])) fp pins) rfl rfl rfl hc i [] s5 σ5 H5 _ I5 (stat fr5) st5 stop) fun r s6 ⟨hr,I6⟩=>?_
   subst hr;obtain ⟨m6,hn6,_⟩:=I6.loc;have IX:Inv X pins σ H5 s6:=I3.call' I6.os I6.base I6.hok I6.bare fun b hb=>⟨(hf b hb).2.2.2.1,(hf b hb).2.1,(hf b hb).2.2.2.2.1,(hf b hb).2.2.2.2.2⟩;refine hR _ _ H5 s6 m6 hn6 IX I6.free (Nat.ne_of_gt I3.lt) I3.sz (fun x c e z=>?_) (fun pp hp z=>?_) qn
   ·obtain ⟨v,zz⟩:=I3.cell x c e
    have zl:=zz.lt;rw [z] at zl;exact Nat.lt_irrefl _ zl
   ·have zl:=Heap.lt_size (I3.pin pp hp).1
    rw [z] at zl;exact Nat.lt_irrefl _ zl
  ·refine a_ (T.item (aU X (ls++fs) scope cl s3.heap.objs.size s3 (upd H1 s2.heap.objs.size (.lst [])) fp pins) rfl rfl rfl hc i [] s5 σ5 H5 _ I5 (stat fr5) st5 go) fun r s6 ⟨u,hr,h6⟩=>?_
   subst hr;refine a_ h6 fun _ s7 ⟨x,H7,I7,r7,y7,st7,fr7⟩=>?_;have I7':=I7.pinned (stat fr7) (T.obj _ _ st7);refine a_ (hg _ s7 σ5 H7 x u _ I7' r7 (step x H7 y7)) fun _ s8 ⟨σ8,H8,I8,q8⟩=>?_
   have again:∀{σ9:St} {H9:Hp} {s9:Shared},Inv (aU X (ls++fs) scope cl s3.heap.objs.size s3 (upd H1 s2.heap.objs.size (.lst [])) fp pins) ([]++gP fp s7.heap) σ9 H9 s9->N σ9 H9->
     ∃m,m<n/\∃i σ' H',Inv (aU X (ls++fs) scope cl s3.heap.objs.size s3 (upd H1 s2.heap.objs.size (.lst [])) fp pins) [] σ' H' s9/\tn i s9.heap/\(∀b∈fp,H' b=none)/\W i m σ' H':=fun {σ9 H9 s9} I9 n9=>by
    obtain ⟨m',hm,w9⟩:=hN σ9 H9 n9;refine ⟨m',hm,i+1,σ9,H9,I9.unpinned,T.keep _ _ _ st7 fun b hb o e=>(I9.pin (b,o) (List.mem_append_right _ (List.mem_append_right _ (bY hb e)))).1,fun b hb=>?_,w9⟩;obtain ⟨o,e,d⟩:=T.obj _ _ st7 b hb;exact (I9.pin (b,o) (List.mem_append_right _ (List.mem_append_right _ (bY hb e)))).2.1
   refine a_ (ht _ s8 σ8 H8 _ I8 q8) fun ok s9 ⟨H9,I9,q9⟩=>?_;cases ok with
   |false=>exact again I9 q9
   |true=>
    refine a_ (he _ s9 σ8 H9 _ I9 q9) fun xv s10 ⟨y,H10,I10,r10,ys,hp,hl,n10⟩=>?_;obtain ⟨z,its,n',r,hl',e⟩:=I10.lstM hp;refine call_meets F.slot_list_append ⟨_,e,rfl⟩ F.entry_list_append (F.args_list_append_2 _ _) (PySem.list_append s2.heap.objs.size its.toArray n' xv (by rw [List.size_toArray];lia)) ⟨e,?_⟩
    refine again (I10.lset (its':=its++[xv]) hp e (by simp) (r.append (.cons r10 .nil)) ?_) n10
    rw [List.length_append,List.length_singleton];lia
 have se:({ s2 with heap:=h₁,toks:=s2.toks+([]:List (Str×Value)).length }:Shared)={ s3 with heap:=h₁,toks:=s3.toks }:=by rw [<- hs3];rfl
 exact codeAny_compStart_list (loop _ se) (T.self _ 0 _ _ _ st4 (loop _ se))
theorem B1(hc:X.calm=true)(co:CompOk X scope cl ls fs js)(hi:PI X tg iter wi)
  (hY:∀(C:Addr) (s₀:Shared) (H₀:Hp) (fp:List Addr) (pl:List (Addr×Obj)),PG (aU X (ls++fs) scope cl C s₀ H₀ fp pl) tg g/\AC (aU X (ls++fs) scope cl C s₀ H₀ fp pl) ifs tt/\PE (aU X (ls++fs) scope cl C s₀ H₀ fp pl) elt te)
  (hs:∀x,foldedSetIterable iter X.env x=pure x:=by intro _;rfl):PE X (.ListComp elt [⟨tg,iter,ifs,0⟩] scope pos) (sZ wi ls js g tt te):=by
 intro pins s σ H Q I h;rw [eval_ListComp];refine wpAny_comprehension_free (use:=none) rfl hs co.clos co.kind co.locs (a_ (hi pins s σ H _ I h) fun xv s1 h1=>a_ h1 fun itv s2 h2=>?_);obtain ⟨it,fp,tn,J,H2,e,I2,T,st2,f2,q⟩:=h2;subst e;refine o5 (R:=fun acc C=>compPost (model X.prog X.w) X.A X.xe none (EP X pins σ Q) acc C) (Q:=Q) hc co hY I2 T st2 f2 q ?_;intro p C H' s' m hn IX hC hL hge hcell hpin hq;exact ⟨m,hn,fun h' sb=>⟨.ref p,H',IX.turned (t':=s'.toks) (fun b o hb e=>sb.extBut b o hb e) hC hL (.inr hge) hcell hpin,rfl,hq⟩⟩
def DC(i:Nat)(t:TE):TS:=fun D σ H=>t σ H fun v H1=>D.nx (σ.set i (some v)) H1
theorem Ae{i:Nat}{x:Str}{px spos:Pos}(hN:X.N.Nodup)(hix:X.N[i]?=some x)(hx:wj X.env.scope x)(hc:X.calm=true)(co:CompOk X scope cl ls fs js)(hi:PI X tg iter wi)
  (hY:∀(C:Addr) (s₀:Shared) (H₀:Hp) (fp:List Addr) (pl:List (Addr×Obj)),PG (aU X (ls++fs) scope cl C s₀ H₀ fp pl) tg g/\AC (aU X (ls++fs) scope cl C s₀ H₀ fp pl) ifs tt/\PE (aU X (ls++fs) scope cl C s₀ H₀ fp pl) elt te)
  (hsw:swapsWith (.ListComp elt [⟨tg,iter,ifs,0⟩] scope pos) (some (.Name x px)) spos.line X.env=pure true:=by rfl)
  (hs:∀x,foldedSetIterable iter X.env x=pure x:=by intro _;rfl) (hf:X.fn x=true\/X.env.scope.names.lookup x=some .local:=by first|exact .inl rfl|exact .inr rfl|assumption):
  PS X (.Assign [.Name x px] (.ListComp elt [⟨tg,iter,ifs,0⟩] scope pos) spos) (DC i (sZ wi ls js g tt te)):=by
 intro pins s σ H D I h;rw [exec_Assign_Name_used _ _ _ _ hsw];refine wpAny_bind (wpAny_standAt (wpAny_bind ?_));show wpAny _ X.A (do let _ <- comprehension (.ListComp elt [⟨tg,iter,ifs,0⟩] scope pos) scope X.env _ (newList []) false (eval iter X.env) (some (assign (.Name x px) X.env))) _ _ s
 refine wpAny_bind (wpAny_mono (wpAny_comprehension_free (use:=some (assign (.Name x px) X.env)) (Q:=fun _ s'=>SP X pins D .next s') rfl hs co.clos co.kind co.locs
  (a_ (hi pins s σ H _ I h) fun xv s1 h1=>a_ h1 fun itv s2 h2=>?_)) (fun _ s' hq=>wpAny_pure (wpAny_pure hq)) fun _ _ e=>e)
 obtain ⟨it,fp,tn,J,H2,e,I2,T,st2,f2,q⟩:=h2;subst e;refine o5 (R:=fun acc C=>compPost (model X.prog X.w) X.A X.xe (some (assign (.Name x px) X.env)) (fun _ s'=>SP X pins D .next s') acc C) (Q:=fun v H1=>D.nx (σ.set i (some v)) H1) hc co hY I2 T st2 f2 q ?_;intro p C H' s' m hn IX hC hL hge hcell hpin hq;show wpAny _ X.A (assign (.Name x px) X.env (.ref p)) _ _ _;refine wpAny_assign_Name (kS IX hN hix hx (v:=.ref p) rfl (fun s'' I'' hb=>?_) hf);obtain ⟨a,sb,ha⟩:=hb;have hne:C≠a:=by
  rcases ha with z|z
  ·rw [z];exact hL
  ·exact fun y=>hcell x a z y.symm
 refine ⟨m,hn.sameBut sb hne,fun h3 sb3=>?_⟩;exact ⟨_,H',I''.turned (t':=s''.toks) (fun b o hb e=>sb3.extBut b o hb e) hC hL (.inr hge) hcell hpin,hq⟩
end
end L2
namespace L2
open PySem PySem.Spec PyProof.Rows
def SrcTn(b:Bool)(it a:Addr)(i:Nat)(h:Heap):Prop:=if b=true then h.IsListIter it a i else h.IsTupleIter it a i
def SrcSq(b:Bool)(h:Heap)(a:Addr)(items:Array Value):Prop:=if b=true then h.IsList a items else h.IsTuple a items
theorem SrcTn.lt{b:Bool}{it a:Addr}{i:Nat}{h:Heap}(x:SrcTn b it a i h):∃o,h.get? it=some o/\∀v,o.data≠.cell v:=by
 cases b with
 |true=>obtain ⟨o,e,c,d⟩:=(show h.IsListIter it a i from x);exact ⟨o,e,fun v z=>by rw [d] at z;cases z⟩
 |false=>obtain ⟨o,e,c,d⟩:=(show h.IsTupleIter it a i from x);exact ⟨o,e,fun v z=>by rw [d] at z;cases z⟩
theorem SrcTn.keep{b:Bool}{it a:Addr}{i:Nat}{h h':Heap}(x:SrcTn b it a i h)(k:∀o,h.get? it=some o->h'.get? it=some o):SrcTn b it a i h':=by
 cases b with
 |true=>obtain ⟨o,e,r⟩:=(show h.IsListIter it a i from x);exact (show h'.IsListIter it a i from ⟨o,k o e,r⟩)
 |false=>obtain ⟨o,e,r⟩:=(show h.IsTupleIter it a i from x);exact (show h'.IsTupleIter it a i from ⟨o,k o e,r⟩)
theorem SrcSq.keep{b:Bool}{a:Addr}{items:Array Value}{h h':Heap}(x:SrcSq b h a items)(k:∀o,h.get? a=some o->h'.get? a=some o):SrcSq b h' a items:=by
 cases b with
 |true=>obtain ⟨o,e,r⟩:=(show h.IsList a items from x);exact (show h'.IsList a items from ⟨o,k o e,r⟩)
 |false=>obtain ⟨o,e,r⟩:=(show h.IsTuple a items from x);exact (show h'.IsTuple a items from ⟨o,k o e,r⟩)
section
variable {prog:Program}{w:World}{A:Around}{E:Value->Shared->Prop}{s:Shared}
theorem fW{it l:Addr}{i:Nat}{items:Array Value}{x:Value}{Q:Value->Shared->Prop}(hit:s.heap.IsTupleIter it l i)(hl:s.heap.IsTuple l items)(hx:items[i]?=some x)
  (hQ:∀h',h'.IsTupleIter it l (i+1)->Heap.SameBut it s.heap h'->Q x { s with heap:=h' }):wpAny (model prog w) A (Builtin.SmallTypes.nextOf (.ref it)) Q E s:=by
 obtain ⟨o,ho,hc,hd⟩:=id hit;obtain ⟨ol,hol,_,nl,hdl⟩:=hl;unfold Builtin.SmallTypes.nextOf
 refine wpAny_bind (wpAny_callSpecial?_slot (name:=Str.ofString "__next__") hit.typeIs F.slot_tuple_iterator_next
  (wpAny_call_entry F.slot_tuple_iterator_next hit.typeIs F.entry_tuple_iterator_next ?_ (F.args_tuple_iterator_next_1 _)))
 show wpAny _ _ (field (.ref it) 0 >>= _) _ _ s;refine wpAny_bind (wpAny_field ho hd (x:=.ref l) rfl ?_);show wpAny _ _ (if (Value.ref l==Value.none)=true then _ else _) _ _ s
 rw [if_neg (show ¬((Value.ref l==Value.none)=true) from Bool.false_ne_true)];show wpAny _ _ (field (.ref it) 1 >>= _) _ _ s;refine wpAny_bind (wpAny_field ho hd (x:=.int i 0) rfl ?_);show wpAny _ _ (seqItems? (.ref l) >>= _) _ _ s;refine wpAny_bind (wpAny_seqItems hol hdl ?_);simp only [Int.toNat_natCast,hx];refine wpAny_bind (wpAny_setField ho hd (by simp) (wpAny_pure ⟨x,rfl,wpAny_pure (hQ _ ?_ (Heap.SameBut.update ..))⟩))
 exact ⟨_,Heap.get?_update_self _ ho (Obj.isFreed_of_fields (Obj.data_mapFields hd _)),(Obj.cls_mapFields ..).trans hc,by
  rw [Obj.data_mapFields hd];simp [rawInt]⟩
theorem gC{it l:Addr}{i:Nat}{items:Array Value}{Q:Value->Shared->Prop}(hh:A.handled=none)(hit:s.heap.IsTupleIter it l i)(hl:s.heap.IsTuple l items)(hx:items[i]?=none)
  (hE:∀h' e,Heap.ExtBut it s.heap h'->(∃o,h'.get? e=some o/\o.cls=.type "StopIteration")->E (.ref e) { s with heap:=h' }):wpAny (model prog w) A (Builtin.SmallTypes.nextOf (.ref it)) Q E s:=by
 obtain ⟨o,ho,hc,hd⟩:=id hit;obtain ⟨ol,hol,_,nl,hdl⟩:=hl;unfold Builtin.SmallTypes.nextOf
 refine wpAny_bind (wpAny_callSpecial?_slot (name:=Str.ofString "__next__") hit.typeIs F.slot_tuple_iterator_next
  (wpAny_call_entry F.slot_tuple_iterator_next hit.typeIs F.entry_tuple_iterator_next ?_ (F.args_tuple_iterator_next_1 _)))
 show wpAny _ _ (field (.ref it) 0 >>= _) _ _ s;refine wpAny_bind (wpAny_field ho hd (x:=.ref l) rfl ?_);show wpAny _ _ (if (Value.ref l==Value.none)=true then _ else _) _ _ s
 rw [if_neg (show ¬((Value.ref l==Value.none)=true) from Bool.false_ne_true)];show wpAny _ _ (field (.ref it) 1 >>= _) _ _ s;refine wpAny_bind (wpAny_field ho hd (x:=.int i 0) rfl ?_);show wpAny _ _ (seqItems? (.ref l) >>= _) _ _ s;refine wpAny_bind (wpAny_seqItems hol hdl ?_);simp only [Int.toNat_natCast,hx];refine wpAny_bind (wpAny_rule (wpAny_bind (wpAny_setField ho hd (by simp) ?_)))
 show wpAny _ _ (newExc (.type "StopIteration") [] >>= _) _ _ _;refine wpAny_bind ?_;simp only [newExc,newTuple];refine wpAny_bind (wpAny_newObj_type ?_ (by size_fits))
 refine wpAny_bind (m:=firstArgMember _ _) (wpAny_of_eq (a:=Value.none) (by first|rfl|(simp only [firstArgMember];rfl)) ?_)
 refine wpAny_newObj_type ?_ (by size_fits)
 simp only [raiseNew];refine wpAny_bind (wpAny_handled ?_)
 first|rw [show A.in1.handled=none from hh]|rw [hh]
 refine wpAny_bind (wpAny_pure (wpAny_throw ?_));exact hE _ _ (((Heap.SameBut.update ..).extBut.push _).push _) ⟨_,Heap.get?_push_size _ rfl,rfl⟩
theorem bc{b:Bool}{it l:Addr}{i:Nat}{items:Array Value}{x:Value}{Q:Value->Shared->Prop}(hit:SrcTn b it l i s.heap)(hl:SrcSq b s.heap l items)(hx:items[i]?=some x)
  (hQ:∀h',SrcTn b it l (i+1) h'->Heap.SameBut it s.heap h'->Q x { s with heap:=h' }):wpAny (model prog w) A (Builtin.SmallTypes.nextOf (.ref it)) Q E s:=by
 cases b with
 |true=>exact wpAny_nextOf_list_item hit hl hx hQ
 |false=>exact fW hit hl hx hQ
theorem bB{b:Bool}{it l:Addr}{i:Nat}{items:Array Value}{Q:Value->Shared->Prop}(hh:A.handled=none)(hit:SrcTn b it l i s.heap)(hl:SrcSq b s.heap l items)(hx:items[i]?=none)
  (hE:∀h' e,Heap.ExtBut it s.heap h'->(∃o,h'.get? e=some o/\o.cls=.type "StopIteration")->E (.ref e) { s with heap:=h' }):wpAny (model prog w) A (Builtin.SmallTypes.nextOf (.ref it)) Q E s:=by
 cases b with
 |true=>exact wpAny_nextOf_list_end hh hit hl hx hE
 |false=>exact gC hh hit hl hx hE
def aF(b:Bool):String:=if b=true then "list_iterator" else "tuple_iterator"
theorem cK{b:Bool}{l:Addr}{items:Array Value}{Q:Value->Shared->Prop}(hl:SrcSq b s.heap l items)
  (hQ:Q (.ref s.heap.objs.size) { s with heap:=s.heap.push { cls:=.type (aF b),data:=.fields #[.ref l,.int 0 0] } }):wpAny (model prog w) A (pyIter (.ref l)) Q E s:=by
 cases b with
 |true=>exact wpAny_pyIter_list hl hQ
 |false=>exact wpAny_pyIter_tuple hl hQ
theorem mV{b:Bool}{h:Heap}{it l:Addr}(e:h.get? it=some { cls:=.type (aF b),data:=.fields #[.ref l,.int 0 0] }):SrcTn b it l 0 h:=by
 cases b with
 |true=>exact (show h.IsListIter it l 0 from ⟨_,e,rfl,rfl⟩)
 |false=>exact (show h.IsTupleIter it l 0 from ⟨_,e,rfl,rfl⟩)
structure ZApart(z TI TO i1 i2:Addr):Prop where
 TIz:TI≠z
 TOz:TO≠z
 i1z:i1≠z
 i2z:i2≠z
 TITO:TI≠TO
 TIi1:TI≠i1
 TIi2:TI≠i2
 TOi1:TO≠i1
 TOi2:TO≠i2
 i12:i1≠i2
def pW(z TO i1 i2 l:Addr):Prop:=l≠z/\l≠TO/\l≠i1/\l≠i2
theorem yc{b1 b2:Bool}{z TI TO i1 i2 l1 l2:Addr}{k1 k2:Nat}{xs ys:Array Value}{x y a b:Value}{Q:Value->Shared->Prop}(D:ZApart z TI TO i1 i2)(O1:pW z TO i1 i2 l1)(O2:pW z TO i1 i2 l2)
  (hz:IsZip s.heap z TI TO .none) (hTI:IsPair s.heap TI (.ref i1) (.ref i2)) (hTO:IsPair s.heap TO a b)
  (h1:SrcTn b1 i1 l1 k1 s.heap) (h2:SrcTn b2 i2 l2 k2 s.heap) (hl1:SrcSq b1 s.heap l1 xs) (hl2:SrcSq b2 s.heap l2 ys) (hx:xs[k1]?=some x) (hy:ys[k2]?=some y)
  (hQ:∀h',IsZip h' z TI TO (rawInt s.heap.objs.size)->IsPair h' TO x y->SrcTn b1 i1 l1 (k1+1) h'->SrcTn b2 i2 l2 (k2+1) h'->IsPair h' s.heap.objs.size x y->h'.objs.size=s.heap.objs.size+1->
   (∀c o,c≠z->c≠TO->c≠i1->c≠i2->s.heap.get? c=some o->h'.get? c=some o)->Q (.ref s.heap.objs.size) { s with heap:=h' }):
  wpAny (model prog w) A (Builtin.«zip.__next__» ⟨[.ref z],[]⟩) (fun fin s'=>∃v,fin=.done (.ret v)/\Q v s') E s:=by
 show wpAny _ _ (field (.ref z) 2 >>= _) _ _ _;refine wpAny_bind (wpAny_field hz rfl (x:=.bool false) rfl ?_);show wpAny _ _ (field (.ref z) 3 >>= _) _ _ _;refine wpAny_bind (wpAny_field hz rfl (x:=.ref TI) rfl ?_);refine wpAny_bind (wpAny_seqItems hTI rfl ?_);show wpAny _ _ (Builtin.SmallTypes.ownedTupleIsFree (.ref z) >>= _) _ _ _;refine wpAny_bind ?_;unfold Builtin.SmallTypes.ownedTupleIsFree;refine wpAny_bind (wpAny_field hz rfl (x:=.none) rfl (wpAny_pure ?_));simp only [if_true];refine wpAny_bind (wpAny_rule ?_);refine wpAny_bind (wpAny_field hz rfl (x:=.ref TO) rfl ?_);refine wpAny_bind (wpAny_setField_rec hz (by simp) fun h₁ hz₁ hs₁=>?_)
 replace hz₁:IsZip h₁ z TI TO .ellipsis:=hz₁
 refine wpAny_bind ?_;simp only [List.zipIdx_cons,List.zipIdx_nil,List.forIn_cons,List.forIn_nil];refine wpAny_bind (wpAny_bind (wpAny_onRaise ?_));show wpAny _ _ (Builtin.SmallTypes.nextOf (.ref i1) >>= _) _ _ _;refine wpAny_bind (bc (h1.keep fun o e=>hs₁.extBut _ o D.i1z e) (hl1.keep fun o e=>hs₁.extBut _ o O1.1 e) hx fun h₂ h1₂ hs₂=>wpAny_pure ?_);have hTO₂:IsPair h₂ TO a b:=hs₂.extBut _ _ D.TOi1 (hs₁.extBut _ _ D.TOz hTO);refine wpAny_bind (wpAny_seqItems hTO₂ rfl ?_);refine wpAny_bind (wpAny_updateSeq_pair hTO₂ fun h₃ hTO₃ hs₃=>?_)
 replace hTO₃:IsPair h₃ TO x b:=hTO₃
 refine wpAny_bind (wpAny_letGo (wpAny_pure ?_));refine wpAny_bind (wpAny_bind (wpAny_onRaise ?_));show wpAny _ _ (Builtin.SmallTypes.nextOf (.ref i2) >>= _) _ _ _
 refine wpAny_bind (bc (h2.keep fun o e=>hs₃.extBut _ o D.TOi2.symm (hs₂.extBut _ o D.i12.symm (hs₁.extBut _ o D.i2z e)))
  (hl2.keep fun o e=>hs₃.extBut _ o O2.2.1 (hs₂.extBut _ o O2.2.2.1 (hs₁.extBut _ o O2.1 e))) hy fun h₄ h2₄ hs₄=>wpAny_pure ?_)
 have hTO₄:IsPair h₄ TO x b:=hs₄.extBut _ _ D.TOi2 hTO₃;refine wpAny_bind (wpAny_seqItems hTO₄ rfl ?_);refine wpAny_bind (wpAny_updateSeq_pair hTO₄ fun h₅ hTO₅ hs₅=>?_)
 replace hTO₅:IsPair h₅ TO x y:=hTO₅
 refine wpAny_bind (wpAny_letGo (wpAny_pure (wpAny_pure ?_)));refine wpAny_bind (wpAny_seqItems hTO₅ rfl ?_);refine wpAny_bind (wpAny_newTuple ?_);have hsz:h₅.objs.size=s.heap.objs.size:=by rw [hs₅.1,hs₄.1,hs₃.1,hs₂.1,hs₁.1]
 have hz₅:IsZip h₅ z TI TO .ellipsis:=hs₅.extBut _ _ D.TOz.symm (hs₄.extBut _ _ D.i2z.symm (hs₃.extBut _ _ D.TOz.symm (hs₂.extBut _ _ D.i1z.symm hz₁)));have hk₅:∀c o,c≠z->c≠TO->c≠i1->c≠i2->s.heap.get? c=some o->h₅.get? c=some o:=fun c o c1 c2 c3 c4 e=>
  hs₅.extBut _ _ c2 (hs₄.extBut _ _ c4 (hs₃.extBut _ _ c2 (hs₂.extBut _ _ c3 (hs₁.extBut _ _ c1 e))))
 have h1₅:SrcTn b1 i1 l1 (k1+1) h₅:=h1₂.keep fun o e=>hs₅.extBut _ o D.TOi1.symm (hs₄.extBut _ o D.i12 (hs₃.extBut _ o D.TOi1.symm e));have h2₅:SrcTn b2 i2 l2 (k2+1) h₅:=h2₄.keep fun o e=>hs₅.extBut _ o D.TOi2.symm e;have hzlt:z<h₅.objs.size:=Heap.lt_size hz₅;show wpAny _ _ (Builtin.SmallTypes.ownedTupleHandOut (.ref z) (.ref h₅.objs.size) >>= _) _ _ _;refine wpAny_bind ?_;unfold Builtin.SmallTypes.ownedTupleHandOut;have hz₆:IsZip (h₅.push { cls:=.type "tuple",data:=.seq #[x,y] }) z TI TO .ellipsis:=Heap.get?_push_of_some _ hz₅;refine wpAny_bind (wpAny_setField_rec hz₆ (by simp) fun h₇ hz₇ hs₇=>?_)
 replace hz₇:IsZip h₇ z TI TO (rawInt h₅.objs.size):=hz₇
 refine wpAny_setField_rec hz₇ (by simp) fun h₈ hz₈ hs₈=>?_
 replace hz₈:IsZip h₈ z TI TO (rawInt h₅.objs.size):=hz₈
 have up:∀c o,c≠z->h₅.get? c=some o->h₈.get? c=some o:=fun c o c1 e=>hs₈.extBut _ _ c1 (hs₇.extBut _ _ c1 (Heap.get?_push_of_some _ e));have hT₈:IsPair h₈ h₅.objs.size x y:=hs₈.extBut _ _ (Nat.ne_of_gt hzlt) (hs₇.extBut _ _ (Nat.ne_of_gt hzlt) (Heap.get?_push_size _ rfl));have hz8:h₈.objs.size=h₅.objs.size+1:=by rw [hs₈.1,hs₇.1,Heap.size_push]
 rw [hsz] at hz₈ hT₈ hz8;refine wpAny_pure ⟨_,rfl,?_⟩;show Q (.ref h₅.objs.size) _;rw [hsz];exact hQ h₈ hz₈ (up _ _ D.TOz hTO₅) (h1₅.keep fun o e=>up _ o D.i1z e) (h2₅.keep fun o e=>up _ o D.i2z e) hT₈ hz8 fun c o c1 c2 c3 c4 e=>up c o c1 (hk₅ c o c1 c2 c3 c4 e)
theorem A_{b1 b2:Bool}{z TI TO i1 i2 l1 l2:Addr}{k1 k2:Nat}{xs ys:Array Value}{a b:Value}{Q:Fin->Shared->Prop}(hh:A.handled=none)(D:ZApart z TI TO i1 i2)(O1:pW z TO i1 i2 l1)(O2:pW z TO i1 i2 l2)
  (hz:IsZip s.heap z TI TO .none) (hTI:IsPair s.heap TI (.ref i1) (.ref i2)) (hTO:IsPair s.heap TO a b)
  (h1:SrcTn b1 i1 l1 k1 s.heap) (h2:SrcTn b2 i2 l2 k2 s.heap) (hl1:SrcSq b1 s.heap l1 xs) (hl2:SrcSq b2 s.heap l2 ys) (hend:xs[k1]?=none\/ys[k2]?=none)
  (hE:∀h' e,(∀c o,c≠z->c≠TO->c≠i1->c≠i2->s.heap.get? c=some o->h'.get? c=some o)->(∃o,h'.get? e=some o/\o.cls=.type "StopIteration")->E (.ref e) { s with heap:=h' }):
  wpAny (model prog w) A (Builtin.«zip.__next__» ⟨[.ref z],[]⟩) Q E s:=by
 show wpAny _ _ (field (.ref z) 2 >>= _) _ _ _;refine wpAny_bind (wpAny_field hz rfl (x:=.bool false) rfl ?_);show wpAny _ _ (field (.ref z) 3 >>= _) _ _ _;refine wpAny_bind (wpAny_field hz rfl (x:=.ref TI) rfl ?_);refine wpAny_bind (wpAny_seqItems hTI rfl ?_);show wpAny _ _ (Builtin.SmallTypes.ownedTupleIsFree (.ref z) >>= _) _ _ _;refine wpAny_bind ?_;unfold Builtin.SmallTypes.ownedTupleIsFree;refine wpAny_bind (wpAny_field hz rfl (x:=.none) rfl (wpAny_pure ?_));simp only [if_true];refine wpAny_bind (wpAny_rule ?_);refine wpAny_bind (wpAny_field hz rfl (x:=.ref TO) rfl ?_);refine wpAny_bind (wpAny_setField_rec hz (by simp) fun h₁ hz₁ hs₁=>?_)
 replace hz₁:IsZip h₁ z TI TO .ellipsis:=hz₁
 refine wpAny_bind ?_;simp only [List.zipIdx_cons,List.zipIdx_nil,List.forIn_cons,List.forIn_nil];refine wpAny_bind (wpAny_bind (wpAny_onRaise ?_));show wpAny _ _ (Builtin.SmallTypes.nextOf (.ref i1) >>= _) _ _ _;cases hx:xs[k1]? with
 |none=>
  refine wpAny_bind (bB hh (h1.keep fun o e=>hs₁.extBut _ o D.i1z e) (hl1.keep fun o e=>hs₁.extBut _ o O1.1 e) hx fun h₂ e hs₂ he=>?_);obtain ⟨oe,hoe,hce⟩:=he;have hz₂:IsZip h₂ z TI TO .ellipsis:=hs₂ _ _ D.i1z.symm hz₁;have hez:e≠z:=fun x=>by subst x;rw [hz₂] at hoe;cases hoe;simp at hce
  refine wpAny_setField_rec hz₂ (by simp) fun h₃ _ hs₃=>hE h₃ e (fun c o c1 _ c3 _ x=>hs₃.extBut _ _ c1 (hs₂ _ _ c3 (hs₁.extBut _ _ c1 x))) ⟨oe,hs₃.extBut _ _ hez hoe,hce⟩
 |some x=>
  have hy:ys[k2]?=none:=by rcases hend with h|h;rw [hx] at h;cases h;exact h
  refine wpAny_bind (bc (h1.keep fun o e=>hs₁.extBut _ o D.i1z e) (hl1.keep fun o e=>hs₁.extBut _ o O1.1 e) hx fun h₂ h1₂ hs₂=>wpAny_pure ?_);have hTO₂:IsPair h₂ TO a b:=hs₂.extBut _ _ D.TOi1 (hs₁.extBut _ _ D.TOz hTO);refine wpAny_bind (wpAny_seqItems hTO₂ rfl ?_);refine wpAny_bind (wpAny_updateSeq_pair hTO₂ fun h₃ hTO₃ hs₃=>?_);refine wpAny_bind (wpAny_letGo (wpAny_pure ?_));refine wpAny_bind (wpAny_bind (wpAny_onRaise ?_));show wpAny _ _ (Builtin.SmallTypes.nextOf (.ref i2) >>= _) _ _ _
  refine wpAny_bind (bB hh (h2.keep fun o e=>hs₃.extBut _ o D.TOi2.symm (hs₂.extBut _ o D.i12.symm (hs₁.extBut _ o D.i2z e)))
   (hl2.keep fun o e=>hs₃.extBut _ o O2.2.1 (hs₂.extBut _ o O2.2.2.1 (hs₁.extBut _ o O2.1 e))) hy fun h₄ e hs₄ he=>?_)
  obtain ⟨oe,hoe,hce⟩:=he;have hz₄:IsZip h₄ z TI TO .ellipsis:=hs₄ _ _ D.i2z.symm (hs₃.extBut _ _ D.TOz.symm (hs₂.extBut _ _ D.i1z.symm hz₁));have hez:e≠z:=fun x=>by subst x;rw [hz₄] at hoe;cases hoe;simp at hce
  refine wpAny_setField_rec hz₄ (by simp) fun h₅ _ hs₅=>hE h₅ e (fun c o c1 c2 c3 c4 x=>hs₅.extBut _ _ c1 (hs₄ _ _ c4 (hs₃.extBut _ _ c2 (hs₂.extBut _ _ c3 (hs₁.extBut _ _ c1 x))))) ⟨oe,hs₅.extBut _ _ hez hoe,hce⟩
theorem dy{b1 b2:Bool}{z TI TO i1 i2 l1 l2:Addr}{k1 k2:Nat}{xs ys:Array Value}{x y a b:Value}{Q:Option Value->Shared->Prop}(D:ZApart z TI TO i1 i2)(O1:pW z TO i1 i2 l1)(O2:pW z TO i1 i2 l2)
  (hz:IsZip s.heap z TI TO .none) (hTI:IsPair s.heap TI (.ref i1) (.ref i2)) (hTO:IsPair s.heap TO a b)
  (h1:SrcTn b1 i1 l1 k1 s.heap) (h2:SrcTn b2 i2 l2 k2 s.heap) (hl1:SrcSq b1 s.heap l1 xs) (hl2:SrcSq b2 s.heap l2 ys) (hx:xs[k1]?=some x) (hy:ys[k2]?=some y)
  (hQ:∀h',IsZip h' z TI TO (rawInt s.heap.objs.size)->IsPair h' TO x y->SrcTn b1 i1 l1 (k1+1) h'->SrcTn b2 i2 l2 (k2+1) h'->IsPair h' s.heap.objs.size x y->h'.objs.size=s.heap.objs.size+1->
   (∀c o,c≠z->c≠TO->c≠i1->c≠i2->s.heap.get? c=some o->h'.get? c=some o)->Q (some (.ref s.heap.objs.size)) { s with heap:=h' }):
  wpAny (model prog w) A (pyNext (.ref z)) Q E s:=by
 have hT:s.TypeIs (.ref z) "zip":=⟨_,hz,rfl⟩;unfold pyNext
 exact wpAny_bind (wpAny_attempt (wpAny_callSpecial?_slot (name:=Str.ofString "__next__") hT F.slot_zip_next
  (wpAny_call_entry F.slot_zip_next hT F.entry_zip_next (yc D O1 O2 hz hTI hTO h1 h2 hl1 hl2 hx hy fun h' a1 a2 a3 a4 a5 a6 a7=>wpAny_pure (hQ h' a1 a2 a3 a4 a5 a6 a7)) (F.args_zip_next_1 _))))
theorem jQ{b1 b2:Bool}{z TI TO i1 i2 l1 l2:Addr}{k1 k2:Nat}{xs ys:Array Value}{a b:Value}{Q:Option Value->Shared->Prop}(hh:A.handled=none)(D:ZApart z TI TO i1 i2)(O1:pW z TO i1 i2 l1)(O2:pW z TO i1 i2 l2)
  (hz:IsZip s.heap z TI TO .none) (hTI:IsPair s.heap TI (.ref i1) (.ref i2)) (hTO:IsPair s.heap TO a b)
  (h1:SrcTn b1 i1 l1 k1 s.heap) (h2:SrcTn b2 i2 l2 k2 s.heap) (hl1:SrcSq b1 s.heap l1 xs) (hl2:SrcSq b2 s.heap l2 ys) (hend:xs[k1]?=none\/ys[k2]?=none)
  (hQ:∀h',(∀c o,c≠z->c≠TO->c≠i1->c≠i2->s.heap.get? c=some o->h'.get? c=some o)->Q none { s with heap:=h' }):wpAny (model prog w) A (pyNext (.ref z)) Q E s:=by
 have hT:s.TypeIs (.ref z) "zip":=⟨_,hz,rfl⟩;unfold pyNext
 refine wpAny_bind (wpAny_attempt (wpAny_callSpecial?_slot (name:=Str.ofString "__next__") hT F.slot_zip_next
  (wpAny_call_entry F.slot_zip_next hT F.entry_zip_next (A_ hh D O1 O2 hz hTI hTO h1 h2 hl1 hl2 hend fun h' e hk he=>?_) (F.args_zip_next_1 _))))
 obtain ⟨o,ho,hc⟩:=he;refine wpAny_bind (wpAny_isInstance (T:="StopIteration") (b:=true) ⟨o,ho,hc⟩ isSubtype_stop ?_);exact wpAny_pure (hQ _ hk)
end
abbrev zH1(c1:String)(h:Heap)(l1:Addr):Heap:=h.push { cls:=.type c1,data:=.fields #[.ref l1,.int 0 0] }
abbrev zH2(c1 c2:String)(h:Heap)(l1 l2:Addr):Heap:=(zH1 c1 h l1).push { cls:=.type c2,data:=.fields #[.ref l2,.int 0 0] }
abbrev zH3(c1 c2:String)(h:Heap)(l1 l2:Addr):Heap:=(zH2 c1 c2 h l1 l2).push { cls:=.type "tuple",data:=.seq #[.ref h.objs.size,.ref (zH1 c1 h l1).objs.size] }
abbrev zH4(c1 c2:String)(h:Heap)(l1 l2:Addr):Heap:=(zH3 c1 c2 h l1 l2).push { cls:=.type "tuple",data:=.seq #[.none,.none] }
abbrev EB(c1 c2:String)(h:Heap)(l1 l2:Addr):Heap:=(zH4 c1 c2 h l1 l2).push { cls:=.type "zip",data:=.fields #[.none,.bool false,.bool false,.ref (zH2 c1 c2 h l1 l2).objs.size,.ref (zH3 c1 c2 h l1 l2).objs.size] }
theorem vJ(b1 b2:Bool)(l1 l2:Addr)(xs ys:Array Value):
  Meets (Builtin.«zip.__new__» ⟨[.type "zip",.ref l1,.ref l2],[]⟩) (fun _ R s=>SrcSq b1 s.heap l1 xs/\SrcSq b2 s.heap l2 ys/\
   R (.ok (.ret (.ref (zH4 (aF b1) (aF b2) s.heap l1 l2).objs.size))) { s with heap:=EB (aF b1) (aF b2) s.heap l1 l2 }):=
 .of_wp fun prog w A R s h=>by
  obtain ⟨hp,g,d,tk,os⟩:=s;obtain ⟨hl1,hl2,h⟩:=h;have hsub:=sub_zip;have hL1:SrcSq b1 (Shared.heap ⟨hp,g,d,tk,os⟩) l1 xs:=hl1;have hL2:SrcSq b2 (Shared.heap ⟨hp.push { cls:=.type (aF b1),data:=.fields #[.ref l1,.int 0 0] },g,d,tk,os⟩) l2 ys:=SrcSq.keep hl2 fun o e=>Heap.get?_push_of_some _ e
  wp_walk using cK hL1,cK hL2
  exact ⟨_,rfl,h⟩
section
variable {prog:Program}{w:World}{A:Around}{E:Value->Shared->Prop}{s:Shared}
theorem nU{b1 b2:Bool}{l1 l2:Addr}{xs ys:Array Value}{Q:Value->Shared->Prop}(hl1:SrcSq b1 s.heap l1 xs)(hl2:SrcSq b2 s.heap l2 ys)
  (h:∀h',IsZip h' (s.heap.objs.size+4) (s.heap.objs.size+2) (s.heap.objs.size+3) .none->IsPair h' (s.heap.objs.size+2) (.ref s.heap.objs.size) (.ref (s.heap.objs.size+1))->
   IsPair h' (s.heap.objs.size+3) .none .none->SrcTn b1 s.heap.objs.size l1 0 h'->SrcTn b2 (s.heap.objs.size+1) l2 0 h'->h'.objs.size=s.heap.objs.size+5->
   (∀c o,s.heap.get? c=some o->h'.get? c=some o)->Q (.ref (s.heap.objs.size+4)) { s with heap:=h' }):
  wpAny (model prog w) A (call (.type "zip") [.ref l1,.ref l2]) Q E s:=by
 refine callType_new F.called_zip (by decide) (F.typeCall_zip_2 _ _) (F.newCall_zip_2 _ _) (fun obj=>F.args_object_init_3 obj _ _) F.entry_zip_new (vJ b1 b2 l1 l2 xs ys) ⟨hl1,hl2,?_⟩
 have z1:(zH1 (aF b1) s.heap l1).objs.size=s.heap.objs.size+1:=Heap.size_push ..;have z2:(zH2 (aF b1) (aF b2) s.heap l1 l2).objs.size=s.heap.objs.size+2:=by rw [Heap.size_push,z1]
 have z3:(zH3 (aF b1) (aF b2) s.heap l1 l2).objs.size=s.heap.objs.size+3:=by rw [Heap.size_push,z2]
 have z4:(zH4 (aF b1) (aF b2) s.heap l1 l2).objs.size=s.heap.objs.size+4:=by rw [Heap.size_push,z3]
 have z5:(EB (aF b1) (aF b2) s.heap l1 l2).objs.size=s.heap.objs.size+5:=by rw [Heap.size_push,z4]
 have g5:(EB (aF b1) (aF b2) s.heap l1 l2).get? (zH4 (aF b1) (aF b2) s.heap l1 l2).objs.size=some _:=Heap.get?_push_size _ rfl;have g4:(EB (aF b1) (aF b2) s.heap l1 l2).get? (zH3 (aF b1) (aF b2) s.heap l1 l2).objs.size=some _:=Heap.get?_push_of_some _ (Heap.get?_push_size _ rfl);have g3:(EB (aF b1) (aF b2) s.heap l1 l2).get? (zH2 (aF b1) (aF b2) s.heap l1 l2).objs.size=some _:=Heap.get?_push_of_some _ (Heap.get?_push_of_some _ (Heap.get?_push_size _ rfl));have g2:(EB (aF b1) (aF b2) s.heap l1 l2).get? (zH1 (aF b1) s.heap l1).objs.size=some _:=Heap.get?_push_of_some _ (Heap.get?_push_of_some _ (Heap.get?_push_of_some _ (Heap.get?_push_size _ rfl)));have g1:(EB (aF b1) (aF b2) s.heap l1 l2).get? s.heap.objs.size=some _:=Heap.get?_push_of_some _ (Heap.get?_push_of_some _ (Heap.get?_push_of_some _ (Heap.get?_push_of_some _ (Heap.get?_push_size _ rfl))));show _/\_;rw [z2,z3,z4] at g5;rw [z1,z2] at g3;rw [z3] at g4;rw [z1] at g2;rw [z4];exact ⟨⟨_,g5,rfl⟩,h _ g5 g3 g4 (mV g1) (mV g2) z5 fun c o x=>
  Heap.get?_push_of_some _ (Heap.get?_push_of_some _ (Heap.get?_push_of_some _ (Heap.get?_push_of_some _ (Heap.get?_push_of_some _ x))))⟩
end
end L2
namespace L2
open PySem PySem.Spec PyProof.Rows
def lV(K:W.Frag)(b:Bool)(H:Hp)(a:Addr)(xs:List V):Prop:=if b=true then SqL K H a xs else fE K H a xs
section
variable {X:Cx}{pins:List (Addr×Obj)}{σ:St}{H:Hp}{s:Shared}{a:Addr}{xs ys:List V}{b:Bool}
theorem Inv.src(I:Inv X pins σ H s)(h:lV X.K b H a xs):∃its:List Value,Vals xs its/\SrcSq b s.heap a its.toArray/\xs.length<=sizeLine:=by
 cases b with
 |true=>obtain ⟨its,r,p,z⟩:=I.list (show SqL X.K H a xs from h);exact ⟨its,r,p.isList,z⟩
 |false=>obtain ⟨its,r,p,z⟩:=I.tuple (show fE X.K H a xs from h);exact ⟨its,r,p,z⟩
theorem Inv.src_inj(I:Inv X pins σ H s)(h:lV X.K b H a xs)(h':lV X.K b H a ys):xs=ys:=by
 cases b with
 |true=>exact I.list_inj (show SqL X.K H a xs from h) h'
 |false=>exact I.tuple_inj (show fE X.K H a xs from h) h'
theorem Inv.src_ne(I:Inv X pins σ H s)(h:lV X.K b H a xs){it:Addr}(f:dE X pins H it):a≠it:=by
 obtain ⟨f0,f1,f2,f3,f4,f5⟩:=f;intro e;subst e;have kne:∀o,X.K.lookup a=some o->False:=fun o hk=>by
  have hb:=I.ok.mod.kin a o hk;rcases f3 with z|z
  ·exact I.ok.noex a o hb z
  ·exact absurd (Nat.lt_of_lt_of_le (Heap.lt_size (I.ok.bs a o hb).1) z) (Nat.lt_irrefl _)
 cases b with
 |true=>
  rcases (show SqL X.K H a xs from h) with (z|⟨o,z⟩)|⟨o,_,_,hk,_⟩
  ·rw [f0] at z;cases z
  ·rw [f0] at z;cases z
  ·exact kne o hk
 |false=>
  rcases (show fE X.K H a xs from h) with (z|⟨o,z⟩)|⟨o,_,_,hk,_⟩
  ·rw [f0] at z;cases z
  ·rw [f0] at z;cases z
  ·exact kne o hk
end
def Itz(K:W.Frag)(b1 b2:Bool)(l1 l2:Addr):It:=
 ⟨fun i H=>∃xs ys x y,lV K b1 H l1 xs/\lV K b2 H l2 ys/\xs[i]?=some x/\ys[i]?=some y,
  fun i H v H'=>∃T x y,H T=none/\v=.ref T/\H'=upd H T (.tup [x,y])/\(∀xs,lV K b1 H l1 xs->xs[i]?=some x)/\(∀ys,lV K b2 H l2 ys->ys[i]?=some y),
  fun i H=>∃xs ys,lV K b1 H l1 xs/\lV K b2 H l2 ys/\(xs.length<=i\/ys.length<=i)⟩
theorem Inv.turned4{X:Cx}{pins:List (Addr×Obj)}{σ:St}{H:Hp}{s:Shared}{h':Heap}{t':Nat}{fp:List Addr}(I:Inv X pins σ H s)(hf:∀b∈fp,dE X pins H b)
  (k:∀b o,b∉fp->s.heap.get? b=some o->h'.get? b=some o):Inv X pins σ H { s with heap:=h',toks:=t' }:=by
 have nfp:∀b u,H b=some u->b∉fp:=fun b u e z=>by have:=(hf b z).1;rw [e] at this;cases this
 refine I.step (g':=s.gens) (d':=s.drawn) (ch:=fp) (fun b hb=>?_) (fun b o _ _ hc e _=>k b o hc e) (fun b o _ _ hc e _=>⟨o.slots,k b o hc e⟩) (fun _ _ _ _ n=>n)
  (fun b o hc e=>⟨o,k b o hc e⟩) (fun _ _ e=>e) (fun _ _ _ e=>e) (fun b ps e=>⟨#[],by rw [e];simp⟩) (fun m hm=>?_) (fun b u e=>?_) I.bare
 ·obtain ⟨f0,f1,f2,f3,f4,f5⟩:=hf b hb
  exact ⟨f3,f1,f4,f5⟩
 ·obtain ⟨o,es,ep,ho,r⟩:=hm
  exact ⟨o,es,ep,k _ o (fun z=>(hf _ z).2.1 rfl) ho,r⟩
 ·refine (I.hok b u e).stay (fun c v hc q=>k c v ?_ q) (fun _ q=>q) fun _ _ q=>q
  rcases hc with z|z
  ·rw [z];exact nfp b u e
  ·exact nfp c _ z
theorem Inv.turnedNew{X:Cx}{pins:List (Addr×Obj)}{σ:St}{H:Hp}{s:Shared}{h':Heap}{t':Nat}{fp:List Addr}{zs:List V}{us:List Value}{o':Obj}(I:Inv X pins σ H s)(hf:∀b∈fp,dE X pins H b)
  (k:∀b o,b∉fp->s.heap.get? b=some o->h'.get? b=some o) (hlt:∀b∈fp,∃o,s.heap.get? b=some o) (hlv:∀b∈fp,∃o,h'.get? b=some o) (hT:h'.get? s.heap.objs.size=some o') (hoc:o'.cls=.type "tuple") (hod:∃n,o'.data=.seq us.toArray n)
  (r:Vals zs us) (hdn:o'.dict=none) (hz:zs.length<=sizeLine):Inv X pins σ (upd H s.heap.objs.size (.tup zs)) { s with heap:=h',toks:=t' }:=by
 have hTn:H s.heap.objs.size=none:=I.hok.fresh (Nat.le_refl _);have nfp:∀b u,H b=some u->b∉fp:=fun b u e z=>by have:=(hf b z).1;rw [e] at this;cases this
 refine I.step (g':=s.gens) (d':=s.drawn) (ch:=fp) (fun b hb=>?_) (fun b o _ _ hc e _=>k b o hc e) (fun b o _ _ hc e _=>⟨o.slots,k b o hc e⟩) (fun b o _ e n=>by rw [av (Nat.ne_of_lt (Heap.lt_size e))];exact n)
  (fun b o hc e=>⟨o,k b o hc e⟩) (fun b zs' e=>by rw [av (aW e hTn)];exact e) (fun b o u e=>by rw [av (aW e hTn)];exact e) (fun b ps e=>⟨#[],by rw [av (aW e hTn),e];simp⟩) (fun m hm=>?_) (fun b u e=>?_) I.bare
 ·obtain ⟨f0,f1,f2,f3,f4,f5⟩:=hf b hb
  exact ⟨f3,f1,f4,f5⟩
 ·obtain ⟨o,es,ep,ho,r⟩:=hm
  exact ⟨o,es,ep,k _ o (fun z=>(hf _ z).2.1 rfl) ho,r⟩
 ·by_cases hb:b=s.heap.objs.size
  ·subst hb
   rw [upd_same] at e;cases e;obtain ⟨n,hd⟩:=hod;exact ⟨hz,us,r,⟨o',hT,⟨hoc,n,hd⟩,hdn⟩⟩
  ·rw [av hb] at e
   refine (I.hok b u e).stay (fun c v hc q=>k c v ?_ q) (fun c q=>by rw [av (aW q hTn)];exact q) fun c zs' q=>by rw [av (aW q hTn)];exact q
   rcases hc with z|z
   ·rw [z];exact nfp b u e
   ·exact nfp c _ z
theorem yJ{P:Program}{w:World}{K:W.Frag}{elts:List Expr}{x1:Nat}{tp:Pos}(b1 b2:Bool)(l1 l2 z TI TO i1 i2:Addr)(D:ZApart z TI TO i1 i2):
  Turn P w K (.Tuple elts x1 tp) (Itz K b1 b2 l1 l2) [z,TI,TO,i1,i2] z (fun i h=>IsZip h z TI TO .none/\IsPair h TI (.ref i1) (.ref i2)/\(∃a b,IsPair h TO a b)/\SrcTn b1 i1 l1 i h/\SrcTn b2 i2 l2 i h) where
 mem:=by simp
 obj:=fun i h st b hb=>by
  obtain ⟨hz,hTI,⟨a,c,hTO⟩,h1,h2⟩:=st;have hb':b=z\/b=TI\/b=TO\/b=i1\/b=i2:=by simpa using hb
  rcases hb' with e|e|e|e|e<;>subst e
  ·exact ⟨_,hz,fun v q=>nomatch q⟩
  ·exact ⟨_,hTI,fun v q=>nomatch q⟩
  ·exact ⟨_,hTO,fun v q=>nomatch q⟩
  ·exact h1.lt
  ·exact h2.lt
 keep:=fun i h h' st k=>by
  obtain ⟨hz,hTI,⟨a,c,hTO⟩,h1,h2⟩:=st;exact ⟨k z (by simp) _ hz,k TI (by simp) _ hTI,⟨a,c,k TO (by simp) _ hTO⟩,h1.keep fun o e=>k i1 (by simp) o e,h2.keep fun o e=>k i2 (by simp) o e⟩
 item:=by
  intro X hP hw hK hc i pins s σ H E I hf st hg;subst hP hw hK;obtain ⟨xs,ys,x,y,q1,q2,hx,hy⟩:=hg;obtain ⟨hz,hTI,⟨a,c,hTO⟩,h1,h2⟩:=st;obtain ⟨its1,r1,s1,z1⟩:=I.src q1;obtain ⟨its2,r2,s2,z2⟩:=I.src q2;obtain ⟨u,hu,ru⟩:=r1.get hx;obtain ⟨v,hv,rv⟩:=r2.get hy;have O1:pW z TO i1 i2 l1:=⟨I.src_ne q1 (hf z (by simp)),I.src_ne q1 (hf TO (by simp)),I.src_ne q1 (hf i1 (by simp)),I.src_ne q1 (hf i2 (by simp))⟩
  have O2:pW z TO i1 i2 l2:=⟨I.src_ne q2 (hf z (by simp)),I.src_ne q2 (hf TO (by simp)),I.src_ne q2 (hf i1 (by simp)),I.src_ne q2 (hf i2 (by simp))⟩
  refine dy D O1 O2 hz hTI hTO h1 h2 s1 s2 (x:=u) (y:=v) (by simpa using hu) (by simpa using hv) fun h' a1 a2 a3 a4 a5 a6 hk=>?_
  refine ⟨_,rfl,wpAny_letOwnedTupleGo_zip a1 fun h'' hz'' hs''=>?_⟩;have hzs:z≠s.heap.objs.size:=Nat.ne_of_lt (Heap.lt_size hz);have kk:∀b o,b∉[z,TI,TO,i1,i2]->s.heap.get? b=some o->h''.get? b=some o:=fun b o hb e=>
   hs''.extBut b o (fun q=>hb (by simp [q])) (hk b o (fun q=>hb (by simp [q])) (fun q=>hb (by simp [q])) (fun q=>hb (by simp [q])) (fun q=>hb (by simp [q])) e)
  have hT:h''.get? s.heap.objs.size=some { cls:=.type "tuple",data:=.seq #[u,v] }:=hs''.extBut _ _ hzs.symm a5;have lv:∀b∈[z,TI,TO,i1,i2],∃o,s.heap.get? b=some o:=fun b hb=>by
   have hb':b=z\/b=TI\/b=TO\/b=i1\/b=i2:=by simpa using hb
   rcases hb' with e|e|e|e|e<;>subst e
   ·exact ⟨_,hz⟩
   ·exact ⟨_,hTI⟩
   ·exact ⟨_,hTO⟩
   ·obtain ⟨o,e,_⟩:=h1.lt;exact ⟨o,e⟩
   ·obtain ⟨o,e,_⟩:=h2.lt;exact ⟨o,e⟩
  have n1:SrcTn b1 i1 l1 (i+1) h'':=a3.keep fun o e=>hs''.extBut _ o D.i1z e;have n2:SrcTn b2 i2 l2 (i+1) h'':=a4.keep fun o e=>hs''.extBut _ o D.i2z e;have nTI:IsPair h'' TI (.ref i1) (.ref i2):=hs''.extBut _ _ D.TIz (hk _ _ D.TIz D.TITO D.TIi1 D.TIi2 hTI);have nTO:IsPair h'' TO u v:=hs''.extBut _ _ D.TOz a2;have lv':∀b∈[z,TI,TO,i1,i2],∃o,h''.get? b=some o:=fun b hb=>by
   have hb':b=z\/b=TI\/b=TO\/b=i1\/b=i2:=by simpa using hb
   rcases hb' with e|e|e|e|e<;>subst e
   ·exact ⟨_,hz''⟩
   ·exact ⟨_,nTI⟩
   ·exact ⟨_,nTO⟩
   ·obtain ⟨o,e,_⟩:=n1.lt;exact ⟨o,e⟩
   ·obtain ⟨o,e,_⟩:=n2.lt;exact ⟨o,e⟩
  have hTn:H s.heap.objs.size=none:=I.hok.fresh (Nat.le_refl _);refine ⟨.ref s.heap.objs.size,_,I.turnedNew (s:=s) (h':=h'') (t':=s.toks) (zs:=[x,y]) (us:=[u,v]) hf kk lv lv' hT rfl ⟨_,rfl⟩ (.cons ru (.cons rv .nil)) rfl (by show 2<=sizeLine;decide),rfl,⟨_,x,y,hTn,rfl,rfl,fun zs hzs'=>?_,fun zs hzs'=>?_⟩,⟨hz'',nTI,⟨_,_,nTO⟩,n1,n2⟩,fun b hb=>?_⟩
  ·rw [I.src_inj hzs' q1];exact hx
  ·rw [I.src_inj hzs' q2];exact hy
  ·obtain ⟨o,e⟩:=lv b hb
   rw [av (Nat.ne_of_lt (Heap.lt_size e))];exact (hf b hb).1
 done:=by
  intro X hP hw hK hc i pins s σ H E I hf st hg;subst hP hw hK;obtain ⟨xs,ys,q1,q2,hx⟩:=hg;obtain ⟨hz,hTI,⟨a,c,hTO⟩,h1,h2⟩:=st;obtain ⟨its1,r1,s1,z1⟩:=I.src q1;obtain ⟨its2,r2,s2,z2⟩:=I.src q2;have l1':=r1.length;have l2':=r2.length;have O1:pW z TO i1 i2 l1:=⟨I.src_ne q1 (hf z (by simp)),I.src_ne q1 (hf TO (by simp)),I.src_ne q1 (hf i1 (by simp)),I.src_ne q1 (hf i2 (by simp))⟩
  have O2:pW z TO i1 i2 l2:=⟨I.src_ne q2 (hf z (by simp)),I.src_ne q2 (hf TO (by simp)),I.src_ne q2 (hf i1 (by simp)),I.src_ne q2 (hf i2 (by simp))⟩
  refine jQ (I.ok.hd hc) D O1 O2 hz hTI hTO h1 h2 s1 s2 ?_ fun h' hk=>⟨rfl,I.turned4 (t':=s.toks) hf fun b o hb e=>hk b o (fun q=>hb (by simp [q])) (fun q=>hb (by simp [q])) (fun q=>hb (by simp [q])) (fun q=>hb (by simp [q])) e⟩
  rcases hx with hx|hx
  ·exact .inl (by simp;lia)
  ·exact .inr (by simp;lia)
 self:=fun _ _ _ _ _ st h=>wpAny_pyIter_zip st.1 h
section
variable {X:Cx}
def Ite(K:W.Frag)(b:Bool)(l:Addr):It:=
 ⟨fun i H=>∃xs x,lV K b H l xs/\xs[i]?=some x,
  fun i H v H'=>∃T x,H T=none/\v=.ref T/\H'=upd H T (.tup [.int i,x])/\(∀xs,lV K b H l xs->xs[i]?=some x),
  fun i H=>∃xs,lV K b H l xs/\xs.length<=i⟩
end
section
variable {prog:Program}{w:World}{A:Around}{E:Value->Shared->Prop}{s:Shared}
theorem Draws.src(hh:A.handled=none)(b:Bool)(it l:Addr)(hne:l≠it)(items:Array Value):
  Draws prog w A it [it,l] items.size (fun i v=>items[i]?=some v) (fun i h=>SrcTn b it l i h/\SrcSq b h l items) where
 live:=fun _ _ st=>let ⟨o,ho,_⟩:=st.1.lt;⟨o,ho⟩
 frame:=fun _ _ _ st hk=>⟨st.1.keep fun o e=>hk it (by simp) o e,st.2.keep fun o e=>hk l (by simp) o e⟩
 item:=fun i s Q E hi st hQ=>by
  refine bc st.1 st.2 (x:=items[i]) (by simp [hi]) fun h' hit' hs'=>?_
  exact hQ _ h' s.toks (by simp [hi]) ⟨hit',st.2.keep fun o e=>hs'.extBut _ o hne e⟩ hs'
 done:=fun s Q E st hE=>bB hh st.1 st.2 (by simp) hE
theorem qi(b:Bool)(l:Addr)(items:Array Value):
  Meets (Builtin.«enumerate.__new__» ⟨[.type "enumerate",.ref l],[]⟩) (fun _ R s=>SrcSq b s.heap l items/\
   R (.ok (.ret (.ref (s.heap.push { cls:=.type (aF b),data:=.fields #[.ref l,.int 0 0] }).objs.size)))
    { s with heap:=(s.heap.push { cls:=.type (aF b),data:=.fields #[.ref l,.int 0 0] }).push { cls:=.type "enumerate",data:=.fields #[.none,.bool false,.ref s.heap.objs.size,rawInt 0,.none,.none] } }):=
 .of_wp fun prog w A R s h=>by
  obtain ⟨hp,g,d,tk,os⟩:=s;obtain ⟨hl,h⟩:=h;have hsub:=sub_enumerate;have hL:SrcSq b (Shared.heap ⟨hp,g,d,tk,os⟩) l items:=hl
  wp_walk
  refine wpAny_stack_any fun st=>wpAny_pure ?_
  split
  ·rename_i c _ _ _ _ _
   cases (c==Value.type "enumerate")
   ·wp_walk using cK hL
    exact ⟨_,rfl,h⟩
   ·wp_walk using cK hL
    exact ⟨_,rfl,h⟩
  ·wp_walk using cK hL
   exact ⟨_,rfl,h⟩
theorem vH{b:Bool}{l:Addr}{items:Array Value}{Q:Value->Shared->Prop}(hL:SrcSq b s.heap l items)
  (h:∀h',IsEnum h' (s.heap.objs.size+1) s.heap.objs.size 0 .none->SrcTn b s.heap.objs.size l 0 h'->h'.objs.size=s.heap.objs.size+2->
   (∀b o,s.heap.get? b=some o->h'.get? b=some o)->Q (.ref (s.heap.objs.size+1)) { s with heap:=h' }):
  wpAny (model prog w) A (call (.type "enumerate") [.ref l]) Q E s:=by
 refine callType_new F.called_enumerate (by decide) (F.typeCall_enumerate_1 _) (F.newCall_enumerate_1 _) (fun obj=>F.args_object_init_2 obj _) F.entry_enumerate_new (qi b l items) ⟨hL,?_⟩
 have hz:(s.heap.push { cls:=.type (aF b),data:=.fields #[.ref l,.int 0 0] }).objs.size=s.heap.objs.size+1:=Heap.size_push ..;show _/\_;rw [hz]
 have he:IsEnum ((s.heap.push { cls:=.type (aF b),data:=.fields #[.ref l,.int 0 0] }).push
   { cls:=.type "enumerate",data:=.fields #[.none,.bool false,.ref s.heap.objs.size,rawInt 0,.none,.none] }) (s.heap.objs.size+1) s.heap.objs.size 0 .none:=by
  have:=Heap.get?_push_size (s.heap.push { cls:=.type (aF b),data:=.fields #[.ref l,.int 0 0] })
   (o:={ cls:=.type "enumerate",data:=.fields #[.none,.bool false,.ref s.heap.objs.size,rawInt 0,.none,.none] }) rfl
  rw [hz] at this;exact this
 refine ⟨⟨_,he,rfl⟩,h _ he (mV (Heap.get?_push_of_some _ (Heap.get?_push_size _ rfl))) (by rw [Heap.size_push,hz]) fun b o x=>Heap.get?_push_of_some _ (Heap.get?_push_of_some _ x)⟩
end
theorem vK{P:Program}{w:World}{K:W.Frag}{elts:List Expr}{x1:Nat}{tp:Pos}(b:Bool)(l e it:Addr)(hei:e≠it):
  Turn P w K (.Tuple elts x1 tp) (Ite K b l) [e,it] e (fun i h=>(∃old,IsEnum h e it i old)/\SrcTn b it l i h) where
 mem:=by simp
 obj:=fun i h st c hc=>by
  obtain ⟨⟨old,he⟩,h1⟩:=st;have hc':c=e\/c=it:=by simpa using hc
  rcases hc' with q|q<;>subst q
  ·exact ⟨_,he,fun v z=>nomatch z⟩
  ·exact h1.lt
 keep:=fun i h h' st k=>by
  obtain ⟨⟨old,he⟩,h1⟩:=st;exact ⟨⟨old,k e (by simp) _ he⟩,h1.keep fun o q=>k it (by simp) o q⟩
 item:=by
  intro X hP hw hK hc i pins s σ H E I hf st hg;subst hP hw hK;obtain ⟨xs,x,q1,hx⟩:=hg;obtain ⟨⟨old,he⟩,h1⟩:=st;obtain ⟨its,r,sq,z1⟩:=I.src q1;obtain ⟨u,hu,ru⟩:=r.get hx;have hle:l≠e:=I.src_ne q1 (hf e (by simp))
  have hli:l≠it:=I.src_ne q1 (hf it (by simp))
  have hil:i<its.toArray.size:=by
   rw [List.size_toArray,<- r.length];exact (List.getElem?_eq_some_iff.mp hx).1
  have D:Draws X.prog X.w X.A.in1 it [it,l] its.toArray.size (fun i v=>its.toArray[i]?=some v) (fun i h=>SrcTn b it l i h/\SrcSq b h l its.toArray):=Draws.src (A:=X.A.in1) (I.ok.hd hc) b it l hli its.toArray;refine wpAny_pyNext_enum_itemD D he ⟨h1,sq⟩ hil hei (by simp [hei,Ne.symm hle]) fun v h' tk hv ho hs' hT hsz hk=>?_
  have ev:v=u:=by
   have hu':its.toArray[i]?=some u:=by simpa using hu
   rw [hu'] at hv;exact (Option.some.inj hv).symm
  subst ev;refine ⟨_,rfl,wpAny_letOwnedTupleGo_enum ho fun h'' he'' hs''=>?_⟩;have hes:e≠s.heap.objs.size:=Nat.ne_of_lt (Heap.lt_size he);have n1:SrcTn b it l (i+1) h'':=hs'.1.keep fun o q=>hs''.extBut _ o hei.symm q;have kk:∀c o,c∉[e,it]->s.heap.get? c=some o->h''.get? c=some o:=fun c o hc q=>
   hs''.extBut c o (fun z=>hc (by simp [z])) (hk c o (fun z=>hc (by simp [z])) (fun z=>hc (by simp [z])) q)
  have hT':h''.get? s.heap.objs.size=some { cls:=.type "tuple",data:=.seq #[.int i tk,v] }:=hs''.extBut _ _ hes.symm hT;have lv:∀c∈[e,it],∃o,s.heap.get? c=some o:=fun c hc=>by
   have hc':c=e\/c=it:=by simpa using hc
   rcases hc' with q|q<;>subst q
   ·exact ⟨_,he⟩
   ·obtain ⟨o,q,_⟩:=h1.lt;exact ⟨o,q⟩
  have lv':∀c∈[e,it],∃o,h''.get? c=some o:=fun c hc=>by
   have hc':c=e\/c=it:=by simpa using hc
   rcases hc' with q|q<;>subst q
   ·exact ⟨_,he''⟩
   ·obtain ⟨o,q,_⟩:=n1.lt;exact ⟨o,q⟩
  have hTn:H s.heap.objs.size=none:=I.hok.fresh (Nat.le_refl _);refine ⟨.ref s.heap.objs.size,_,I.turnedNew (s:=s) (h':=h'') (t':=tk+1) (zs:=[.int i,x]) (us:=[.int i tk,v]) hf kk lv lv' hT' rfl ⟨_,rfl⟩ (.cons ⟨tk,rfl⟩ (.cons ru .nil)) rfl (by show 2<=sizeLine;decide),rfl,⟨_,x,hTn,rfl,rfl,fun zs hzs'=>?_⟩,⟨⟨v,by simpa using he''⟩,n1⟩,fun c hc=>?_⟩
  ·rw [I.src_inj hzs' q1];exact hx
  ·obtain ⟨o,q⟩:=lv c hc
   rw [av (Nat.ne_of_lt (Heap.lt_size q))];exact (hf c hc).1
 done:=by
  intro X hP hw hK hc i pins s σ H E I hf st hg;subst hP hw hK;obtain ⟨xs,q1,hx⟩:=hg;obtain ⟨⟨old,he⟩,h1⟩:=st;obtain ⟨its,r,sq,z1⟩:=I.src q1;have hli:l≠it:=I.src_ne q1 (hf it (by simp))
  have hT:s.TypeIs (.ref e) "enumerate":=⟨_,he,rfl⟩;have hl:=r.length;unfold pyNext
  refine wpAny_bind (wpAny_attempt (wpAny_callSpecial?_slot (name:=Str.ofString "__next__") hT F.slot_enumerate_next
   (wpAny_call_entry F.slot_enumerate_next hT F.entry_enumerate_next ?_ (F.args_enumerate_next_1 _))))
  show wpAny _ _ (field (.ref e) 2 >>= _) _ _ _;refine wpAny_bind (wpAny_field he rfl (x:=.ref it) rfl ?_);refine wpAny_bind (bB (I.ok.hd hc) h1 sq (by simp;lia) fun h' x he' hx'=>?_)
  obtain ⟨o,ho,hcl⟩:=hx';refine wpAny_bind (wpAny_isInstance (T:="StopIteration") (b:=true) ⟨o,ho,hcl⟩ isSubtype_stop ?_);exact wpAny_pure ⟨rfl,I.turned4 (t':=s.toks) hf fun c o' hc' q=>he' c o' (fun z=>hc' (by simp [z])) q⟩
 self:=fun _ _ _ _ _ st h=>let ⟨⟨_,he⟩,_⟩:=st;wpAny_pyIter_enum he h
section
variable {X:Cx}
theorem p9:bI X (.builtin "isinstance") (fun xs H Q=>∃x T t b,xs=[x,.ty T]/\TyOf X.K H x t/\W.kitOne X.K t (.type T)=some b/\Q (.bl b) H):=by
 intro pins s σ H xs us Q I r h;obtain ⟨x,T,t,b,rfl,ty,e,q⟩:=h;obtain ⟨u,c,rfl,rx,rc⟩:=r.two;obtain rfl:c=Value.type T:=rc;exact vY I rx ty e fun tk=>⟨.bl b,H,I.tok tk,rfl,q⟩
theorem wx(hc:X.calm=true):bI X (.builtin "all") (fun xs H Q=>∃(l:Addr) (bs:List Bool),xs=[.ref l]/\SqL X.K H l (bs.map V.bl)/\Q (.bl (bs.all id)) H):=by
 intro pins s σ H xs us Q I r h;obtain ⟨l,bs,rfl,hq,q⟩:=h;obtain ⟨u,rfl,ru⟩:=r.one;cases ru;obtain ⟨its,rv,p,hz⟩:=I.list hq;have hl:=rv.length;have hli:l<s.heap.objs.size:=by obtain ⟨o,e,_⟩:=p.isList;exact Heap.lt_size e
 have hne:l≠s.heap.objs.size:=Nat.ne_of_lt hli;have val:∀(i:Nat) (v:Value),its.toArray[i]?=some v->∃c,bs[i]?=some c/\v=.bool c:=fun i v hv=>by
  have hv':its[i]?=some v:=by simpa using hv
  have hi:i<bs.length:=by
   have:=(List.getElem?_eq_some_iff.mp hv').1;rw [List.length_map] at hl;lia
  obtain ⟨w',h1,h2⟩:=rv.get (i:=i) (x:=.bl bs[i]) (by rw [List.getElem?_map,List.getElem?_eq_getElem hi];rfl)
  rw [hv'] at h1;cases h1;exact ⟨bs[i],List.getElem?_eq_getElem hi,h2⟩
 have hsz:its.toArray.size=bs.length:=by rw [List.size_toArray,<- hl,List.length_map]
 refine call_all_walk (wpAny_pyIter_list p.isList ⟨s.heap.objs.size,_,_,_,_,_,fun i=>bs.getD i false,rfl,Walks.list (A:=X.A.in1) (I.ok.hd hc) s.heap.objs.size l hne its.toArray,⟨⟨_,Heap.get?_push_size _ rfl,rfl,rfl⟩,p.isList.push _⟩,fun i v s' Q' E' hv hq'=>?_,fun h' tk hk=>?_⟩)
 ·obtain ⟨c,h1,rfl⟩:=val i v hv
  refine wpAny_truthy_bool ?_;have eb:bs.getD i false=c:=by rw [List.getD_eq_getElem?_getD,h1];rfl
  have hq2:Q' (bs.getD i false) s':=hq';rw [eb] at hq2;exact hq2
 ·have e:(List.range its.toArray.size).all (fun i=>bs.getD i false)=bs.all id:=by
   rw [hsz,Bool.eq_iff_iff,List.all_eq_true,List.all_eq_true];constructor
   ·intro h b hb
    obtain ⟨i,hi,rfl⟩:=List.mem_iff_getElem.mp hb;have:=h i (List.mem_range.mpr hi)
    rwa [List.getD_eq_getElem?_getD,List.getElem?_eq_getElem hi] at this
   ·intro h i hi
    have hi':=List.mem_range.mp hi;rw [List.getD_eq_getElem?_getD,List.getElem?_eq_getElem hi'];exact h _ (List.getElem_mem hi')
  rw [e];refine ⟨.bl (bs.all id),H,?_,rfl,q⟩;exact I.kept (t':=tk) fun b o hb=>hk b o (by simp;exact Nat.ne_of_lt (Heap.lt_size hb)) (Heap.get?_push_of_some _ hb)
end
end L2
namespace L2
open PySem PySem.Spec PyProof.Rows
abbrev zr(h:Heap)(z TI TO:Addr)(f0:Value)(f1:Bool):Prop:=
 h.get? z=some { cls:=.type "zip",dict:=none,data:=.fields #[f0,.bool f1,.bool false,.ref TI,.ref TO],slots:=#[] }
theorem dq:entryFor table "zip.__getattribute__"=some Builtin.«object.__getattribute__»:=
 entryFor_alias (id':="object.__getattribute__") (by kernel_rfl) (by decide +kernel) (by decide +kernel) (by kernel_rfl)
theorem gK:typeLookup (.type "zip") "__getattr__"=pure none:=by rw [typeLookup_type,builtinLookup_eq_fast];kernel_rfl
theorem ow:typeLookup (.type "zip") "keys"=pure none:=by rw [typeLookup_type,builtinLookup_eq_fast];kernel_rfl
theorem bg:entryFor table "dict.update.loop"=some Builtin.«dict.update.loop»:=entryFor_of_fast (by kernel_rfl)
theorem aD:plainId "dict.update.loop"=true:=by decide +kernel
theorem jm(a TI TO:Addr)(f0:Value)(f1:Bool)(name:Str)(u:Tok)(hmiss:typeLookup (.type "zip") name=pure none)(hname:(["__module__","__name__","__qualname__","__doc__","__annotations__"]:List Str).contains name=false)(hsz:name.length+100<=sizeLine:=by size_fits):
  Meets (Builtin.«object.__getattribute__» ⟨[.ref a,.str name u],[]⟩) (fun A R s=>zr s.heap a TI TO f0 f1/\raisesAttr (.ref a) name A R s):=
 Meets.of_wp fun prog w A R s hs=>by
  obtain ⟨hp,g,d,tk,os⟩:=s;obtain ⟨hx,hs⟩:=hs;have hT:(⟨hp,g,d,tk,os⟩:Shared).TypeIs (.ref a) "zip":=⟨_,hx,rfl⟩;unfold Builtin.«object.__getattribute__»
  repeat (any_goals (first|assumption|wp_step))
  simp only [hname,Bool.false_eq_true,if_false]
  repeat (any_goals (first|assumption|wp_step))
  exact wpAny_raiseAttrError hs.1 hs.2 (attrMsg_fits (by decide +kernel) hsz)
section
variable {prog:Program}{w:World}{A:Around}{E:Value->Shared->Prop}{s:Shared}
theorem kM{a TI TO:Addr}{f0:Value}{f1:Bool}{Q:Option Value->Shared->Prop}(hx:zr s.heap a TI TO f0 f1)(hA:A.handled=none)
  (h:∀h' tk,(∀b o,s.heap.get? b=some o->h'.get? b=some o)->Q none { s with heap:=h',toks:=tk }):wpAny (model prog w) A (getAttr? (.ref a) "keys") Q E s:=by
 obtain ⟨hp,g,d,tk,os⟩:=s;have hT:∀tk',(⟨hp,g,d,tk',os⟩:Shared).TypeIs (.ref a) "zip":=fun _=>⟨_,hx,rfl⟩;have f1':=sub_AttributeError;have f3:=F.slot_zip_getattribute.lookup;have f4:=F.slot_zip_getattribute.bind (.ref a);have f5:=gK;unfold getAttr? getAttrBy? getAttrBy
 repeat (any_goals (first|assumption|exact hT _|((with_reducible show wpAny _ _ (call (Value.builtin "zip.__getattribute__") _ _) _ _ _);refine call_meets F.slot_zip_getattribute (hT _) dq (F.args_zip_getattribute_2 _ _) (jm a TI TO f0 f1 "keys" _ ow (by decide +kernel) (by decide +kernel)) ⟨hx,hA,fun h' tk' e hx'=>?_⟩)|wp_step))
 obtain ⟨t',u',he⟩:=hx'.there;show wpAny _ _ (getattributeRaised _ _ _ _ _ _ _) _ _ _;unfold getattributeRaised
 repeat (any_goals (first|assumption|wp_step))
 exact h _ _ hx'.keeps
theorem jH{M:Model}{a:Addr}{o:Obj}{Q:Option Obj->Shared->Prop}(ho:s.heap.get? a=some o)(h:Q (some o) s):wpAny M A (loadIfAlive a) Q E s:=fun Γ p _=>by
 show Sem.wp M Γ (.loadIfAlive a .pure) _ _ p s;rw [Sem.wp_loadIfAlive,ho];exact h
end
end L2
namespace L2
open PySem PySem.Spec PyProof.Rows
section
variable {prog:Program}{w:World}{A:Around}{E:Value->Shared->Prop}{s:Shared}
theorem vN{b1 b2 f1:Bool}{z TI TO T i1 i2 l1 l2:Addr}{k1 k2:Nat}{xs ys:Array Value}{x y:Value}{oT:Obj}{Q:Value->Shared->Prop}(D:ZApart z TI TO i1 i2)(O1:l1≠z/\l1≠i1)(O2:l2≠z/\l2≠i1/\l2≠i2)
  (hz:zr s.heap z TI TO (rawInt T) f1) (hT:s.heap.get? T=some oT) (hTI:IsPair s.heap TI (.ref i1) (.ref i2))
  (h1:SrcTn b1 i1 l1 k1 s.heap) (h2:SrcTn b2 i2 l2 k2 s.heap) (hl1:SrcSq b1 s.heap l1 xs) (hl2:SrcSq b2 s.heap l2 ys) (hx:xs[k1]?=some x) (hy:ys[k2]?=some y)
  (hQ:∀h',zr h' z TI TO (rawInt T) true->SrcTn b1 i1 l1 (k1+1) h'->SrcTn b2 i2 l2 (k2+1) h'->IsPair h' s.heap.objs.size x y->h'.objs.size=s.heap.objs.size+1->
   (∀c o,c≠z->c≠i1->c≠i2->s.heap.get? c=some o->h'.get? c=some o)->Q (.ref s.heap.objs.size) { s with heap:=h' }):
  wpAny (model prog w) A (Builtin.«zip.__next__» ⟨[.ref z],[]⟩) (fun fin s'=>∃v,fin=.done (.ret v)/\Q v s') E s:=by
 show wpAny _ _ (field (.ref z) 2 >>= _) _ _ _;refine wpAny_bind (wpAny_field hz rfl (x:=.bool false) rfl ?_);show wpAny _ _ (field (.ref z) 3 >>= _) _ _ _;refine wpAny_bind (wpAny_field hz rfl (x:=.ref TI) rfl ?_);refine wpAny_bind (wpAny_seqItems hTI rfl ?_);show wpAny _ _ (Builtin.SmallTypes.ownedTupleIsFree (.ref z) >>= _) _ _ _;refine wpAny_bind ?_;unfold Builtin.SmallTypes.ownedTupleIsFree;refine wpAny_bind (wpAny_field hz rfl (x:=rawInt T) rfl ?_);show wpAny _ _ (loadIfAlive _ >>= _) _ _ _;refine wpAny_bind (jH (o:=oT) (by simpa using hT) ?_)
 simp only [Option.isNone_some,Bool.false_eq_true,if_false];refine wpAny_bind (wpAny_field hz rfl (x:=.bool f1) rfl ?_)
 have go:wpAny (model prog w) A (if (Value.bool f1 != Value.bool true)=true then do setField (Value.ref z) 1 (Value.bool true);pure false else pure false)
   (fun a s'=>a=false/\∃h₀,s'={ s with heap:=h₀ }/\zr h₀ z TI TO (rawInt T) true/\(∀c o,c≠z->s.heap.get? c=some o->h₀.get? c=some o)/\h₀.objs.size=s.heap.objs.size) E s:=by
  cases f1 with
  |true=>
   rw [if_neg (by decide)]
   exact wpAny_pure ⟨rfl,s.heap,rfl,hz,fun _ _ _ e=>e,rfl⟩
  |false=>
   rw [if_pos (by decide)]
   refine wpAny_bind (wpAny_setField_rec hz (by simp) fun h₀ hz₀ hs₀=>wpAny_pure ⟨rfl,h₀,rfl,hz₀,fun c o hc e=>hs₀.extBut c o hc e,hs₀.1⟩)
 refine wpAny_mono go (fun a s' hq=>?_) fun _ _ e=>e;obtain ⟨rfl,h₀,rfl,hz₀,hk₀,hs₀⟩:=hq;simp only [Bool.false_eq_true,if_false];rw [<- Array.forIn_toList];simp only [List.forIn_cons,List.forIn_nil];refine wpAny_bind (wpAny_bind (wpAny_bind (wpAny_holding ?_)));show wpAny _ _ (Builtin.SmallTypes.nextOf (.ref i1) >>= _) _ _ _;refine wpAny_bind (bc (s:={ s with heap:=h₀ }) (h1.keep fun o e=>hk₀ _ o D.i1z e) (hl1.keep fun o e=>hk₀ _ o O1.1 e) hx fun h₂ h1₂ hs₂=>wpAny_pure ?_);refine wpAny_pure ?_;refine wpAny_bind (wpAny_bind (wpAny_holding ?_));show wpAny _ _ (Builtin.SmallTypes.nextOf (.ref i2) >>= _) _ _ _;refine wpAny_bind (bc (s:={ s with heap:=h₂ }) (h2.keep fun o e=>hs₂.extBut _ o D.i12.symm (hk₀ _ o D.i2z e)) (hl2.keep fun o e=>hs₂.extBut _ o O2.2.1 (hk₀ _ o O2.1 e)) hy fun h₃ h2₃ hs₃=>wpAny_pure ?_);refine wpAny_pure (wpAny_pure ?_);refine wpAny_bind (wpAny_newTuple (wpAny_pure ⟨_,rfl,?_⟩) (by show 2<=sizeLine;decide))
 have e2:h₂.objs.size=h₀.objs.size:=hs₂.1;have e3:h₃.objs.size=h₂.objs.size:=hs₃.1;have hsz:h₃.objs.size=s.heap.objs.size:=by rw [e3,e2,hs₀]
 have zl:z≠i1:=D.i1z.symm;have zl2:z≠i2:=D.i2z.symm;show Q (.ref h₃.objs.size) _;rw [hsz];refine hQ _ (Heap.get?_push_of_some _ (hs₃.extBut _ _ zl2 (hs₂.extBut _ _ zl hz₀))) (h1₂.keep fun o e=>Heap.get?_push_of_some _ (hs₃.extBut _ o D.i12 e)) (h2₃.keep fun o e=>Heap.get?_push_of_some _ e) ?_ ?_ fun c o c1 c2 c3 e=>Heap.get?_push_of_some _ (hs₃.extBut _ _ c3 (hs₂.extBut _ _ c2 (hk₀ c o c1 e)))
 ·rw [<- hsz]
  exact Heap.get?_push_size _ rfl
 ·rw [Heap.size_push,hsz]
theorem ym{b1 b2 f1:Bool}{z TI TO T i1 i2 l1 l2:Addr}{k1 k2:Nat}{xs ys:Array Value}{oT:Obj}{Q:Fin->Shared->Prop}(hh:A.handled=none)(D:ZApart z TI TO i1 i2)(O1:l1≠z/\l1≠i1)
  (hz:zr s.heap z TI TO (rawInt T) f1) (hT:s.heap.get? T=some oT) (hTI:IsPair s.heap TI (.ref i1) (.ref i2))
  (h1:SrcTn b1 i1 l1 k1 s.heap) (hl1:SrcSq b1 s.heap l1 xs) (hx:xs[k1]?=none)
  (hE:∀h' e,(∀c o,c≠z->c≠i1->s.heap.get? c=some o->h'.get? c=some o)->(∃o,h'.get? e=some o/\o.cls=.type "StopIteration")->E (.ref e) { s with heap:=h' }):
  wpAny (model prog w) A (Builtin.«zip.__next__» ⟨[.ref z],[]⟩) Q E s:=by
 show wpAny _ _ (field (.ref z) 2 >>= _) _ _ _;refine wpAny_bind (wpAny_field hz rfl (x:=.bool false) rfl ?_);show wpAny _ _ (field (.ref z) 3 >>= _) _ _ _;refine wpAny_bind (wpAny_field hz rfl (x:=.ref TI) rfl ?_);refine wpAny_bind (wpAny_seqItems hTI rfl ?_);show wpAny _ _ (Builtin.SmallTypes.ownedTupleIsFree (.ref z) >>= _) _ _ _;refine wpAny_bind ?_;unfold Builtin.SmallTypes.ownedTupleIsFree;refine wpAny_bind (wpAny_field hz rfl (x:=rawInt T) rfl ?_);show wpAny _ _ (loadIfAlive _ >>= _) _ _ _;refine wpAny_bind (jH (o:=oT) (by simpa using hT) ?_)
 simp only [Option.isNone_some,Bool.false_eq_true,if_false];refine wpAny_bind (wpAny_field hz rfl (x:=.bool f1) rfl ?_)
 have go:wpAny (model prog w) A (if (Value.bool f1 != Value.bool true)=true then do setField (Value.ref z) 1 (Value.bool true);pure false else pure false)
   (fun a s'=>a=false/\∃h₀,s'={ s with heap:=h₀ }/\(∀c o,c≠z->s.heap.get? c=some o->h₀.get? c=some o)) E s:=by
  cases f1 with
  |true=>
   rw [if_neg (by decide)]
   exact wpAny_pure ⟨rfl,s.heap,rfl,fun _ _ _ e=>e⟩
  |false=>
   rw [if_pos (by decide)]
   refine wpAny_bind (wpAny_setField_rec hz (by simp) fun h₀ hz₀ hs₀=>wpAny_pure ⟨rfl,h₀,rfl,fun c o hc e=>hs₀.extBut c o hc e⟩)
 refine wpAny_mono go (fun a s' hq=>?_) fun _ _ e=>e;obtain ⟨rfl,h₀,rfl,hk₀⟩:=hq;simp only [Bool.false_eq_true,if_false];rw [<- Array.forIn_toList];simp only [List.forIn_cons,List.forIn_nil];refine wpAny_bind (wpAny_bind (wpAny_bind (wpAny_holding ?_)));show wpAny _ _ (Builtin.SmallTypes.nextOf (.ref i1) >>= _) _ _ _;exact wpAny_bind (bB (s:={ s with heap:=h₀ }) hh (h1.keep fun o e=>hk₀ _ o D.i1z e) (hl1.keep fun o e=>hk₀ _ o O1.1 e) hx fun h₂ e hs₂ he=>hE h₂ e (fun c o c1 c2 q=>hs₂ _ _ c2 (hk₀ c o c1 q)) he)
theorem gI{b1 b2 f1:Bool}{z TI TO T i1 i2 l1 l2:Addr}{k1 k2:Nat}{xs ys:Array Value}{x y:Value}{oT:Obj}{Q:Option Value->Shared->Prop}(D:ZApart z TI TO i1 i2)(O1:l1≠z/\l1≠i1)(O2:l2≠z/\l2≠i1/\l2≠i2)
  (hz:zr s.heap z TI TO (rawInt T) f1) (hT:s.heap.get? T=some oT) (hTI:IsPair s.heap TI (.ref i1) (.ref i2))
  (h1:SrcTn b1 i1 l1 k1 s.heap) (h2:SrcTn b2 i2 l2 k2 s.heap) (hl1:SrcSq b1 s.heap l1 xs) (hl2:SrcSq b2 s.heap l2 ys) (hx:xs[k1]?=some x) (hy:ys[k2]?=some y)
  (hQ:∀h',zr h' z TI TO (rawInt T) true->SrcTn b1 i1 l1 (k1+1) h'->SrcTn b2 i2 l2 (k2+1) h'->IsPair h' s.heap.objs.size x y->h'.objs.size=s.heap.objs.size+1->
   (∀c o,c≠z->c≠i1->c≠i2->s.heap.get? c=some o->h'.get? c=some o)->Q (some (.ref s.heap.objs.size)) { s with heap:=h' }):wpAny (model prog w) A (pyNext (.ref z)) Q E s:=by
 have hTy:s.TypeIs (.ref z) "zip":=⟨_,hz,rfl⟩;unfold pyNext
 exact wpAny_bind (wpAny_attempt (wpAny_callSpecial?_slot (name:=Str.ofString "__next__") hTy F.slot_zip_next
  (wpAny_call_entry F.slot_zip_next hTy F.entry_zip_next (vN D O1 O2 hz hT hTI h1 h2 hl1 hl2 hx hy fun h' a1 a2 a3 a4 a5 a6=>wpAny_pure (hQ h' a1 a2 a3 a4 a5 a6)) (F.args_zip_next_1 _))))
theorem il{b1 f1:Bool}{z TI TO T i1 i2 l1:Addr}{k1:Nat}{xs:Array Value}{oT:Obj}{Q:Option Value->Shared->Prop}(hh:A.handled=none)(D:ZApart z TI TO i1 i2)(O1:l1≠z/\l1≠i1)
  (hz:zr s.heap z TI TO (rawInt T) f1) (hT:s.heap.get? T=some oT) (hTI:IsPair s.heap TI (.ref i1) (.ref i2)) (h1:SrcTn b1 i1 l1 k1 s.heap) (hl1:SrcSq b1 s.heap l1 xs) (hx:xs[k1]?=none)
  (hQ:∀h',(∀c o,c≠z->c≠i1->s.heap.get? c=some o->h'.get? c=some o)->Q none { s with heap:=h' }):wpAny (model prog w) A (pyNext (.ref z)) Q E s:=by
 have hTy:s.TypeIs (.ref z) "zip":=⟨_,hz,rfl⟩;unfold pyNext
 refine wpAny_bind (wpAny_attempt (wpAny_callSpecial?_slot (name:=Str.ofString "__next__") hTy F.slot_zip_next
  (wpAny_call_entry F.slot_zip_next hTy F.entry_zip_next (ym (b2:=true) (l2:=l1) (k2:=0) (ys:=#[]) hh D O1 hz hT hTI h1 hl1 hx fun h' e hk he=>?_) (F.args_zip_next_1 _))))
 obtain ⟨o,ho,hc⟩:=he;refine wpAny_bind (wpAny_isInstance (T:="StopIteration") (b:=true) ⟨o,ho,hc⟩ isSubtype_stop ?_);exact wpAny_pure (hQ _ hk)
end
theorem w8{prog:Program}{w:World}{K:Type}[DecidableEq K]{knd:KeyKind prog w K}{A:Around}{R:Result->Shared->Prop}{b1 b2:Bool}{z TI TO T i1 i2 l1 l2 d:Addr}{xs ys:List Value}{ks:List K}(hh:A.handled=none)(D:ZApart z TI TO i1 i2)
  (O1:l1≠z/\l1≠i1/\l1≠i2/\l1≠d) (O2:l2≠z/\l2≠i1/\l2≠i2/\l2≠d) (Od:d≠z/\d≠i1/\d≠i2/\d≠TI/\d≠T) (OT:T≠z/\T≠i1/\T≠i2)
  (hk:Paired (fun k v=>knd.is k v=true) ks xs) (hl:xs.length=ys.length) (hz:xs.length<=1000):
  ∀(n i:Nat) (s:Shared) (f1:Bool) (kvs:List (K×Value)),n=xs.length-i->i<=xs.length->kvs.length<=i->zr s.heap z TI TO (rawInt T) f1->(∃oT,s.heap.get? T=some oT)->IsPair s.heap TI (.ref i1) (.ref i2)->
   SrcTn b1 i1 l1 i s.heap->SrcTn b2 i2 l2 i s.heap->SrcSq b1 s.heap l1 xs.toArray->SrcSq b2 s.heap l2 ys.toArray->s.heap.DictOf knd d kvs->
   (∀s':Shared,s'.os=s.os->s'.gens=s.gens->s'.drawn=s.drawn->s'.heap.DictOf knd d (((ks.zip ys).drop i).foldl (fun a p=>stored a p.1 p.2) kvs)->(∀c o,c≠z->c≠i1->c≠i2->c≠d->s.heap.get? c=some o->s'.heap.get? c=some o)->R (.ok (.ret .none)) s')->
   ∀tk:Nat,codeAny (model prog w) A (.builtin "dict.update.loop" ⟨[.ref d,.ref z,rawInt tk,.none],[]⟩) R s:=by
 intro n
 induction n with
 |zero=>
  intro i s f1 kvs hn hi hkl hzz hT hTI h1 h2 s1 s2 hd hR tk;obtain ⟨oT,hT⟩:=hT;have hin:i=xs.length:=by lia
  refine codeAny_builtin bg ?_;rw [Around.under_plainId aD _];show wpAny _ A.in1 (pyNext (.ref z) >>= _) _ _ s;refine wpAny_bind (il hh D ⟨O1.1,O1.2.1⟩ hzz hT hTI h1 s1 (by simp;lia) fun h' hk'=>?_)
  refine wpAny_bind (m:=Builtin.Dict.addKeywords d []) (wpAny_pure ?_);refine wpAny_pure (hR _ rfl rfl rfl ?_ fun c o c1 c2 c3 c4 e=>hk' c o c1 c2 e);rw [List.drop_eq_nil_of_le (by have e:=Paired.length hk;rw [List.length_zip];lia)]
  obtain ⟨o,es,ep,ho,r⟩:=hd;exact ⟨o,es,ep,hk' d o Od.1 Od.2.1 ho,r⟩
 |succ n ih=>
  intro i s f1 kvs hn hi hkl hzz hT hTI h1 h2 s1 s2 hd hR tk;obtain ⟨oT,hT⟩:=hT;have hlt:i<xs.length:=by lia
  have hlt2:i<ys.length:=by lia
  refine codeAny_builtin bg ?_;rw [Around.under_plainId aD _];show wpAny _ A.in1 (pyNext (.ref z) >>= _) _ _ s;refine wpAny_bind (gI (x:=xs[i]) (y:=ys[i]) D ⟨O1.1,O1.2.1⟩ ⟨O2.1,O2.2.1,O2.2.2.1⟩ hzz hT hTI h1 h2 s1 s2 (by simp [hlt]) (by simp [hlt2]) fun h' a1 a2 a3 a4 a5 hk'=>?_)
  have hTy:({ s with heap:=h' }:Shared).TypeIs (.ref s.heap.objs.size) "tuple":=⟨_,a4,rfl⟩;refine wpAny_bind (wpAny_holding (wpAny_bind (wpAny_tryCatch ?_)));unfold Builtin.Dict.pairItems;refine wpAny_bind (wpAny_typeOf hTy ?_);rw [if_pos (by decide)]
  refine wpAny_bind (wpAny_seqItems (s:={ s with heap:=h' }) a4 rfl (wpAny_pure ?_));have hd':h'.DictOf knd d kvs:=by
   obtain ⟨o,es,ep,ho,r⟩:=hd;exact ⟨o,es,ep,hk' d o Od.1 Od.2.1 Od.2.2.1 ho,r⟩
  have hks:i<ks.length:=by rw [Paired.length hk];exact hlt
  have hkey:knd.is ks[i] xs[i]=true:=by
   have:∀{l₁:List K} {l₂:List Value},Paired (fun k v=>knd.is k v=true) l₁ l₂->∀(j:Nat) (h1:j<l₁.length) (h2:j<l₂.length),knd.is l₁[j] l₂[j]=true:=by
    intro l₁ l₂ p
    induction p with
    |nil=>intro j h1;exact absurd h1 (Nat.not_lt_zero _)
    |cons r _ ihp=>
     intro j h1 h2;cases j with
     |zero=>exact r
     |succ j=>exact ihp j (by simpa using h1) (by simpa using h2)
   exact this hk i hks hlt
  have hkz:kvs.length<=sizeLine:=Nat.le_trans (Nat.le_trans hkl hi) (Nat.le_trans hz (by decide))
  show wpAny _ _ (holding [xs[i],ys[i]] (dictSet d xs[i] ys[i])) _ _ _;refine wpAny_holding (wpAny_dictSet_pairs (s:={ s with heap:=h' }) hkey hd' (fun h'' hd'' hs''=>?_) hkz);have kk:∀c o,c≠z->c≠i1->c≠i2->c≠d->s.heap.get? c=some o->h''.get? c=some o:=fun c o c1 c2 c3 c4 e=>hs''.extBut c o c4 (hk' c o c1 c2 c3 e);refine wpAny_pure ⟨plainId_quiet aD _,?_⟩;have hst:(stored kvs ks[i] ys[i]).length<=i+1:=by
   unfold stored
   split
   ·rw [List.length_map];lia
   ·rw [List.length_append,List.length_singleton];lia
  refine ih (i+1) { s with heap:=h'',toks:=s.toks+1 } true (stored kvs ks[i] ys[i]) (by lia) hlt hst (hs''.extBut _ _ Od.1.symm a1) ⟨oT,kk T oT OT.1 OT.2.1 OT.2.2 Od.2.2.2.2.symm hT⟩ (kk TI _ D.TIz D.TIi1 D.TIi2 Od.2.2.2.1.symm hTI)
   (a2.keep fun o e=>hs''.extBut _ o Od.2.1.symm e) (a3.keep fun o e=>hs''.extBut _ o Od.2.2.1.symm e) (s1.keep fun o e=>kk l1 o O1.1 O1.2.1 O1.2.2.1 O1.2.2.2 e) (s2.keep fun o e=>kk l2 o O2.1 O2.2.1 O2.2.2.1 O2.2.2.2 e) hd'' ?_ (tk+1)
  intro s' q1 q2 q3 q4 q5;refine hR s' q1 q2 q3 ?_ fun c o c1 c2 c3 c4 e=>q5 c o c1 c2 c3 c4 (kk c o c1 c2 c3 c4 e);have ez:(ks.zip ys).drop i=(ks[i],ys[i])::(ks.zip ys).drop (i+1):=by
   rw [List.drop_eq_getElem_cons (by rw [List.length_zip];lia)]
   simp
  rw [ez,List.foldl_cons];exact q4
namespace F
theorem mro_dict:mroOf (.type "dict")=pure [.type "dict",.type "object"]:=by rw [mroOf_type];kernel_rfl
theorem ir:typeLookup (.type "dict") "__new__"=pure (some (.builtin "dict.__new__")):=by rw [typeLookup_type,builtinLookup_eq_fast];kernel_rfl
theorem called_dict:TypeCalled "dict" "dict.__new__" "dict.__init__":=
 ⟨by decide +kernel,by decide +kernel,⟨_,_,mro_dict⟩,madeBy_type mro_dict ir (by decide +kernel),by decide +kernel,by rw [isSubtype_type];kernel_rfl,PySem.F.slot_dict_init⟩
theorem typeCall_dict_1(a:Value):checkTypeCall "dict" ⟨[a],[]⟩=pure ():=by kernel_rfl
theorem newCall_dict_1(a:Value):checkBuiltinCall "dict.__new__" ⟨[.type "dict",a],[]⟩=pure ():=by kernel_rfl
theorem entry_dict_new:entryFor table "dict.__new__"=some Builtin.«dict.__new__»:=entryFor_of_tree (by kernel_rfl)
theorem plain_dict_new:plainId "dict.__new__"=true:=by decide +kernel
theorem sub_dict:isSubtype (.type "dict") (.type "dict")=pure true:=by rw [isSubtype_type];kernel_rfl
end F
section
variable {prog:Program}{w:World}{K:Type}[DecidableEq K]{knd:KeyKind prog w K}{A:Around}{E:Value->Shared->Prop}{s:Shared}
theorem eY(a:Value){Q₁:Value->Shared->Prop}(h:Q₁ (.ref s.heap.objs.size) { s with heap:=s.heap.push { cls:=.type "dict",data:=.dict #[] } }):
  codeAny (model prog w) A (.call (.builtin "dict.__new__") ⟨[.type "dict",a],[]⟩) (wants Q₁ E) s:=by
 refine codeAny_call_builtin F.plain_dict_new F.entry_dict_new (wpAny_of_eq (F.newCall_dict_1 a) ?_);have hsub:=F.sub_dict;have hmro:=F.mro_dict;obtain ⟨hp,g,d,tk,os⟩:=s;unfold Builtin.«dict.__new__»
 wp_walk
 exact h
theorem kJ{b1 b2:Bool}{z TI TO i1 i2 l1 l2:Addr}{xs ys:List Value}{ks:List K}{Q:Value->Shared->Prop}(hh:A.handled=none)(D:ZApart z TI TO i1 i2)(O1:pW z TO i1 i2 l1)(O2:pW z TO i1 i2 l2)
  (hz:IsZip s.heap z TI TO .none) (hTI:IsPair s.heap TI (.ref i1) (.ref i2)) (hTO:∃a b,IsPair s.heap TO a b) (h1:SrcTn b1 i1 l1 0 s.heap) (h2:SrcTn b2 i2 l2 0 s.heap) (hl1:SrcSq b1 s.heap l1 xs.toArray) (hl2:SrcSq b2 s.heap l2 ys.toArray)
  (hk:Paired (fun k v=>knd.is k v=true) ks xs) (hl:xs.length=ys.length) (hz0:0<xs.length) (hzz:xs.length<=1000)
  (h:∀s':Shared,s'.os=s.os->s'.gens=s.gens->s'.drawn=s.drawn->s'.heap.DictOf knd s.heap.objs.size ((ks.zip ys).foldl (fun a p=>stored a p.1 p.2) [])->
   (∀c o,c≠z->c≠TO->c≠i1->c≠i2->s.heap.get? c=some o->s'.heap.get? c=some o)->Q (.ref s.heap.objs.size) s'):
  wpAny (model prog w) A (call (.type "dict") [.ref z]) Q E s:=by
 refine callType_codes (Q₁:=fun obj s₁=>obj=.ref s.heap.objs.size/\s₁={ s with heap:=s.heap.push { cls:=.type "dict",data:=.dict #[] } }) F.called_dict (F.typeCall_dict_1 _) F.entry_dict_init (eY _ ⟨rfl,rfl⟩) ?_
 rintro obj s₁ ⟨rfl,rfl⟩
 have hnew:(s.heap.push { cls:=.type "dict",data:=.dict #[] }).DictOf knd s.heap.objs.size []:=Heap.DictOf.new s.heap;refine ⟨hnew.typeIs,F.args_dict_init_2 _ _,?_⟩;unfold Builtin.«dict.__init__»;refine wpAny_bind ?_;unfold Builtin.Dict.selfAndRest;refine wpAny_bind (wpAny_notOrdered_dict hnew.typeIs ?_);show wpAny _ _ (pure (s.heap.objs.size,[Value.ref z])) _ _ _;refine wpAny_pure ?_;show wpAny _ _ (Builtin.Dict.updateFrom "dict.__init__" s.heap.objs.size (.ref z) [] .none) _ _ _;unfold Builtin.Dict.updateFrom;have hdz:∀c o,s.heap.get? c=some o->c≠s.heap.objs.size:=fun c o e=>Nat.ne_of_lt (Heap.lt_size e);have up:∀c o,s.heap.get? c=some o->(s.heap.push { cls:=.type "dict",data:=.dict #[] }).get? c=some o:=fun c o e=>Heap.get?_push_of_some _ e;refine wpAny_bind (wpAny_typeOf (T:="zip") ⟨_,up _ _ hz,rfl⟩ ?_);rw [if_pos (by decide)]
 refine wpAny_bind (kM (f1:=false) (s:={ s with heap:=s.heap.push { cls:=.type "dict",data:=.dict #[] } }) (up _ _ hz) hh fun h₁ tk₁ hk₁=>?_);rw [if_pos (show (none:Option Value).isNone=true from rfl)];have up1:∀c o,s.heap.get? c=some o->h₁.get? c=some o:=fun c o e=>hk₁ c o (up c o e);refine wpAny_bind (wpAny_rule (wpAny_bind (wpAny_pyIter_zip (s:={ s with heap:=h₁,toks:=tk₁ }) (up1 _ _ hz) (wpAny_pure ⟨plainId_quiet aD _,codeAny_builtin bg ?_⟩))));rw [Around.under_plainId aD _];show wpAny _ A.in1.in1 (pyNext (.ref z) >>= _) _ _ _;obtain ⟨a,b,hTO⟩:=hTO;have hlt2:0<ys.length:=by lia
 have hd1:h₁.DictOf knd s.heap.objs.size []:=by
  obtain ⟨o,es,ep,ho,r⟩:=hnew;exact ⟨o,es,ep,hk₁ _ o ho,r⟩
 have hnz:s.heap.objs.size≠z:=(hdz _ _ hz).symm;have hnTI:s.heap.objs.size≠TI:=(hdz _ _ hTI).symm;have hnTO:s.heap.objs.size≠TO:=(hdz _ _ hTO).symm;have hni1:s.heap.objs.size≠i1:=by obtain ⟨o,e,_⟩:=h1.lt;exact (hdz _ _ e).symm
 have hni2:s.heap.objs.size≠i2:=by obtain ⟨o,e,_⟩:=h2.lt;exact (hdz _ _ e).symm
 have nl:∀{b:Bool} {l:Addr} {us:Array Value},SrcSq b s.heap l us->l≠s.heap.objs.size:=fun {b l us} q=>by
  cases b with
  |true=>obtain ⟨o,e,_⟩:=(show s.heap.IsList l us from q);exact hdz _ _ e
  |false=>obtain ⟨o,e,_⟩:=(show s.heap.IsTuple l us from q);exact hdz _ _ e
 refine wpAny_bind (dy (s:={ s with heap:=h₁,toks:=tk₁ }) (x:=xs[0]) (y:=ys[0]) D O1 O2 (up1 _ _ hz) (up1 _ _ hTI) (up1 _ _ hTO) (h1.keep fun o e=>up1 _ o e) (h2.keep fun o e=>up1 _ o e) (hl1.keep fun o e=>up1 _ o e) (hl2.keep fun o e=>up1 _ o e) (by simp [hz0]) (by simp [hlt2]) fun h₂ a1 a2 a3 a4 a5 a6 hk₂=>?_)
 have hTy:({ s with heap:=h₂,toks:=tk₁ }:Shared).TypeIs (.ref h₁.objs.size) "tuple":=⟨_,a5,rfl⟩;refine wpAny_bind (wpAny_holding (wpAny_bind (wpAny_tryCatch ?_)));unfold Builtin.Dict.pairItems;refine wpAny_bind (wpAny_typeOf hTy ?_);rw [if_pos (by decide)]
 refine wpAny_bind (wpAny_seqItems (s:={ s with heap:=h₂,toks:=tk₁ }) a5 rfl (wpAny_pure ?_));have hks:0<ks.length:=by rw [Paired.length hk];exact hz0
 have hkey:knd.is ks[0] xs[0]=true:=by
  cases hk with
  |nil=>exact absurd hz0 (Nat.lt_irrefl _)
  |cons r _=>exact r
 have hd2:h₂.DictOf knd s.heap.objs.size []:=by
  obtain ⟨o,es,ep,ho,r⟩:=hd1;exact ⟨o,es,ep,hk₂ _ o hnz hnTO hni1 hni2 ho,r⟩
 show wpAny _ _ (holding [xs[0],ys[0]] (dictSet s.heap.objs.size xs[0] ys[0])) _ _ _;refine wpAny_holding (wpAny_dictSet_pairs (s:={ s with heap:=h₂,toks:=tk₁ }) hkey hd2 (fun h₃ hd₃ hs₃=>?_) (Nat.zero_le _));refine wpAny_pure ⟨plainId_quiet aD _,?_⟩;have T1:∀c o,h₁.get? c=some o->h₁.objs.size≠c:=fun c o e=>Nat.ne_of_gt (Heap.lt_size e);have hdl:s.heap.objs.size<h₁.objs.size:=by obtain ⟨o,es,ep,ho,r⟩:=hd1;exact Heap.lt_size ho
 have kk:∀c o,c≠z->c≠TO->c≠i1->c≠i2->c≠s.heap.objs.size->s.heap.get? c=some o->h₃.get? c=some o:=fun c o c1 c2 c3 c4 c5 e=>hs₃.extBut c o c5 (hk₂ c o c1 c2 c3 c4 (up1 c o e));have hst:(stored ([]:List (K×Value)) ks[0] ys[0]).length<=1:=by simp [stored]
 refine w8 (A:=A.in1) (T:=h₁.objs.size) (l1:=l1) (l2:=l2) (xs:=xs) (ys:=ys) (ks:=ks) hh D ⟨O1.1,O1.2.2.1,O1.2.2.2,nl hl1⟩ ⟨O2.1,O2.2.2.1,O2.2.2.2,nl hl2⟩ ⟨hnz,hni1,hni2,hnTI,Nat.ne_of_lt hdl⟩
  ⟨T1 _ _ (up1 _ _ hz),(by obtain ⟨o,e,_⟩:=h1.lt;exact T1 _ _ (up1 _ _ e)),(by obtain ⟨o,e,_⟩:=h2.lt;exact T1 _ _ (up1 _ _ e))⟩ hk hl hzz (xs.length-1) 1 { s with heap:=h₃,toks:=tk₁+1 } false (stored [] ks[0] ys[0]) rfl hz0 hst
  (hs₃.extBut _ _ hnz.symm a1) ⟨_,hs₃.extBut _ _ (Nat.ne_of_gt hdl) a5⟩ (kk TI _ D.TIz D.TITO D.TIi1 D.TIi2 hnTI.symm hTI) (a3.keep fun o e=>hs₃.extBut _ o hni1.symm e) (a4.keep fun o e=>hs₃.extBut _ o hni2.symm e)
  (hl1.keep fun o e=>kk l1 o O1.1 O1.2.1 O1.2.2.1 O1.2.2.2 (nl hl1) e) (hl2.keep fun o e=>kk l2 o O2.1 O2.2.1 O2.2.2.1 O2.2.2.2 (nl hl2) e) hd₃ ?_ 1
 intro s' q1 q2 q3 q4 q5;refine ⟨rfl,h s' q1 q2 q3 ?_ fun c o c1 c2 c3 c4 e=>q5 c o c1 c3 c4 (hdz c o e) (kk c o c1 c2 c3 c4 (hdz c o e) e)⟩;have ez:ks.zip ys=(ks[0],ys[0])::(ks.zip ys).drop 1:=by
  have:=List.drop_eq_getElem_cons (l:=ks.zip ys) (i:=0) (by rw [List.length_zip];lia)
  simpa using this
 rw [ez,List.foldl_cons];exact q4
end
end L2
namespace L2
open PySem PySem.Spec PyProof.Rows
theorem gQ:fillsNumberSlot (.type "tuple") "mul"=pure false:=
 PySem.fillsNumberSlot_seq (id:="tuple.__mul__") (r:=some (.builtin "tuple.__rmul__")) PySem.F.slot_tuple_mul.lookup (by decide +kernel) PySem.F.slot_tuple_rmul.lookup (by decide +kernel)
theorem lY:seqRepeat? (.type "tuple")=pure (some (.builtin "tuple.__mul__")):=by
 unfold seqRepeat?;rw [PySem.seqSlot_of (T:="tuple") (name:="__mul__") (id:="tuple.__mul__") PySem.F.slot_tuple_mul.lookup (by decide +kernel),PySem.seqSlot_of (T:="tuple") (name:="__rmul__") (id:="tuple.__rmul__") PySem.F.slot_tuple_rmul.lookup (by decide +kernel)]
 rfl
theorem jR(a:Int)(t:Tok)(l:Addr)(items:Array Value)(n:Nat)(dd:Option Addr)(sl:Array (Option Value)):
  Meets (Builtin.«int.__rmul__» ⟨[.int a t,.ref l],[]⟩) (fun _ R s=>s.heap.get? l=some { cls:=.type "tuple",dict:=dd,data:=.seq items n,slots:=sl }/\R (.ok (.ret Value.notImplemented)) s):=
 .of_wp fun prog w A R s h=>by obtain ⟨hp,g,d,tk,os⟩:=s;obtain ⟨hl,h⟩:=h;wp_walk;exact ⟨_,rfl,h⟩
theorem jr(l:Addr)(items:Array Value)(n:Nat)(dd:Option Addr)(sl:Array (Option Value))(x:Int)(u:Tok)(hx:1<x)(hx2:x<=1000)(hi:items.size<=1000)(h0:items.isEmpty=false):
  Meets (Builtin.«tuple.__mul__» ⟨[.ref l,.int x u],[]⟩) (fun _ R s=>s.heap.get? l=some { cls:=.type "tuple",dict:=dd,data:=.seq items n,slots:=sl }/\
   R (.ok (.ret (.ref s.heap.objs.size))) { s with heap:=s.heap.push { cls:=.type "tuple",data:=.seq ((List.replicate x.toNat items).foldl (·++·) #[]) } }):=
 .of_wp fun prog w A R s h=>by
  obtain ⟨hp,g,d,tk,os⟩:=s;obtain ⟨hl,h⟩:=h;have f1:=AutoSeq1.idx_int;have f2:=AutoSeq1.sub_tuple_tuple;have g1:(decide (x < -(2 ^ 63))||decide (x>=2 ^ 63))=false:=by simp;lia
  have g2:(items.isEmpty||x==1)=false:=by rw [h0];simp;lia
  have g3:(decide (x<=0)||items.isEmpty)=false:=by rw [h0];simp;lia
  have hm:(items.size:Int)*x<=1000000:=by
   have a1:(items.size:Int)*x<=1000*x:=Int.mul_le_mul_of_nonneg_right (by lia) (by lia)
   lia
  have hm2:¬((items.size:Int)*x>(2 ^ 63-1) / 8):=by lia
  have hm3:Builtin.Tuple.tupleTooMany ((items.size:Int)*x)=false:=by
   unfold Builtin.Tuple.tupleTooMany;have:(1000000:Int)<=(sizeLine:Int):=by decide
   exact decide_eq_false (by lia)
  wp_walk using wpAny_loadPart' hl
  try simp only [g1,Bool.false_eq_true,if_false]
  wp_walk using wpAny_loadPart' hl
  try simp only [g2,Bool.false_eq_true,if_false]
  wp_walk using wpAny_loadPart' hl
  try simp only [g3,Bool.false_eq_true,if_false]
  wp_walk using wpAny_loadPart' hl
  rw [if_neg hm2];simp only [hm3,Bool.false_eq_true,if_false];unfold Builtin.Tuple.tupleExact;have hlen:((List.replicate x.toNat items).foldl (·++·) #[]).toList.length<=sizeLine:=by
   have e:∀(k:Nat) (acc:Array Value),((List.replicate k items).foldl (·++·) acc).size=acc.size+k*items.size:=by
    intro k
    induction k with
    |zero=>intro acc;simp
    |succ k ih=>intro acc;rw [List.replicate_succ,List.foldl_cons,ih,Array.size_append,Nat.succ_mul];lia
   rw [Array.length_toList,e];have:x.toNat*items.size<=1000*1000:=Nat.mul_le_mul (by lia) hi
   have h2:(1000*1000:Nat)<=sizeLine:=by decide
   simp only [List.size_toArray,List.length_nil] at *;lia
  refine wpAny_bind (wpAny_newTuple (wpAny_pure ⟨_,rfl,?_⟩) hlen);simpa using h
theorem kN(l:Addr)(items:Array Value)(n:Nat)(dd:Option Addr)(sl:Array (Option Value))(u:Tok):
  Meets (Builtin.«tuple.__mul__» ⟨[.ref l,.int 1 u],[]⟩) (fun _ R s=>s.heap.get? l=some { cls:=.type "tuple",dict:=dd,data:=.seq items n,slots:=sl }/\R (.ok (.ret (.ref l))) s):=
 .of_wp fun prog w A R s h=>by
  obtain ⟨hp,g,d,tk,os⟩:=s;obtain ⟨hl,h⟩:=h;have f1:=AutoSeq1.idx_int;have f2:=AutoSeq1.sub_tuple_tuple;have g1:(decide ((1:Int) < -(2 ^ 63))||decide ((1:Int)>=2 ^ 63))=false:=by decide
  have g2:(items.isEmpty||(1:Int)==1)=true:=by simp
  wp_walk using wpAny_loadPart' hl
  try simp only [g1,Bool.false_eq_true,if_false]
  wp_walk using wpAny_loadPart' hl
  try simp only [g2,if_true]
  wp_walk using wpAny_loadPart' hl
  all_goals first|exact ⟨_,rfl,h⟩|skip
theorem jC(l:Addr)(items:Array Value)(n:Nat)(dd:Option Addr)(sl:Array (Option Value))(x:Int)(u:Tok)(hx:x<=0)(hx2:-1000<=x)(h0:items.isEmpty=false):
  Meets (Builtin.«tuple.__mul__» ⟨[.ref l,.int x u],[]⟩) (fun _ R s=>s.heap.get? l=some { cls:=.type "tuple",dict:=dd,data:=.seq items n,slots:=sl }/\
   R (.ok (.ret (.ref s.heap.objs.size))) { s with heap:=s.heap.push { cls:=.type "tuple",data:=.seq #[] } }):=
 .of_wp fun prog w A R s h=>by
  obtain ⟨hp,g,d,tk,os⟩:=s;obtain ⟨hl,h⟩:=h;have f1:=AutoSeq1.idx_int;have f2:=AutoSeq1.sub_tuple_tuple;have g1:(decide (x < -(2 ^ 63))||decide (x>=2 ^ 63))=false:=by simp;lia
  have g2:(items.isEmpty||x==1)=false:=by rw [h0];simp;lia
  have g3:(decide (x<=0)||items.isEmpty)=true:=by simp [hx]
  wp_walk using wpAny_loadPart' hl
  try simp only [g1,Bool.false_eq_true,if_false]
  wp_walk using wpAny_loadPart' hl
  try simp only [g2,Bool.false_eq_true,if_false]
  wp_walk using wpAny_loadPart' hl
  try simp only [g3,if_true]
  all_goals exact ⟨_,rfl,h⟩
section
variable {prog:Program}{w:World}{A:Around}{E:Value->Shared->Prop}{s:Shared}
theorem vQ{l:Addr}{its:List Value}{k:Int}{u:Tok}{Q:Value->Shared->Prop}(ht:s.heap.IsTuple l its.toArray)(h0:its≠[])(hk0:0<=k)(hk:k<=1000)(hi:its.length<=1000)
  (h1:k=1->Q (.ref l) s) (h2:k≠1->Q (.ref s.heap.objs.size) { s with heap:=s.heap.push { cls:=.type "tuple",data:=.seq (List.replicate k.toNat its).flatten.toArray } }):
  wpAny (model prog w) A (binaryOp .Mult (.ref l) (.int k u)) Q E s:=by
 obtain ⟨⟨cls,dd,data,sl⟩,e,hc,n,hd⟩:=ht;simp only at hc hd;subst hc hd;have he:its.toArray.isEmpty=false:=by cases its with|nil=>exact absurd rfl h0|cons a r=>rfl
 refine wpAny_binaryOp_repeat_ref (T:="tuple") (U:="int") (by decide) ⟨_,e,rfl⟩ (fun s'=>typeIs_int s' k u) gQ PySem.F.fills_int_mul PySem.F.slot_int_rmul lY PySem.F.slot_int_index.lookup
  (call_meets PySem.F.slot_int_rmul (typeIs_int s k u) PySem.F.entry_int_rmul (PySem.F.args_int_rmul_2 _ _) (jR k u l its.toArray n dd sl) ⟨e,rfl,⟨_,e,rfl⟩,?_⟩)
 by_cases hk1:k=1
 ·subst hk1
  exact call_meets PySem.F.slot_tuple_mul ⟨_,e,rfl⟩ PySem.F.entry_tuple_mul (PySem.F.args_tuple_mul_2 _ _) (kN l its.toArray n dd sl u) ⟨e,h1 rfl⟩
 ·have h2':=h2 hk1
  by_cases hk2:k<=0
  ·refine call_meets PySem.F.slot_tuple_mul ⟨_,e,rfl⟩ PySem.F.entry_tuple_mul (PySem.F.args_tuple_mul_2 _ _) (jC l its.toArray n dd sl k u hk2 (by lia) he) ⟨e,?_⟩
   have ek:k.toNat=0:=by lia
   rw [ek] at h2';exact h2'
  ·refine call_meets PySem.F.slot_tuple_mul ⟨_,e,rfl⟩ PySem.F.entry_tuple_mul (PySem.F.args_tuple_mul_2 _ _) (jr l its.toArray n dd sl k u (by lia) hk (by rw [List.size_toArray];exact hi) he) ⟨e,?_⟩
   have ef:∀(m:Nat) (acc:List Value),List.foldl (fun x1 x2=>x1++x2) acc.toArray (List.replicate m its.toArray)=(acc++(List.replicate m its).flatten).toArray:=by
    intro m
    induction m with
    |zero=>intro acc;simp
    |succ m ih=>
     intro acc;have e1:acc.toArray++its.toArray=(acc++its).toArray:=by simp
     rw [List.replicate_succ,List.foldl_cons,e1,ih,List.replicate_succ,List.flatten_cons,List.append_assoc]
   have e0:=ef k.toNat [];rw [List.nil_append] at e0;rw [e0];exact h2'
end
end L2
namespace L2
open PySem PySem.Spec PyProof.Rows
section
variable {X:Cx}
theorem y2:bU X (binaryOp .Add) (fun x y H Q=>∃a b ys,x=.ref a/\y=.ref b/\fE X.K H a []/\fE X.K H b ys/\Q (.ref b) H):=by
 intro pins s σ H x y v u Q I rx ry h;obtain ⟨a,b,ys,rfl,rfl,ha,hb,q⟩:=h;cases rx;cases ry;obtain ⟨its,r1,p1,_⟩:=I.tuple ha;obtain ⟨its2,r2,p2,_⟩:=I.tuple hb;obtain rfl:its=[]:=r1.zero;obtain ⟨⟨cls,dd,data,sl⟩,ho,hc,n,hd⟩:=id p1;obtain ⟨⟨cls2,dd2,data2,sl2⟩,ho2,hc2,n2,hd2⟩:=id p2;simp only at hc hd hc2 hd2;subst hc hd hc2 hd2
 exact concat_meets ⟨_,ho,rfl⟩ ⟨_,ho2,rfl⟩ noFill_tuple_add seq_tuple_add PySem.F.slot_tuple_add PySem.F.entry_tuple_add (PySem.F.args_tuple_add_2 _ _)
  (tuple_addW0 a b #[] its2.toArray n n2 dd dd2 sl sl2 rfl) ⟨ho,ho2,⟨.ref b,H,I,rfl,q⟩⟩
theorem wI{n:Nat}(hn:n.log2<2000)(hn0:0<n):bU X (binaryOp .FloorDiv) (rI (fun _ j=>j=(n:Int)) fun i j=>.int (i / j)):=FS fun i j _ _ _ _ _ hc q=>by
 subst hc;refine floordiv_int (by lia) ?_ (.inl (PyProof.noPylong_of_log2 (by simpa using Nat.lt_trans hn (by decide))))
 rw [Int.fdiv_eq_ediv_of_nonneg _ (by lia)]
 exact q
def y4(K:W.Frag)(b1 b2:Bool)(t:TA):TE:=fun σ H Q=>t σ H fun vs H1=>∃(l1 l2:Addr) (ks:List aw) (ys:List V),vs=[.ref l1,.ref l2]/\lV K b1 H1 l1 (ks.map kV)/\lV K b2 H1 l2 ys/\ks.length=ys.length/\0<ks.length/\ks.length<=1000/\
 ∀d,H1 d=none->Q (.ref d) (upd H1 d (.dK ((ks.zip ys).foldl (fun a p=>ca a p.1 p.2) [])))
theorem li{P:Program}{w:World}:∀{ks:List aw} {us:List Value},Vals (ks.map kV) us->Paired (fun k v=>(aH P w).is k v=true) ks us
 |[],_,.nil=>.nil
 |_::_,_,.cons r t=>.cons (ia r) (li t)
theorem va:∀{ks:List aw} {ys:List V} {us:List Value} {kvs:List (aw×V)} {vs:List (aw×Value)},Vals ys us->KV kvs vs->
  KV ((ks.zip ys).foldl (fun a p=>ca a p.1 p.2) kvs) ((ks.zip us).foldl (fun a p=>stored a p.1 p.2) vs)
 |[],_,_,_,_,_,r=>r
 |_::_,_,_,_,_,.nil,r=>r
 |k::ks,_,_,_,_,.cons ru t,r=>va (ks:=ks) t (KV.put r k ru)
theorem oB:∀(ps:List (aw×V)) (kvs:List (aw×V)),(ps.foldl (fun a p=>ca a p.1 p.2) kvs).length<=kvs.length+ps.length
 |[],kvs=>Nat.le_refl _
 |p::ps,kvs=>by
  have h1:=oB ps (ca kvs p.1 p.2);have h2:=dX kvs p.1 p.2;rw [List.foldl_cons,List.length_cons];lia
theorem rj{a b:Expr}{ta:TA}{p p2 pos pos2:Pos}(b1 b2:Bool)(hc:X.calm=true)(hg:Gl X "zip")(hm:X.mg "zip"=none)(hg2:Gl X "dict")(hm2:X.mg "dict"=none)(ha:PA X [a,b] ta)
  (hs:starEach [a,b] X.env=[(false,eval a X.env),(false,eval b X.env)]:=by rfl) (hs2:starEach [b] X.env=[(false,eval b X.env)]:=by rfl)
  (hs3:starEach [Expr.Call (.Name "zip" p2) [a,b] [] pos2] X.env=[(false,eval (.Call (.Name "zip" p2) [a,b] [] pos2) X.env)]:=by rfl):
  PE X (.Call (.Name "dict" p) [.Call (.Name "zip" p2) [a,b] [] pos2] [] pos) (y4 X.K b1 b2 ta):=by
 intro pins s σ H Q I h;refine Call_ (cA I hg2 hm2 (by decide +kernel:bootBuiltins "dict"=some (.type "dict")) (PyProof.Rows.callWith_type1 ?_ hs3 rfl))
 rw [hs3];show wpAny _ _ (spliced ((false,_)::backTo pos [])) _ _ s;refine Calls.spliced_cons ?_;refine Call_ (cA I hg hm (by decide +kernel:bootBuiltins "zip"=some (.type "zip")) (PyProof.Rows.callWith_type1 (a_ (ha pos2 pins s σ H _ I h) fun us s1 ⟨vs,H1,I1,r1,q1⟩=>?_) (by rw [hs,hs2]) (by rw [hs2];rfl)))
 obtain ⟨l1,l2,ks,ys,e,q1,q2,hl,h0,hz,q⟩:=q1;subst e;obtain ⟨u1,u2,rfl,ru1,ru2⟩:=r1.two;cases ru1;cases ru2;obtain ⟨its1,rv1,sq1,z1⟩:=I1.src q1;obtain ⟨its2,rv2,sq2,z2⟩:=I1.src q2;refine nU sq1 sq2 fun h' hz' hTI hTO h1 h2 hsz hk=>?_;refine Calls.spliced_nil ?_;have e1:=rv1.length;have e2:=rv2.length;rw [List.length_map] at e1;have D:ZApart (s1.heap.objs.size+4) (s1.heap.objs.size+2) (s1.heap.objs.size+3) s1.heap.objs.size (s1.heap.objs.size+1):=by constructor<;>exact (show (_:Nat)≠(_:Nat) by lia)
 have lt:∀{c:Bool} {l:Addr} {us:Array Value},SrcSq c s1.heap l us->l<s1.heap.objs.size:=fun {c l us} z=>by
  cases c with
  |true=>obtain ⟨o,e,_⟩:=(show s1.heap.IsList l us from z);exact Heap.lt_size e
  |false=>obtain ⟨o,e,_⟩:=(show s1.heap.IsTuple l us from z);exact Heap.lt_size e
 have O:∀{l:Addr},l<s1.heap.objs.size->pW (s1.heap.objs.size+4) (s1.heap.objs.size+3) s1.heap.objs.size (s1.heap.objs.size+1) l:=fun {l} z=>⟨Nat.ne_of_lt (Nat.lt_of_lt_of_le z (Nat.le_add_right _ _)),Nat.ne_of_lt (Nat.lt_of_lt_of_le z (Nat.le_add_right _ _)),Nat.ne_of_lt z,Nat.ne_of_lt (Nat.lt_of_lt_of_le z (Nat.le_add_right _ _))⟩;refine kJ (s:={ s1 with heap:=h' }) (knd:=aH X.prog X.w) (ks:=ks) (xs:=its1) (ys:=its2) (I1.ok.hd hc) D (O (lt sq1)) (O (lt sq2)) hz' hTI ⟨_,_,hTO⟩ h1 h2 (sq1.keep fun o e=>hk _ o e) (sq2.keep fun o e=>hk _ o e) (li rv1) (by lia) (by lia) (by lia) ?_
 intro s' o1 o2 o3 hd hkeep;have hd':s'.heap.DictOf (aH X.prog X.w) h'.objs.size ((ks.zip its2).foldl (fun a p=>stored a p.1 p.2) []):=hd;have hbig:=I1.big;have hnew:∀c o,s1.heap.get? c=some o->s'.heap.get? c=some o:=fun c o e=>by
  have z:=Heap.lt_size e;exact hkeep c o (Nat.ne_of_lt (Nat.lt_of_lt_of_le z (Nat.le_add_right _ _))) (Nat.ne_of_lt (Nat.lt_of_lt_of_le z (Nat.le_add_right _ _))) (Nat.ne_of_lt z) (Nat.ne_of_lt (Nat.lt_of_lt_of_le z (Nat.le_add_right _ _))) (hk c o e)
 have hn:H1 h'.objs.size=none:=I1.hok.fresh (by lia)
 obtain ⟨hh',g',d',t',os'⟩:=s';obtain rfl:os'=s1.os:=o1;obtain rfl:g'=s1.gens:=o2;obtain rfl:d'=s1.drawn:=o3;refine ⟨.ref h'.objs.size,_,I1.laid (a:=h'.objs.size) (o:=.dK ((ks.zip ys).foldl (fun a p=>ca a p.1 p.2) [])) (t':=t') hnew (by lia) ?_,rfl,q _ hn⟩
 refine jT ?_ ?_ (va rv2 .nil) hd'
 ·have:=oB (ks.zip ys) []
  rw [List.length_zip] at this;have h3:(1000:Nat)<=sizeLine:=by decide
  simp only [List.length_nil] at this;lia
 ·exact beq_eq_false_iff_ne.mpr (Nat.ne_of_gt (Nat.lt_of_lt_of_le hbig (by rw [hsz];exact Nat.le_add_right _ _)))
end
end L2
namespace Tw
open PySem L2
end Tw
namespace L2
open PySem PySem.Spec PyProof.Rows
section
variable {X:Cx}
theorem jM{M:Model}{A:Around}{E:Value->Shared->Prop}{s:Shared}{β:Type}{n:Nat}(f:Nat->β->Sem (ForInStep β))(I:Nat->β->Shared->Prop)(Q:β->Shared->Prop)
  (turn:∀i b s,i<n->I i b s->wpAny M A (f i b) (fun r s'=>match r with|.yield b'=>I (i+1) b' s'|.done b'=>Q b' s') E s)
  (fin:∀b s,I n b s->Q b s) (b:β) (h:I 0 b s):wpAny M A (forIn [0:n] b f) Q E s:=by
 rw [Std.Legacy.Range.forIn_eq_forIn_range'];have hsz:([0:n]:Std.Legacy.Range).size=n:=by simp [Std.Legacy.Range.size]
 show wpAny M A (forIn (List.range' 0 ([0:n]:Std.Legacy.Range).size 1) b f) Q E s;rw [hsz];refine wpAny_forIn_list f (fun l c s=>∃i,i<=n/\l=List.range' i (n-i) 1/\I i c s) Q ?_ ?_ _ b ⟨0,Nat.zero_le _,rfl,h⟩
 ·rintro x rest c s ⟨i,hi,hl,hI⟩
  have hlt:i<n:=by
   rcases Nat.lt_or_ge i n with h'|h'
   ·exact h'
   ·rw [show n-i=0 by lia] at hl;simp at hl
  obtain ⟨k,hk⟩:∃k,n-i=k+1:=⟨n-i-1,by lia⟩
  rw [hk,List.range'_succ] at hl;obtain ⟨rfl,rfl⟩:=List.cons.inj hl;refine wpAny_mono (turn x c s hlt hI) (fun r s' h'=>?_) fun _ _ e=>e;cases r with
  |done c'=>exact h'
  |yield c'=>exact ⟨x+1,by lia,by congr 1;lia,h'⟩
 ·rintro c s ⟨i,hi,hl,hI⟩
  have:i=n:=by
   rcases Nat.lt_or_ge i n with h'|h'
   ·obtain ⟨k,hk⟩:∃k,n-i=k+1:=⟨n-i-1,by lia⟩
    rw [hk,List.range'_succ] at hl;cases hl
   ·lia
  subst this;exact fin _ _ hI
theorem ox(l:Addr)(items:Array Value)(n:Nat)(dd:Option Addr)(sl:Array (Option Value))(x:Value)(e:Value->Bool)(he:∀y,y∈items->MeetsSeq.EqGives y x (e y))(j:Nat)(hj:j<items.size)(hit:e items[j]=true)
  (hno:∀m (hm:m<items.size),m<j->e items[m]=false):
  Meets (Builtin.«tuple.index» ⟨[.ref l,x],[]⟩) (fun _ R s=>s.heap.get? l=some { cls:=.type "tuple",dict:=dd,data:=.seq items n,slots:=sl }/\R (.ok (.ret (.int j s.toks))) { s with toks:=s.toks+1 }):=
 .of_wp fun prog w A R s h=>by
  obtain ⟨hp,g,d,tk,os⟩:=s;obtain ⟨hl,h⟩:=h
  wp_walk using AutoSeq1.wpAny_loadPart' hl
  refine jM (n:=min items.size items.size) _ (fun i (b:Option _×_) s'=>b.1=none/\i<=j/\s'=⟨hp,g,d,tk,os⟩) _ ?turn ?fin _ ?strt
  case turn=>
   rintro i b s' hi ⟨hb,hij,rfl⟩
   have hlt:i<items.size:=by lia
   have hi':items[i]?=some items[i]:=by simp [hlt]
   simp only [hi'];refine wpAny_bind (he _ (Array.getElem_mem hlt) prog w _ _ _ _ ?_)
   by_cases hx:i=j
   ·subst hx
    rw [hit]
    wp_walk
    exact ⟨_,rfl,h⟩
   ·rw [hno i hlt (by lia)]
    wp_walk
    exact ⟨rfl,by lia,rfl⟩
  case fin=>
   rintro ⟨b1,b2⟩ s' ⟨hb,hij,rfl⟩
   lia
  case strt=>
   exact ⟨rfl,Nat.zero_le _,rfl⟩
theorem Inv.tupD{pins:List (Addr×Obj)}{σ:St}{H:Hp}{s:Shared}{a:Addr}{xs:List V}(I:Inv X pins σ H s)(h:H a=some (.tup xs)):
  ∃(its:List Value) (n:Nat) (sl:Array (Option Value)),Vals xs its/\s.heap.get? a=some { cls:=.type "tuple",dict:=none,data:=.seq its.toArray n,slots:=sl }:=by
 obtain ⟨z,its,r,⟨cls,dd,data,slots⟩,e,⟨c,n,d⟩,dn⟩:=I.hok a _ h;simp only at c d dn;subst c d dn;exact ⟨its,n,slots,r,e⟩
theorem eJ:∀{names:List Str} {us:List Value},Vals (names.map V.str) us->∀(j:Nat) (h:j<us.length),∃(y:Str) (t:Tok),names[j]?=some y/\us[j]=.str y t
 |[],us,r,j,h=>by cases r;exact absurd h (Nat.not_lt_zero _)
 |x::names,us,r,j,h=>by
  rw [List.map_cons] at r;cases r with
  |cons r1 r2=>
   cases j with
   |zero=>obtain ⟨t,rfl⟩:=r1;exact ⟨x,t,rfl,rfl⟩
   |succ j=>obtain ⟨y,t,h1,h2⟩:=eJ r2 j (by simpa using h);exact ⟨y,t,by simpa using h1,by simpa using h2⟩
def Gj:V->List V->Hp->VK->Prop:=fun x vs H Q=>∃(a:Addr) (names:List Str) (z:Str) (j:Nat),x=.ref a/\vs=[.str z]/\H a=some (.tup (names.map V.str))/\names.length<=1000/\names[j]?=some z/\(∀m,m<j->names[m]?≠some z)/\Q (.int (j:Int)) H
theorem vV:tY X "tuple.index" Gj:=by
 intro pins s σ H x vs v us Q I rx rv h;obtain ⟨a,names,z,j,rfl,rfl,ha,hz,hj,hno,q⟩:=h;cases rx;obtain ⟨u,rfl,ru⟩:=rv.one;obtain ⟨t,rfl⟩:=ru;obtain ⟨its,n,sl,r,e⟩:=I.tupD ha;have hl:=r.length;rw [List.length_map] at hl;have hjl:j<names.length:=by
  rcases Nat.lt_or_ge j names.length with z'|z'
  ·exact z'
  ·rw [List.getElem?_eq_none z'] at hj;cases hj
 have hjs:j<its.toArray.size:=by rw [List.size_toArray];lia
 refine call_meets PySem.F.slot_tuple_index ⟨_,e,rfl⟩ PySem.F.entry_tuple_index (PySem.F.args_tuple_index_2 _ _)
  (ox a its.toArray n none sl (.str z t) (fun v=>match v with|.str y _=>y==z|_=>false) (fun y hy=>?_) j hjs ?_ fun m hm hmj=>?_) ⟨e,?_⟩
 ·obtain ⟨m,hm,rfl⟩:=List.getElem_of_mem (by simpa using hy:y∈its)
  obtain ⟨y',t',h1,h2⟩:=eJ r m hm;rw [h2];exact eqGives_str y' z t' t
 ·obtain ⟨y',t',h1,h2⟩:=eJ r j (by lia)
  rw [hj] at h1;cases h1;simp [h2]
 ·obtain ⟨y',t',h1,h2⟩:=eJ r m (by rw [List.size_toArray] at hm;exact hm)
  have h3:=hno m hmj;rw [h1] at h3;have ne:¬y'=z:=fun e=>h3 (by rw [e])
  simp [h2,ne]
 ·exact ⟨.int (j:Int),H,I.tok _,⟨_,rfl⟩,q⟩
def tTM(r:V->List V->Hp->VK->Prop)(to:TE)(t:TA):TE:=fun σ H Q=>to σ H fun x H1=>(∃a xs,x=.ref a/\H1 a=some (.tup xs))/\t σ H1 fun xs H2=>r x xs H2 Q
theorem Hh{o e:Expr}{es:List Expr}{to:TE}{t:TA}{name:Str}{apos cpos:Pos}{id:String}{r:V->List V->Hp->VK->Prop}(slot:Slot "tuple" name id)(hty:typeOf (.builtin id)=pure (.type "method_descriptor"))(hm:tY X id r)(ho:PE X o to)(ha:PA X (e::es) t)
  (hbase:attributeBase o name X.env (eval o X.env)=eval o X.env:=by rfl)
  (hfew:((backTo cpos (starEach (e::es) X.env)).all (fun x=>!x.1)&&(backToKw cpos (keywordEach [] X.env)).all (fun x=>x.1.isSome)
   && decide ((e::es).length+([]:List Keyword).length+(if ([]:List Keyword).isEmpty then 0 else 1)<30))=true:=by rfl)
  (hline:(apos.endLine==cpos.line)=true:=by rfl) (hs:starEach (e::es) X.env=(false,eval e X.env)::starEach es X.env:=by rfl) (hplain:(backTo cpos (starEach es X.env)).any (·.1)=false:=by rfl):
  PE X (.Call (.Attribute o name apos) (e::es) [] cpos) (tTM r to t):=by
 intro pins s σ H Q I h;refine wpAny_Call_method_late hbase hfew hline rfl (a_ (ho pins s σ H _ I h) fun v s1 ⟨x,H1,I1,r1,⟨a,xs,ex,ea⟩,q1⟩=>?_);subst ex;cases r1;obtain ⟨its,n,sl,rv,eo⟩:=I1.tupD ea;refine ⟨"tuple",id,PySem.F.plainAttrs_tuple,slot,hty,⟨_,eo,rfl⟩,fun b eb=>by cases eb;exact ⟨_,eo,rfl⟩,?_⟩
 have hA:=ha cpos pins s1 σ H1 _ I1 q1;rw [hs] at hA ⊢;refine Calls.callWith_builtin (by show (false||(backTo cpos (starEach es X.env)).any (·.1))=false;rw [hplain]<;>rfl) (Calls.evalArgs_plain ?_)
 exact a_ hA fun us s2 ⟨vs,H2,I2,r2,q2⟩=>hm pins s2 σ H2 (.ref a) vs _ us Q I2 rfl r2 q2
end
end L2
namespace L2
open PySem PySem.Spec PyProof.Rows
theorem dD{h base:Heap}{S:List Addr}:∀{l:List Env},h.FunFrames base l->(∀b∈eU l,b∈S)->h.FunFrames (W.hideAll h S) l
 |[],_,_=>trivial
 |env::r,hl,hs=>by
  obtain ⟨hk,⟨L,o,hf,hn,ho,hd⟩,hr⟩:=hl;have hL:L∈S:=hs L (by unfold eU;rw [List.filterMap_cons,hf];exact List.mem_cons_self)
  exact ⟨hk,⟨L,o,hf,W.hideAll_none S hL,ho,hd⟩,dD hr fun b hb=>hs b (by unfold eU;rw [List.filterMap_cons,hf];exact List.mem_cons_of_mem _ hb)⟩
def pR(P:Program)(w:World)(C:Addr):kF:=fun outer H s E e s'=>∃(ea:Addr) (H':Hp) (B:Heap) (a0:Value),e=.ref ea/\s'.os=s.os/\AllBare s'.gens/\Un (eU outer) [] H H' s.heap s'.heap/\HOk P w H' s'.heap/\
 Heap.FlyingW B outer ea (.ref C) a0 s'.heap/\(∀b u,H' b=some u->∃o,B.get? b=some o)/\(∀b o,s.heap.get? b=some o->b∉eU outer->∃o',B.get? b=some o')/\E (.ref C) none H'
theorem mT{P:Program}{w:World}{H:Hp}{h h' B:Heap}(hok:HOk P w H h)(k:B.StaysIn h)(k':B.StaysIn h')(sT:∀b u,H b=some u->∃o,B.get? b=some o):HOk P w H h':=fun a o e=>
 (hok a o e).stay (fun b u hb q=>by
  obtain ⟨v,hv⟩:∃v,B.get? b=some v:=by
   rcases hb with rfl|z
   ·exact sT _ _ e
   ·exact sT _ _ z
  have:=k b v hv;rw [q] at this;cases this;exact k' b _ hv) (fun _ q=>q) fun _ _ q=>q
theorem qS{fs:List Addr}{H H':Hp}{h h1 h2 B:Heap}(un:Un fs [] H H' h h1)(k1:B.StaysIn h1)(k2:B.StaysIn h2)(up:h1.UpToSlots h2)(sA:∀b o,h.get? b=some o->b∉fs->∃o',B.get? b=some o')
  (nf:∀b∈fs,∀o,h.get? b=some o->∀vs,o.data≠.fields vs) (fr:∀b∈fs,H b=none):Un fs [] H H' h h2 where
 keep:=fun b o q n hb hx=>by
  have q1:=un.keep b o q n hb hx;obtain ⟨o',ho'⟩:=sA b o q hb;have:=k1 b o' ho';rw [q1] at this;cases this;exact k2 b _ ho'
 slot:=fun b o q n hb hx=>by
  obtain ⟨sl,q1⟩:=un.slot b o q n hb hx;obtain ⟨sl2,q2⟩:=up b _ q1 (nf b hb o q);exact ⟨sl2,q2⟩
 free:=un.free
 there:=fun b o q hx=>by
  by_cases hb:b∈fs
  ·obtain ⟨sl,q1⟩:=un.slot b o q (fr b hb) hb hx
   obtain ⟨sl2,q2⟩:=up b _ q1 (nf b hb o q);exact ⟨_,q2⟩
  ·obtain ⟨o',ho'⟩:=sA b o q hb
   exact ⟨o',k2 b o' ho'⟩
 tups:=un.tups
 frzs:=un.frzs
 tbls:=un.tbls
section
variable {P:Program}{w:World}{K:W.Frag}{mg:Str->Option Value}{base:Heap}{N:List Str}{qual:Str}{scope:Scope}{f C:Addr}{cd:Value}{A:Around}{outer:List Env}{s0:Shared}{H0:Hp}{E:XK}
theorem pB{env:Env}{L:Addr}{l:List Env}(h:env.frame=some L):eU (env::l)=L::eU l:=by unfold eU;rw [List.filterMap_cons,h]
theorem FW:br (pR P w C) (cF (pR P w C) P w K mg base N qual scope f cd A outer s0 H0 E) E:=by
 intro pins σ H s e s' I hx;obtain ⟨ea,H',B,a0,rfl,hos,hb,un,hok,hfl,sT,sA,hE⟩:=hx;have hsk:(cF (pR P w C) P w K mg base N qual scope f cd A outer s0 H0 E).stack=envOfC qual scope s0.heap.objs.size f cd::outer:=rfl;have hfr:(envOfC qual scope s0.heap.objs.size f cd).frame=some s0.heap.objs.size:=rfl;have hfs:eU (envOfC qual scope s0.heap.objs.size f cd::outer)=s0.heap.objs.size::eU outer:=pB hfr;rw [hsk] at un hfl sA;show wpAny (model P w) (A.deeper (envOfC qual scope s0.heap.objs.size f cd)) (leaving (envOfC qual scope s0.heap.objs.size f cd) (.ref ea)) (fun _ s''=>pR P w C outer H0 s0 E (.ref ea) s'') (fun e' s''=>pR P w C outer H0 s0 E e' s'') s';refine wpAny_leaves_onW I.ok.frames hfr hfl fun h' hfl' hup=>?_;have u1:Un (eU outer) [] H0 H s0.heap s.heap:=I.base;have nofr:∀{b:Addr} {o:Obj},s0.heap.get? b=some o->b∉eU outer->b∉eU (envOfC qual scope s0.heap.objs.size f cd::outer):=fun {b o} q hb z=>by
  rw [hfs] at z;rcases List.mem_cons.mp z with e|z
  ·exact Nat.lt_irrefl _ (e▸Heap.lt_size q)
  ·exact hb z
 have un2:Un (eU (envOfC qual scope s0.heap.objs.size f cd::outer)) [] H H' s.heap h':=by
  refine qS un hfl.1 hfl'.1 hup sA (fun b hb o q vs=>?_) fun b hb=>?_
  ·obtain ⟨_,o',ho',hd⟩:=I.stack.mem (show b∈_ from hb)
   rw [q] at ho';cases ho';exact hd vs
  ·exact I.stkFree b hb
 refine ⟨ea,H',B,a0,rfl,hos.trans I.os,hb,?_,mT hok hfl.1 hfl'.1 sT,hfl',sT,fun b o q hb=>?_,hE⟩
 ·refine ⟨fun b o q n hb hx=>?_,fun b o q n hb hx=>?_,fun b o q n hx=>?_,fun b o q hx=>?_,fun b xs q=>un2.tups b xs (u1.tups b xs q),fun b o u q=>un2.frzs b o u (u1.frzs b o u q),fun b ps q=>?_⟩
  ·exact un2.keep b o (u1.keep b o q n hb hx) (u1.free b o q n hx) (nofr q hb) hx
  ·obtain ⟨sl,q1⟩:=u1.slot b o q n hb hx
   obtain ⟨sl2,q2⟩:=un2.slot b _ q1 (u1.free b o q n hx) (by rw [hfs];exact List.mem_cons_of_mem _ hb) hx
   exact ⟨sl2,q2⟩
  ·obtain ⟨o1,q1⟩:=u1.there b o q hx
   exact un2.free b o1 q1 (u1.free b o q n hx) hx
  ·obtain ⟨o1,q1⟩:=u1.there b o q hx
   exact un2.there b o1 q1 hx
  ·obtain ⟨m1,e1⟩:=u1.tbls b ps q
   obtain ⟨m2,e2⟩:=un2.tbls b _ e1;exact ⟨m1++m2,by rw [e2,Array.append_assoc]⟩
 ·obtain ⟨o1,q1⟩:=u1.there b o q (by simp)
  exact sA b o1 q1 (nofr q hb)
structure ExcAt(K:W.Frag)(C:Addr):Prop where
 at_:∃(nm q:Str) (Nn:Addr) (bs bm bmB:List Value) (hdct:Bool) (sn:List Str) (sub:List Value) (ab:Bool) (col:Option Bool) (dd:Option Addr) (k0 k1 k2 k3 k5:Option Value) (newId initId Bs:String) (mN:Str->Option Value),
  (∀h:Heap,K.In h->h.get? C=some (excClassObj nm q C Nn bs bm hdct sn sub ab col dd k0 k1 k2 k3 k5 newId)/\h.Ns Nn mN/\OwnTail h bmB bm)/\mN "__init__"=none/\ExcBaseFacts Bs newId initId bmB/\bmB.contains (.type Bs)=true/\bm.contains (.type "BaseException")=true
theorem ObjOk.obj{P:Program}{w:World}{H:Hp}{h:Heap}{a:Addr}{o:HO}(x:ObjOk P w H h a o):∃v,h.get? a=some v:=by
 cases o with
 |lst xs=>obtain ⟨_,_,_,_,e⟩:=x;exact ⟨_,e⟩
 |tup xs=>obtain ⟨_,_,_,_,e,_⟩:=x;exact ⟨_,e⟩
 |dK kvs=>obtain ⟨_,_,_,_,o,_,_,e,_⟩:=x;exact ⟨_,e⟩
 |dT kvs=>obtain ⟨_,_,_,_,o,_,_,e,_⟩:=x;exact ⟨_,e⟩
 |set S n=>obtain ⟨o,_,_,_,e,_⟩:=x;exact ⟨_,e⟩
 |ins C dx fs=>obtain ⟨_,_,_,e,_⟩:=x;exact ⟨_,e⟩
 |own y=>obtain ⟨_,e⟩:=x;exact ⟨_,e⟩
 |xd fs=>obtain ⟨_,⟨_,_,_,e,_⟩,_⟩:=x;exact ⟨_,e⟩
 |rng lo hi=>obtain ⟨_,_,_,e⟩:=x;exact ⟨_,e⟩
 |frz ob u=>obtain ⟨e,_⟩:=x;exact ⟨_,e⟩
 |tbl ps=>exact ⟨_,(show h.get? a=some _ from x)⟩
 |met f y=>exact ⟨_,(show h.get? a=some _ from x)⟩
 |ext φ=>obtain ⟨_,⟨_,e⟩,_⟩:=x;exact ⟨_,e⟩
theorem AW{fs:List Addr}{L:Addr}{H0 H H':Hp}{h0 h h':Heap}(u1:Un fs [] H0 H h0 h)(un2:Un (L::fs) [] H H' h h')(hL:h0.objs.size<=L):Un fs [] H0 H' h0 h':=by
 have nofr:∀{b:Addr} {o:Obj},h0.get? b=some o->b∉fs->b∉L::fs:=fun {b o} q hb z=>by
  rcases List.mem_cons.mp z with e|z
  ·exact Nat.lt_irrefl _ (Nat.lt_of_lt_of_le (e▸Heap.lt_size q) hL)
  ·exact hb z
 refine ⟨fun b o q n hb hx=>un2.keep b o (u1.keep b o q n hb hx) (u1.free b o q n hx) (nofr q hb) hx,fun b o q n hb hx=>?_,fun b o q n hx=>?_,fun b o q hx=>?_,fun b xs q=>un2.tups b xs (u1.tups b xs q),fun b o u q=>un2.frzs b o u (u1.frzs b o u q),fun b ps q=>?_⟩
 ·obtain ⟨sl,q1⟩:=u1.slot b o q n hb hx
  obtain ⟨sl2,q2⟩:=un2.slot b _ q1 (u1.free b o q n hx) (List.mem_cons_of_mem _ hb) hx;exact ⟨sl2,q2⟩
 ·obtain ⟨o1,q1⟩:=u1.there b o q hx
  exact un2.free b o1 q1 (u1.free b o q n hx) hx
 ·obtain ⟨o1,q1⟩:=u1.there b o q hx
  exact un2.there b o1 q1 hx
 ·obtain ⟨m1,e1⟩:=u1.tbls b ps q
  obtain ⟨m2,e2⟩:=un2.tbls b _ e1;exact ⟨m1++m2,by rw [e2,Array.append_assoc]⟩
def qb(E:XK)(C:Addr):TS:=fun _ _ H=>E (.ref C) none H
theorem xb{x msg:Str}{np cpos pos apos:Pos}{jj}(X:ExcAt K C)(hm:mg x=some (.ref C))(hg:Gl (cF (pR P w C) P w K mg base N qual scope f cd A outer s0 H0 E) x)
  (hd:(x==("__debug__":Str))=false:=by decide)
  (hs:starEach [.Constant (.str msg) jj apos] (cF (pR P w C) P w K mg base N qual scope f cd A outer s0 H0 E).env=[(false,eval (.Constant (.str msg) jj apos) (cF (pR P w C) P w K mg base N qual scope f cd A outer s0 H0 E).env)]:=by rfl):
  PS (cF (pR P w C) P w K mg base N qual scope f cd A outer s0 H0 E) (.Raise (some (.Call (.Name x np) [.Constant (.str msg) jj apos] [] cpos)) none pos) (qb E C):=by
 intro pins s σ H D I h;obtain ⟨nm,q,Nn,bs,bm,bmB,hdct,sn,sub,ab,col,dd,k0,k1,k2,k3,k5,newId,initId,Bs,mN,hX,hni,FB,hBs,hbase⟩:=X.at_
 refine wpAny_Raise_call_subU (C:=C) (nm:=nm) (q:=q) (N:=Nn) (bs:=bs) (bm:=bm) (hdct:=hdct) (sn:=sn) (sub:=sub) (ab:=ab) (col:=col) (dd:=dd) (k0:=k0) (k1:=k1) (k2:=k2) (k3:=k3) (k5:=k5) FB hBs FB (mN:=mN) hbase (I.ok.hd rfl) (by rw [hs];rfl) hni
  (fJ I hg hm ⟨rfl,?_⟩ hd)
 have hA:=(uW wX yF hs) cpos pins s σ H (fun xs H1=>xs.length=1/\E (.ref C) none H1) I ⟨rfl,h⟩;rw [hs] at hA ⊢;refine Calls.evalArgs_plain (wpAny_mono hA (fun vs s₂ h₂=>?_) fun _ _ y=>y);obtain ⟨vv,H1,I1,r,hlen,hE⟩:=h₂;obtain ⟨hC,hN,T⟩:=hX s₂.heap I1.kIn;refine ⟨rfl,?_,hC,hN,T,fun h' e hx=>?_⟩
 ·show vs.length<=sizeLine
  rw [<- r.length,hlen]
  decide
 have hfr:(envOfC qual scope s0.heap.objs.size f cd).frame=some s0.heap.objs.size:=rfl;have hfs:eU (envOfC qual scope s0.heap.objs.size f cd::outer)=s0.heap.objs.size::eU outer:=pB hfr;have kB:(W.hideAll s₂.heap (eU (envOfC qual scope s0.heap.objs.size f cd::outer))).StaysIn s₂.heap:=fun b o e=>W.of_hideAll _ e;show wpAny (model P w) (A.deeper (envOfC qual scope s0.heap.objs.size f cd)) (leaving (envOfC qual scope s0.heap.objs.size f cd) (.ref e)) (fun _ s''=>pR P w C outer H0 s0 E (.ref e) s'') (fun e' s''=>pR P w C outer H0 s0 E e' s'') _;refine wpAny_leaves_madeW I1.ok.frames hfr kB (dD I1.stack fun b hb=>hb) hx fun h'' t hfl _ _ hup=>?_;have up2:s₂.heap.UpToSlots h'':=(Heap.UpToSlots.of_keeps hx.keeps).trans hup;have inB:∀{b:Addr} {o:Obj},s₂.heap.get? b=some o->b∉eU (envOfC qual scope s0.heap.objs.size f cd::outer)->(W.hideAll s₂.heap (eU (envOfC qual scope s0.heap.objs.size f cd::outer))).get? b=some o:=fun e n=>W.hideAll_get _ e n;have sT:∀b u,H1 b=some u->∃o,(W.hideAll s₂.heap (eU (envOfC qual scope s0.heap.objs.size f cd::outer))).get? b=some o:=fun b u e=>by
  obtain ⟨v,hv⟩:=ObjOk.obj (I1.hok b u e);exact ⟨v,inB hv fun z=>by rw [I1.stkFree b z] at e;cases e⟩
 have un2:Un (eU (envOfC qual scope s0.heap.objs.size f cd::outer)) [] H1 H1 s₂.heap h'':=by
  refine qS Un.refl kB hfl.1 up2 (fun b o q hb=>⟨o,inB q hb⟩) (fun b hb o q vs=>?_) fun b hb=>I1.stkFree b hb;obtain ⟨_,o',ho',hd'⟩:=I1.stack.mem (show b∈_ from hb);rw [q] at ho';cases ho';exact hd' vs
 rw [hfs] at un2;refine ⟨e,H1,_,.ref t,rfl,I1.os,I1.bare,AW I1.base un2 (Nat.le_refl _),mT I1.hok kB hfl.1 sT,hfl,sT,fun b o q hb=>?_,hE⟩;obtain ⟨o1,q1⟩:=I1.base.there b o q (fun z=>absurd (show b∈([]:List Addr) from z) (by simp))
 refine ⟨o1,inB q1 fun z=>?_⟩;rw [hfs] at z;rcases List.mem_cons.mp z with e'|z
 ·exact Nat.lt_irrefl _ (e'▸Heap.lt_size q)
 ·exact hb z
end
abbrev Cx.marked(X:Cx)(e:Value):Cx:={ X with A:=X.A.mark (some e),calm:=false,xe:=fun _ _=>False }
section
variable {X:Cx}{pins:List (Addr×Obj)}{σ:St}{H:Hp}{s:Shared}{e:Value}
theorem Cx.Ok.mark(ok:X.Ok)(e:Value):(X.marked e).Ok:=
 ⟨ok.mod,ok.kind,ok.glob,ok.blt,ok.above,ok.inj,ok.has,ok.cab,fun z=>(Bool.noConfusion z),ok.frames,ok.stk,ok.exf,ok.bs,ok.bsz,ok.noex,ok.exfs,ok.funs,ok.frf⟩
theorem Inv.mark(I:Inv X pins σ H s)(e:Value):Inv (X.marked e) pins σ H s:=⟨I.ok.mark e,I.os,I.bare,I.base,I.loc,I.cell,I.free,I.freeC,I.pin,I.hok,I.len⟩
theorem Inv.unmark(ok:X.Ok)(I:Inv (X.marked e) pins σ H s):Inv X pins σ H s:=⟨ok,I.os,I.bare,I.base,I.loc,I.cell,I.free,I.freeC,I.pin,I.hok,I.len⟩
theorem SP.unmark{D:Ends}{f:Flow}{s':Shared}(ok:X.Ok)(h:SP (X.marked e) pins D f s'):SP X pins D f s':=by
 cases f with
 |next=>obtain ⟨σ',H',I,q⟩:=h;exact ⟨σ',H',I.unmark ok,q⟩
 |brk=>obtain ⟨σ',H',I,q⟩:=h;exact ⟨σ',H',I.unmark ok,q⟩
 |cont=>obtain ⟨σ',H',I,q⟩:=h;exact ⟨σ',H',I.unmark ok,q⟩
 |ret u=>obtain ⟨v,σ',H',I,r,q⟩:=h;exact ⟨v,σ',H',I.unmark ok,r,q⟩
def yQ(C:Addr)(sp:Sp)(dvs:List V)(ta:TA)(ts:TS):TS:=fun D σ H=>ta σ H fun vs H1=>sp (vs++dvs) H1 (fun _ H2=>D.nx σ H2) (fun _ _ H2=>ts D σ H2)
theorem rm{C f:Addr}{k:Nat}{fd:FuncData}{ps:List Str}{sp:Sp}{dvs:List V}{ds:List Value}{x cx:Str}{p cp ep np hpos pos:Pos}{e:Expr}{es:List Expr}{ta:TA}{b₀:Stmt}{suite:List Stmt}{ts:TS}
  (hst:X.stack=X.env::X.outer) (hfL:X.env.frame=some X.env.locals) (F:FnOk X.prog X.w X.K X.mg X.base (pR X.prog X.w C) k f fd ps sp) (hr:Room k X.A) (hg:Gl X x) (hm:X.mg x=some (.ref f)) (hk:W.keepIn X.K (.ref f)=true) (hb:Binds X.K fd ps ds) (hd:Vals dvs ds)
  (ha:PA X.nox (e::es) ta) (EX:ExcAt X.K C) (hgC:Gl X cx) (hmC:X.mg cx=some (.ref C)) (hsu:∀ea:Addr,sg (X.marked (.ref ea)) (b₀::suite) ts)
  (hdb:(x==("__debug__":Str))=false:=by decide) (hdC:(cx==("__debug__":Str))=false:=by decide) (he:starEach (e::es) X.env=(false,eval e X.env)::starEach es X.env:=by rfl) (hpl:(backTo cp (starEach es X.env)).any (·.1)=false:=by rfl)
  (hsw:swapsWith (.Call (.Name x p) (e::es) [] cp) none ep.line X.env=pure false:=by rfl):
  PS X (.Try [.Expr (.Call (.Name x p) (e::es) [] cp) ep] [.ExceptHandler (some (.Name cx np)) none (b₀::suite) hpos] [] [] pos) (yQ C sp dvs ta ts):=by
 intro pins s σ H D I h;refine wpAny_Try_except (wpAny_execs_cons (wpAny_Expr_any ?_ I.quiet hsw));refine wpAny_Call_Name_kw (fJ I hg hm ?_ hdb);refine W.callWith_K (h₀:=X.base) I.ok.mod.kin hk (wpAny_mono (ha cp pins s σ H _ (I.wish _) h) (fun us s1 ⟨vs,H1,I1',r,q⟩=>?_) fun _ _ z=>False.elim z) he hpl;have I1:Inv X pins σ H1 s1:=I1'.unwish;refine ⟨I1.kIn,?_⟩;have r2:Vals (vs++dvs) (us++ds):=r.append hd;have hl:(us++ds).length=ps.length:=by rw [<- r2.length];exact F.len _ _ _ _ q
 refine wpAny_call (codeAny_mono (F.run X.A X.stack s1 H1 ⟨us,[]⟩ (us++ds) (vs++dvs) _ _ hr I1.env0 (hb s1 us I1.kIn hl) r2 q) fun rr s' hq=>?_);cases rr with
 |ok fl=>
  cases fl with
  |ret u=>
   obtain ⟨x',H2,I2,_,q2⟩:=I1.after hq;exact wpAny_execs_nil (wpAny_execs_nil ⟨σ,H2,I2,q2⟩)
  |next=>exact False.elim hq
  |brk=>exact False.elim hq
  |cont=>exact False.elim hq
 |error er=>
  obtain ⟨ea,H',B,a0,rfl,hos,hbare,un,hok,hfl,sT,sA,hE⟩:=hq;obtain ⟨nm,qn,Nn,bs,bm,bmB,hdct,sn,sub,ab,col,dd,k0,k1,k2,k3,k5,newId,initId,Bs,mN,hX,hni,FB,hBs,hbase⟩:=EX.at_;have nf:∀b∈eU X.stack,∀o,s1.heap.get? b=some o->∀vs,o.data≠.fields vs:=fun b hb' o q' vs=>by
   obtain ⟨_,o',ho',hd'⟩:=I1.stack.mem (show b∈_ from hb');rw [q'] at ho';cases ho';exact hd' vs
  have shift:∀h':Heap,B.StaysIn h'->s'.heap.UpToSlots h'->Inv X pins σ H' { s' with heap:=h' }:=fun h' k up=>
   I1.call' (s':={ s' with heap:=h' }) hos (qS un hfl.1 k up sA nf fun b hb'=>I1.stkFree b hb') (mT hok hfl.1 k sT) hbare fun b z=>absurd (show b∈([]:List Addr) from z) (by simp)
  rw [hst] at hfl;have hfr:X.A.frames=some (X.env::X.outer):=by rw [<- hst];exact I1.ok.frames
  refine wpAny_looks_onW hfr hfL hfl fun h4 held4 up4=>?_;refine wpAny_landsW held4 fun h5 hfl5 up5=>?_;have I5:=(shift h5 hfl5.1 (up4.trans up5)).mark (.ref ea);obtain ⟨hC,_,_⟩:=hX h5 I5.kIn;obtain ⟨ob,hob,hobc⟩:=hfl5.there;refine wpAny_handleBy_cons (codeAny_handlers_test (fJ I5 hgC hmC ?_ hdC)) (by intro q';cases q')
  refine wpAny_excMatches_sub_self hC hob hobc hbase (codeAny_handlers_suite ?_);refine lands_againW hfl5 fun h6 hfl6 up6=>?_;have I6:=(shift h6 hfl6.1 ((up4.trans up5).trans up6)).mark (.ref ea);exact wpAny_mono (hsu ea pins _ σ H' D I6 hE) (fun fl s7 q7=>q7.unmark I.ok) fun _ _ z=>False.elim z
end
end L2
namespace L3
open PySem L2
inductive D where
 |non|bl (b:Bool)|int (i:Int)|str (x:Str)|ty (n:String)|ref (a:Addr)|tup (xs:List D)|lst (xs:List D)|mt (xs:List D)|ml (xs:List D)
def TpD(_:W.Frag)(H:Hp)(p:Addr)(vs:List V):Prop:=H p=some (.tup vs)
def TpM(K:W.Frag)(p:Addr)(vs:List V):Prop:=∃(o:Obj) (its:Array Value) (n:Nat),K.lookup p=some o/\o.cls=.type "tuple"/\o.data=.seq its n/\its.size<=sizeLine/\Vals vs its.toList
def FzD(K:W.Frag)(H:Hp)(p:Addr)(vs:List V):Prop:=
 ∃o,H p=some (.frz o (.lst vs))
def FzK(K:W.Frag)(H:Hp)(p:Addr)(vs:List V):Prop:=(∃o,H p=some (.frz o (.lst vs)))\/∃(o:Obj) (its:Array Value) (n:Nat),K.lookup p=some o/\o.cls=.type "list"/\o.dict=none/\o.data=.seq its n/\its.size<=sizeLine/\Vals vs its.toList
theorem FzK.sq{K:W.Frag}{H:Hp}{p:Addr}{vs:List V}(h:FzK K H p vs):SqL K H p vs:=h.imp (fun ⟨o,e⟩=>.inr ⟨o,e⟩) fun x=>x
theorem TpD.sq{K:W.Frag}{H:Hp}{p:Addr}{vs:List V}(h:TpD K H p vs):fE K H p vs:=.inl (.inl h)
theorem TpM.sq{K:W.Frag}{H:Hp}{p:Addr}{vs:List V}(h:TpM K p vs):fE K H p vs:=.inr h
theorem FzD.sq{K:W.Frag}{H:Hp}{p:Addr}{vs:List V}(h:FzD K H p vs):SqL K H p vs:=by
 obtain ⟨o,h⟩:=h;exact .inl (.inr ⟨o,h⟩)
mutual
def Rp(K:W.Frag)(H:Hp):D->V->Prop
 |.non,v=>v=.non
 |.bl b,v=>v=.bl b
 |.int i,v=>v=.int i
 |.str x,v=>v=.str x
 |.ty n,v=>v=.ty n
 |.ref a,v=>v=.ref a
 |.tup xs,v=>∃p vs,v=.ref p/\TpD K H p vs/\Rps K H xs vs
 |.lst xs,v=>∃p vs,v=.ref p/\FzD K H p vs/\Rps K H xs vs
 |.mt xs,v=>∃p vs,v=.ref p/\TpM K p vs/\Rps K H xs vs
 |.ml xs,v=>∃p vs,v=.ref p/\FzK K H p vs/\Rps K H xs vs
def Rps(K:W.Frag)(H:Hp):List D->List V->Prop
 |[],vs=>vs=[]
 |x::xs,vs=>∃v r,vs=v::r/\Rp K H x v/\Rps K H xs r
end
structure Imm(H H':Hp):Prop where
 tup:∀p vs,H p=some (.tup vs)->H' p=some (.tup vs)
 frz:∀p o u,H p=some (.frz o u)->H' p=some (.frz o u)
theorem Imm.refl{H:Hp}:Imm H H:=⟨fun _ _ e=>e,fun _ _ _ e=>e⟩
theorem TpD.mono{K:W.Frag}{H H':Hp}{p:Addr}{vs:List V}(i:Imm H H')(h:TpD K H p vs):TpD K H' p vs:=i.tup _ _ h
theorem FzK.mono{K:W.Frag}{H H':Hp}{p:Addr}{vs:List V}(i:Imm H H')(h:FzK K H p vs):FzK K H' p vs:=h.imp (fun ⟨o,e⟩=>⟨o,i.frz _ _ _ e⟩) fun x=>x
theorem FzD.mono{K:W.Frag}{H H':Hp}{p:Addr}{vs:List V}(i:Imm H H')(h:FzD K H p vs):FzD K H' p vs:=let ⟨o,e⟩:=h;⟨o,i.frz _ _ _ e⟩
mutual
theorem Rp.mono{K:W.Frag}{H H':Hp}(i:Imm H H'):∀{d:D} {v:V},Rp K H d v->Rp K H' d v
 |.non,_,h=>h
 |.bl _,_,h=>h
 |.int _,_,h=>h
 |.str _,_,h=>h
 |.ty _,_,h=>h
 |.ref _,_,h=>h
 |.tup _,_,h=>by
  obtain ⟨p,vs,e,t,r⟩:=h;exact ⟨p,vs,e,t.mono i,Rps.mono i r⟩
 |.lst _,_,h=>by
  obtain ⟨p,vs,e,t,r⟩:=h;exact ⟨p,vs,e,t.mono i,Rps.mono i r⟩
 |.mt _,_,h=>by
  obtain ⟨p,vs,e,t,r⟩:=h;exact ⟨p,vs,e,t,Rps.mono i r⟩
 |.ml _,_,h=>by
  obtain ⟨p,vs,e,t,r⟩:=h;exact ⟨p,vs,e,t.mono i,Rps.mono i r⟩
theorem Rps.mono{K:W.Frag}{H H':Hp}(i:Imm H H'):∀{ds:List D} {vs:List V},Rps K H ds vs->Rps K H' ds vs
 |[],_,h=>h
 |_::_,_,h=>by
  obtain ⟨v,r,e,a,b⟩:=h;exact ⟨v,r,e,Rp.mono i a,Rps.mono i b⟩
end
section
variable {K:W.Frag}{H H':Hp}
theorem Rps.nil:Rps K H [] []:=rfl
theorem Rps.cons{d:D}{v:V}{ds:List D}{vs:List V}(a:Rp K H d v)(b:Rps K H ds vs):Rps K H (d::ds) (v::vs):=⟨v,vs,rfl,a,b⟩
theorem Rps.length:∀{ds:List D} {vs:List V},Rps K H ds vs->ds.length=vs.length
 |[],_,h=>by cases h;rfl
 |_::_,_,h=>by obtain ⟨v,r,rfl,_,b⟩:=h;simp [b.length]
theorem Rps.get:∀{ds:List D} {vs:List V},Rps K H ds vs->∀{i:Nat} {d:D},ds[i]?=some d->∃v,vs[i]?=some v/\Rp K H d v
 |[],_,_,i,d,e=>by simp at e
 |x::xs,_,h,i,d,e=>by
  obtain ⟨v,r,rfl,a,b⟩:=h;cases i with
  |zero=>simp at e;subst e;exact ⟨v,by simp,a⟩
  |succ i=>simpa using b.get (by simpa using e)
theorem Rps.append:∀{ds es:List D} {vs ws:List V},Rps K H ds vs->Rps K H es ws->Rps K H (ds++es) (vs++ws)
 |[],_,_,_,h,g=>by cases h;exact g
 |_::_,_,_,_,h,g=>by
  obtain ⟨v,r,rfl,a,b⟩:=h;exact ⟨v,_,rfl,a,b.append g⟩
theorem Rps.take:∀{ds:List D} {vs:List V} (n:Nat),Rps K H ds vs->Rps K H (ds.take n) (vs.take n)
 |[],_,n,h=>by cases h;simp [Rps]
 |_::_,_,0,h=>rfl
 |_::_,_,n+1,h=>by
  obtain ⟨v,r,rfl,a,b⟩:=h;exact ⟨v,_,rfl,a,b.take n⟩
theorem Rps.drop:∀{ds:List D} {vs:List V} (n:Nat),Rps K H ds vs->Rps K H (ds.drop n) (vs.drop n)
 |[],_,n,h=>by cases h;simp [Rps]
 |_::_,_,0,h=>h
 |_::_,_,n+1,h=>by
  obtain ⟨v,r,rfl,a,b⟩:=h;exact b.drop n
theorem Rps.set{d:D}{v:V}(a:Rp K H d v):∀{ds:List D} {vs:List V} (i:Nat),Rps K H ds vs->Rps K H (ds.set i d) (vs.set i v)
 |[],_,_,h=>by cases h;rfl
 |_::_,_,0,h=>by obtain ⟨w,r,rfl,_,b⟩:=h;exact ⟨v,r,rfl,a,b⟩
 |_::_,_,i+1,h=>by obtain ⟨w,r,rfl,c,b⟩:=h;exact ⟨w,_,rfl,c,b.set a i⟩
theorem Rps.dropLast{ds:List D}{vs:List V}(h:Rps K H ds vs):Rps K H ds.dropLast vs.dropLast:=by
 rw [List.dropLast_eq_take,List.dropLast_eq_take,h.length];exact h.take _
theorem Rps.eraseIdx:∀{ds:List D} {vs:List V} (i:Nat),Rps K H ds vs->Rps K H (ds.eraseIdx i) (vs.eraseIdx i)
 |[],_,_,h=>by cases h;rfl
 |_::_,_,0,h=>by obtain ⟨w,r,rfl,_,b⟩:=h;exact b
 |_::_,_,i+1,h=>by obtain ⟨w,r,rfl,c,b⟩:=h;exact ⟨w,_,rfl,c,b.eraseIdx i⟩
theorem pP:∀{is:List Int} {vs:List V},vs=is.map V.int->Rps K H (is.map D.int) vs
 |[],_,e=>e
 |i::is,_,e=>by subst e;exact ⟨_,_,rfl,rfl,pP rfl⟩
end
inductive MO where
 |lst (xs:List D)
 |dK (kvs:List (aw×D))
 |dT (kvs:List (List aw×D))
 |ins (C:Addr) (fs:List (Str×D))
abbrev Mem:=Addr->Option MO
def Mem.upd(M:Mem)(a:Addr)(o:MO):Mem:=fun b=>if b=a then some o else M b
def Mem.del(M:Mem)(a:Addr):Mem:=fun b=>if b=a then none else M b
def Rkv{κ:Type}(K:W.Frag)(H:Hp):List (κ×D)->List (κ×V)->Prop:=Paired fun p q=>p.1=q.1/\Rp K H p.2 q.2
def RepO(K:W.Frag)(H:Hp)(a:Addr):MO->Prop
 |.lst xs=>∃vs,H a=some (.lst vs)/\Rps K H xs vs
 |.dK kvs=>∃ws,H a=some (.dK ws)/\Rkv K H kvs ws
 |.dT kvs=>∃ws,H a=some (.dT ws)/\Rkv K H kvs ws
 |.ins C fs=>∃dx ws,H a=some (.ins C dx ws)/\Rkv K H fs ws
def RepH(K:W.Frag)(H:Hp)(M:Mem):Prop:=∀a o,M a=some o->RepO K H a o
section
variable {K:W.Frag}{H H':Hp}{M:Mem}{a b:Addr}{o:MO}{u:HO}
@[simp] theorem Mem.upd_same:(M.upd a o) a=some o:=by simp [Mem.upd]
theorem ae(h:b≠a):(M.upd a o) b=M b:=by simp [Mem.upd,h]
@[simp] theorem Mem.upd_upd {o':MO}:(M.upd a o).upd a o'=M.upd a o':=by funext c;simp [Mem.upd];split<;>rfl
@[simp] theorem Mem.upd_del:(M.upd a o).del a=M.del a:=by funext c;simp [Mem.upd,Mem.del];split<;>rfl
theorem aM(h:M a=none):M.del a=M:=by
 funext c;simp only [Mem.del];split
 ·rename_i e;rw [e,h]
 ·rfl
theorem aq{o':MO}(h:a≠b):(M.upd a o).upd b o'=(M.upd b o').upd a o:=by
 funext c;simp only [Mem.upd];split
 ·rename_i e;rw [e,if_neg (Ne.symm h)]
 ·rfl
theorem Mem.ne{o:MO}(h:M a=some o)(h':M b=none):a≠b:=by intro e;subst e;rw [h] at h';cases h'
theorem Rkv.mono{κ:Type}{kvs:List (κ×D)}{ws:List (κ×V)}(i:Imm H H')(h:Rkv K H kvs ws):Rkv K H' kvs ws:=cS h fun _ _ z=>⟨z.1,z.2.mono i⟩
theorem RepO.obj(r:RepO K H a o):∃u,H a=some u:=by
 cases o with
 |lst xs=>obtain ⟨vs,e,_⟩:=r;exact ⟨_,e⟩
 |dK xs=>obtain ⟨vs,e,_⟩:=r;exact ⟨_,e⟩
 |dT xs=>obtain ⟨vs,e,_⟩:=r;exact ⟨_,e⟩
 |ins C fs=>obtain ⟨dx,vs,e,_⟩:=r;exact ⟨_,e⟩
theorem RepO.keep(r:RepO K H a o)(i:Imm H H')(e:H' a=H a):RepO K H' a o:=by
 cases o with
 |lst xs=>obtain ⟨vs,q,z⟩:=r;exact ⟨vs,e.trans q,z.mono i⟩
 |dK xs=>obtain ⟨vs,q,z⟩:=r;exact ⟨vs,e.trans q,z.mono i⟩
 |dT xs=>obtain ⟨vs,q,z⟩:=r;exact ⟨vs,e.trans q,z.mono i⟩
 |ins C fs=>obtain ⟨dx,vs,q,z⟩:=r;exact ⟨dx,vs,e.trans q,z.mono i⟩
theorem RepH.fresh(r:RepH K H M)(h:H a=none):M a=none:=by
 cases e:M a with
 |none=>rfl
 |some o=>obtain ⟨u,q⟩:=(r a o e).obj;rw [h] at q;cases q
def tH:Option HO->Prop
 |some (.tup _)=>False
 |some (.frz _ _)=>False
 |_=>True
theorem Imm.upd(h:tH (H a)):Imm H (upd H a u):=by
 refine ⟨fun p vs e=>?_,fun p o v e=>?_⟩
 ·rw [av];exact e
  rintro rfl;rw [e] at h;exact h
 ·rw [av];exact e
  rintro rfl;rw [e] at h;exact h
theorem Imm.new(h:H a=none):Imm H (L2.upd H a u):=Imm.upd (by rw [h];trivial)
theorem RepO.loose(r:RepO K H a o):tH (H a):=by
 cases o with
 |lst xs=>obtain ⟨vs,e,_⟩:=r;rw [e];trivial
 |dK xs=>obtain ⟨vs,e,_⟩:=r;rw [e];trivial
 |dT xs=>obtain ⟨vs,e,_⟩:=r;rw [e];trivial
 |ins C fs=>obtain ⟨dx,vs,e,_⟩:=r;rw [e];trivial
theorem RepH.new(r:RepH K H M)(h:H a=none):RepH K (L2.upd H a u) M:=fun b o e=>by
 obtain ⟨v,q⟩:=(r b o e).obj;exact (r b o e).keep (Imm.new h) (av (aW q h))
theorem RepH.put(r:RepH K H M)(h:tH (H a))(n:RepO K (L2.upd H a u) a o):RepH K (L2.upd H a u) (M.upd a o):=fun b p e=>by
 by_cases hb:b=a
 ·subst hb;rw [Mem.upd_same] at e;cases e;exact n
 ·rw [ae hb] at e
  exact (r b p e).keep (Imm.upd h) (av hb)
theorem RepH.keep(r:RepH K H M)(i:Imm H H')(e:∀b o,M b=some o->H' b=H b):RepH K H' M:=fun b o q=>(r b o q).keep i (e b o q)
structure Frm(M:Mem)(H:Hp)(M':Mem)(H':Hp):Prop where
 keep:∀b u,H b=some u->M b=none->H' b=some u/\M' b=none
variable {M':Mem}
theorem Frm.refl:Frm M H M H:=⟨fun _ _ e n=>⟨e,n⟩⟩
theorem Frm.trans{M1 M2:Mem}{H1 H2:Hp}(x:Frm M H M1 H1)(y:Frm M1 H1 M2 H2):Frm M H M2 H2:=⟨fun b u e n=>let ⟨e1,n1⟩:=x.keep b u e n;y.keep b u e1 n1⟩
theorem Frm.imm(f:Frm M H M' H')(r:RepH K H M):Imm H H':=by
 have key:∀b u,H b=some u->¬tH (some u)->H' b=some u:=fun b u e n=>(f.keep b u e (by
  cases q:M b with
  |none=>rfl
  |some o=>exact absurd (by rw [<- e];exact (r b o q).loose) n)).1
 exact ⟨fun p vs e=>key p _ e (fun z=>z),fun p o u e=>key p _ e (fun z=>z)⟩
theorem Frm.new(h:H a=none):Frm M H M (L2.upd H a u):=⟨fun b v e n=>⟨by rw [av (aW e h)];exact e,n⟩⟩
theorem Frm.put(h:H a=none\/∃o,M a=some o):Frm M H (M.upd a o) (L2.upd H a u):=⟨fun b v e n=>by
 have hb:b≠a:=by
  rintro rfl
  rcases h with h|⟨o,h⟩
  ·rw [h] at e;cases e
  ·rw [h] at n;cases n
 exact ⟨by rw [L2.av hb];exact e,by rw [ae hb];exact n⟩⟩
theorem Frm.del(h:∃o,M a=some o):Frm M H (M.del a) (L2.upd H a u):=⟨fun b v e n=>by
 have hb:b≠a:=by
  rintro rfl
  obtain ⟨o,h⟩:=h;rw [h] at n;cases n
 refine ⟨by rw [L2.av hb];exact e,?_⟩
 unfold Mem.del;rw [if_neg hb];exact n⟩
theorem Rp.mf{d:D}{v:V}(x:Rp K H d v)(r:RepH K H M)(f:Frm M H M' H'):Rp K H' d v:=x.mono (f.imm r)
theorem Rps.mf{d:List D}{v:List V}(x:Rps K H d v)(r:RepH K H M)(f:Frm M H M' H'):Rps K H' d v:=x.mono (f.imm r)
end
end L3
namespace L3
open PySem L2
abbrev Dl:=List (Option D)
abbrev DK:=D->Mem->Prop
abbrev aZ:=Dl->Mem->DK->Prop
abbrev dz:=Dl->Mem->(Bool->Mem->Prop)->Prop
abbrev dm:=Dl->Mem->(List D->Mem->Prop)->Prop
structure RepS(K:W.Frag)(H:Hp)(δ:Dl)(σ:St):Prop where
 len:δ.length=σ.length
 get:∀(i:Nat) (d:D),δ[i]?=some (some d)->∃v,σ[i]?=some (some v)/\Rp K H d v
theorem RepS.mono{K:W.Frag}{H H':Hp}{δ:Dl}{σ:St}(r:RepS K H δ σ)(i:Imm H H'):RepS K H' δ σ:=
 ⟨r.len,fun j d e=>by obtain ⟨v,h1,h2⟩:=r.get j d e;exact ⟨v,h1,h2.mono i⟩⟩
theorem RepS.set{K:W.Frag}{H:Hp}{δ:Dl}{σ:St}{i:Nat}{d:D}{v:V}(r:RepS K H δ σ)(h:Rp K H d v):RepS K H (δ.set i (some d)) (σ.set i (some v)):=by
 refine ⟨by simp [r.len],fun j e q=>?_⟩
 rw [List.getElem?_set] at q ⊢
 by_cases hij:i=j
 ·rw [if_pos hij] at q ⊢
  by_cases hl:i<δ.length
  ·rw [if_pos (by rw [<- r.len];exact hij▸hl)]
   rw [if_pos (hij▸hl)] at q;cases q;exact ⟨v,rfl,h⟩
  ·rw [if_neg (hij▸hl)] at q;cases q
 ·rw [if_neg hij] at q ⊢
  exact r.get j e q
structure Bd where
 p:Mem->Hp->Prop
 go:∀{M M':Mem} {H H':Hp},p M H->Frm M H M' H'->p M' H'
def Bd.of(M:Mem)(H:Hp):Bd:=⟨fun M' H'=>Frm M H M' H',fun a b=>a.trans b⟩
structure SR(X:Cx)(B:Bd)(δ:Dl)(M:Mem)(σ:St)(H:Hp):Prop where
 i0:B.p M H
 rh:RepH X.K H M
 rs:RepS X.K H δ σ
theorem SR.go{X:Cx}{B:Bd}{δ:Dl}{M M':Mem}{σ:St}{H H':Hp}(s:SR X B δ M σ H)(rh:RepH X.K H' M')(i:Frm M H M' H'):SR X B δ M' σ H':=⟨B.go s.i0 i,rh,s.rs.mono (i.imm s.rh)⟩
def Up(K:W.Frag)(M:Mem)(H:Hp)(QQ:DK)(Q:VK):Prop:=∀d M',QQ d M'->∀v H',RepH K H' M'->Frm M H M' H'->Rp K H' d v->Q v H'
def UpT(K:W.Frag)(M:Mem)(H:Hp)(QQ:Bool->Mem->Prop)(Q:Bool->Hp->Prop):Prop:=∀b M',QQ b M'->∀H',RepH K H' M'->Frm M H M' H'->Q b H'
def UpA(K:W.Frag)(M:Mem)(H:Hp)(QQ:List D->Mem->Prop)(Q:List V->Hp->Prop):Prop:=∀ds M',QQ ds M'->∀vs H',RepH K H' M'->Frm M H M' H'->Rps K H' ds vs->Q vs H'
theorem Up.go{K:W.Frag}{M M1:Mem}{H H1:Hp}{QQ:DK}{Q:VK}(u:Up K M H QQ Q)(i:Frm M H M1 H1):Up K M1 H1 QQ Q:=fun d M' q v H' a b c=>u d M' q v H' a (i.trans b) c
theorem UpT.go{K:W.Frag}{M M1:Mem}{H H1:Hp}{QQ:Bool->Mem->Prop}{Q:Bool->Hp->Prop}(u:UpT K M H QQ Q)(i:Frm M H M1 H1):UpT K M1 H1 QQ Q:=fun d M' q H' a b=>u d M' q H' a (i.trans b)
inductive liftE(X:Cx)(B:Bd)(T:aZ)(σ:St)(H:Hp)(Q:VK):Prop
 |mk (δ:Dl) (M:Mem) (QQ:DK) (s:SR X B δ M σ H) (h:T δ M QQ) (u:Up X.K M H QQ Q):liftE X B T σ H Q
inductive liftT(X:Cx)(B:Bd)(T:dz)(σ:St)(H:Hp)(Q:Bool->Hp->Prop):Prop
 |mk (δ:Dl) (M:Mem) (QQ:Bool->Mem->Prop) (s:SR X B δ M σ H) (h:T δ M QQ) (u:UpT X.K M H QQ Q):liftT X B T σ H Q
inductive liftA(X:Cx)(B:Bd)(T:dm)(σ:St)(H:Hp)(Q:List V->Hp->Prop):Prop
 |mk (δ:Dl) (M:Mem) (QQ:List D->Mem->Prop) (s:SR X B δ M σ H) (h:T δ M QQ) (u:UpA X.K M H QQ Q):liftA X B T σ H Q
def DE(X:Cx)(B:Bd)(e:Expr)(T:aZ):Prop:=PE X e (liftE X B T)
def DT(X:Cx)(B:Bd)(e:Expr)(T:dz):Prop:=PT X e (liftT X B T)
def DA(X:Cx)(B:Bd)(es:List Expr)(T:dm):Prop:=PA X es (liftA X B T)
theorem aI{X:Cx}{e:Expr}{t t':TE}(h:PE X e t)(w:∀σ H Q,t' σ H Q->t σ H Q):PE X e t':=fun pins s σ H Q I q=>h pins s σ H Q I (w σ H Q q)
theorem nE{X:Cx}{e:Expr}{t t':TT}(h:PT X e t)(w:∀σ H Q,t' σ H Q->t σ H Q):PT X e t':=fun pins s σ H Q I q=>h pins s σ H Q I (w σ H Q q)
theorem tN{X:Cx}{e:List Expr}{t t':TA}(h:PA X e t)(w:∀σ H Q,t' σ H Q->t σ H Q):PA X e t':=fun pos pins s σ H Q I q=>h pos pins s σ H Q I (w σ H Q q)
theorem bt{X:Cx}{e:Stmt}{t t':TS}(h:PS X e t)(w:∀D σ H,t' D σ H->t D σ H):PS X e t':=fun pins s σ H D I q=>h pins s σ H D I (w D σ H q)
theorem kg{X:Cx}{e:List Stmt}{t t':TS}(h:sg X e t)(w:∀D σ H,t' D σ H->t D σ H):sg X e t':=fun pins s σ H D I q=>h pins s σ H D I (w D σ H q)
def ac(i:Nat):aZ:=fun δ M Q=>match δ[i]? with
 |some (some d)=>Q d M
 |_=>False
def dC(d:D):aZ:=fun _ M Q=>Q d M
section
variable {X:Cx}{B:Bd}{a b c:Expr}{ta tb tc:aZ}{pos:Pos}
theorem Eg{i:Nat}{x:Str}{pos:Pos}(hN:X.N[i]?=some x)(hv:CQ X.env.scope x)(hd:(x==("__debug__":Str))=false:=by decide)(hcd:(x==("__classdict__":Str))=false:=by decide):DE X B (.Name x pos) (ac i):=by
 refine aI (EV hN hv hd hcd) ?_
 rintro σ H Q ⟨δ,M,QQ,s,h,u⟩
 unfold ac at h
 split at h
 ·rename_i d e
  obtain ⟨v,h1,h2⟩:=s.rs.get i d e;exact ⟨v,h1,u d M h v H s.rh Frm.refl h2⟩
 ·exact h.elim
theorem yH{e:Expr}{v:V}{d:D}(h:PE X e (tC v))(r:∀H,Rp X.K H d v):DE X B e (dC d):=by
 refine aI h ?_
 rintro σ H Q ⟨δ,M,QQ,s,h,u⟩
 exact u d M h v H s.rh Frm.refl (r H)
theorem Do{i j pos}:DE X B (.Constant (.int i) j pos) (dC (.int i)):=yH DJ fun _=>rfl
theorem G9{i j pos}:DE X B (.Constant (.bool i) j pos) (dC (.bl i)):=yH GT fun _=>rfl
theorem Ff{j pos}:DE X B (.Constant .none j pos) (dC .non):=yH Dk fun _=>rfl
theorem F5{i j pos}:DE X B (.Constant (.str i) j pos) (dC (.str i)):=yH wX fun _=>rfl
abbrev dA:=D->D->Mem->DK->Prop
inductive liftR2(X:Cx)(r:dA)(x y:V)(H:Hp)(Q:VK):Prop
 |mk (d1 d2:D) (M:Mem) (QQ:DK) (rh:RepH X.K H M) (r1:Rp X.K H d1 x) (r2:Rp X.K H d2 y) (h:r d1 d2 M QQ) (u:Up X.K M H QQ Q):liftR2 X r x y H Q
def ai(r:dA)(ta tb:aZ):aZ:=fun δ M Q=>ta δ M fun x M1=>tb δ M1 fun y M2=>r x y M2 Q
theorem iH{r:dA}{σ:St}{H:Hp}{Q:VK}(h:liftE X B (ai r ta tb) σ H Q):Im (liftR2 X r) (liftE X B ta) (liftE X B tb) σ H Q:=by
 obtain ⟨δ,M,QQ,s,h,u⟩:=h;refine ⟨δ,M,_,s,h,fun x M1 h1 v1 H1 rh1 i1 r1=>?_⟩;refine ⟨δ,M1,_,s.go rh1 i1,h1,fun y M2 h2 v2 H2 rh2 i2 r2=>?_⟩;exact ⟨x,y,M2,QQ,rh2,r1.mf rh1 i2,r2,h2,u.go (i1.trans i2)⟩
theorem dN{op:Operator}{r:dA}(ho:bU X (binaryOp op) (liftR2 X r))(ha:DE X B a ta)(hb:DE X B b tb):DE X B (.BinOp a op b pos) (ai r ta tb):=aI (Ih ho ha hb) fun _ _ _ h=>iH h
theorem wU{op:CmpOp}{r:dA}(ho:bU X (compareOp op) (liftR2 X r))(ha:DE X B a ta)(hb:DE X B b tb)(hm:behindInMarks op b=false):DE X B (.Compare a [op] [b] pos) (ai r ta tb):=aI (BB ho ha hb hm) fun _ _ _ h=>iH h
theorem GW{r:dA}(hr:IxR X (liftR2 X r))(ha:DE X B a ta)(hb:DE X B b tb)(hs:sj b):DE X B (.Subscript a b pos) (ai r ta tb):=aI (H_ hr ha hb hs) fun _ _ _ h=>iH h
def am(t:aZ):dz:=fun δ M Q=>t δ M fun d M'=>match d with
 |.bl k=>Q k M'
 |_=>False
theorem cU{op:CmpOp}{r:dA}(ho:bU X (compareOp op) (liftR2 X r))(ha:DE X B a ta)(hb:DE X B b tb)(hm:behindInMarks op b=false):DT X B (.Compare a [op] [b] pos) (am (ai r ta tb)):=by
 refine nE (Am ho ha hb hm) ?_
 rintro σ H Q ⟨δ,M,QQ,s,h,u⟩
 have h':liftE X B (ai r ta tb) σ H (fun x H'=>∃k,x=.bl k/\Q k H'):=by
  refine ⟨δ,M,_,s,h,fun d M' q v H' rh i rp=>?_⟩;cases d with
  |bl k=>exact ⟨k,rp,u k M' q H' rh i⟩
  |_=>exact (show False from q).elim
 exact iH h'
def C4(M:Mem):D->Option Bool
 |.non=>some false
 |.bl b=>some b
 |.int i=>some (i != 0)
 |.str y=>if y.length<=sizeLine then some ((y.length:Int) != 0) else none
 |.tup xs=>some (!xs.isEmpty)
 |.lst xs=>some (!xs.isEmpty)
 |.ref a=>match M a with
  |some (.lst xs)=>some (!xs.isEmpty)
  |some (.dK xs)=>some (!xs.isEmpty)
  |_=>none
 |_=>none
def fD(t:aZ):dz:=fun δ M Q=>t δ M fun d M'=>match C4 M' d with
 |some k=>Q k M'
 |none=>False
theorem dS{K:W.Frag}{H:Hp}{ds:List D}{vs:List V}(r:Rps K H ds vs):vs.isEmpty=ds.isEmpty:=by
 have:=r.length;cases ds<;>cases vs<;>simp_all
theorem E7{K:W.Frag}{H:Hp}{M:Mem}{d:D}{v:V}{k:Bool}(rh:RepH K H M)(r:Rp K H d v)(e:C4 M d=some k):DR K v H k:=by
 cases d with
 |non=>cases r;cases e;rfl
 |bl b=>cases r;cases e;rfl
 |int i=>cases r;cases e;rfl
 |str y=>
  cases r;simp only [C4] at e
  split at e
  ·cases e;exact ⟨by assumption,rfl⟩
  ·cases e
 |ty n=>cases e
 |tup xs=>
  obtain ⟨p,vs,rfl,t,r⟩:=r;cases e;exact .inr (.inl ⟨vs,t.sq,by rw [dS r]⟩)
 |mt xs=>cases e
 |ml xs=>cases e
 |lst xs=>
  obtain ⟨p,vs,rfl,t,r⟩:=r;cases e;exact .inl ⟨vs,t.sq,by rw [dS r]⟩
 |ref a=>
  cases r;simp only [C4] at e
  split at e
  ·rename_i xs q
   obtain ⟨vs,h1,h2⟩:=rh _ _ q;cases e;exact .inl ⟨vs,SqL.of h1,by rw [dS h2]⟩
  ·rename_i xs q
   obtain ⟨vs,h1,h2⟩:=rh _ _ q;cases e;refine .inr (.inr ⟨vs,h1,?_⟩);cases h2<;>rfl
  ·cases e
theorem F8{e:Expr}(h:DE X B e ta)(he:∀whole,isTrue e X.env whole=(do let v <- whole;standAt e.pos;holding [v] (truthy v)):=by intro _;rfl):DT X B e (fD ta):=by
 refine nE (xw h he) ?_
 rintro σ H Q ⟨δ,M,QQ,s,h,u⟩
 refine ⟨δ,M,_,s,h,fun d M' q v H' rh i rp=>?_⟩
 split at q
 ·rename_i k e
  exact ⟨k,E7 rh rp e,u k M' q H' rh i⟩
 ·exact q.elim
def E_(t:dz):dz:=fun δ M Q=>t δ M fun c M1=>Q (!c) M1
theorem EO{tA:dz}(ha:DT X B a tA):DT X B (.UnaryOp .Not a pos) (E_ tA):=by
 refine nE (DH ha) ?_
 rintro σ H Q ⟨δ,M,QQ,s,h,u⟩
 exact ⟨δ,M,_,s,h,fun c M' q H' rh i=>u _ M' q H' rh i⟩
end
end L3
namespace L3
open PySem L2
section
variable {X:Cx}{B:Bd}{a b c:Expr}{ta tb tc:aZ}{tA tB':dz}{rest:List Expr}{pos:Pos}
def DW(X:Cx)(B:Bd)(e:Expr)(T:dz):Prop:=PW X e (liftT X B T)
theorem Iu{e:Expr}{T:dz}(h:DW X B e T):DT X B e T:=Iq h
theorem uq{X:Cx}{e:Expr}{t t':TT}(h:PW X e t)(w:∀σ H Q,t' σ H Q->t σ H Q):PW X e t':=fun wh pins s σ H Q I q=>h wh pins s σ H Q I (w σ H Q q)
def ip(t u:dz):dz:=fun δ M Q=>t δ M fun c M1=>if c=true then u δ M1 Q else Q false M1
def Dd(t u:dz):dz:=fun δ M Q=>t δ M fun c M1=>if c=true then Q true M1 else u δ M1 Q
theorem zP(ha:DT X B a tA):DW X B (.BoolOp .And [a] pos) tA:=Bz ha
theorem Dn(ha:DT X B a tA):DW X B (.BoolOp .Or [a] pos) tA:=Ea ha
theorem Fy(ha:DT X B a tA)(hb:DW X B (.BoolOp .And (b::rest) pos) tB'):DW X B (.BoolOp .And (a::b::rest) pos) (ip tA tB'):=by
 refine uq (CV ha hb) ?_
 rintro σ H Q ⟨δ,M,QQ,s,h,u⟩
 refine ⟨δ,M,_,s,h,fun c M' q H' rh i=>?_⟩;cases c with
 |true=>rw [if_pos rfl] at q ⊢;exact ⟨δ,M',QQ,s.go rh i,q,u.go i⟩
 |false=>rw [if_neg Bool.false_ne_true] at q ⊢;exact u _ M' q H' rh i
theorem Ie(ha:DT X B a tA)(hb:DW X B (.BoolOp .Or (b::rest) pos) tB'):DW X B (.BoolOp .Or (a::b::rest) pos) (Dd tA tB'):=by
 refine uq (Hv ha hb) ?_
 rintro σ H Q ⟨δ,M,QQ,s,h,u⟩
 refine ⟨δ,M,_,s,h,fun c M' q H' rh i=>?_⟩;cases c with
 |false=>rw [if_neg Bool.false_ne_true] at q ⊢;exact ⟨δ,M',QQ,s.go rh i,q,u.go i⟩
 |true=>rw [if_pos rfl] at q ⊢;exact u _ M' q H' rh i
def o0(ta tb:aZ):aZ:=fun δ M Q=>ta δ M fun x M1=>match x with
 |.bl true=>tb δ M1 Q
 |.bl false=>Q (.bl false) M1
 |_=>False
def CJ(ta:aZ):aZ:=fun δ M Q=>ta δ M fun x M1=>match x with
 |.bl c=>Q (.bl (!c)) M1
 |_=>False
theorem FE{op}{t:aZ}(h:DE X B a t):DE X B (.BoolOp op [a] pos) t:=FF h
theorem DU(ha:DE X B a ta)(hb:DE X B (.BoolOp .And (b::rest) pos) tb):DE X B (.BoolOp .And (a::b::rest) pos) (o0 ta tb):=by
 refine aI (D_ ha hb) ?_
 rintro σ H Q ⟨δ,M,QQ,s,h,u⟩
 refine ⟨δ,M,_,s,h,fun d M' q v H' rh i r=>?_⟩;cases d with
 |bl c=>
  cases c with
  |true=>exact ⟨true,r,by rw [if_pos rfl];exact ⟨δ,M',QQ,s.go rh i,q,u.go i⟩⟩
  |false=>exact ⟨false,r,by rw [if_neg Bool.false_ne_true];exact u _ M' q _ H' rh i rfl⟩
 |_=>exact (show False from q).elim
theorem DF(ha:DE X B a ta):DE X B (.UnaryOp .Not a pos) (CJ ta):=by
 refine aI (Dt ha) ?_
 rintro σ H Q ⟨δ,M,QQ,s,h,u⟩
 refine ⟨δ,M,_,s,h,fun d M' q v H' rh i r=>?_⟩;cases d with
 |bl c=>exact ⟨c,r,u _ M' q _ H' rh i rfl⟩
 |_=>exact (show False from q).elim
def vn(t:dz)(ta tb:aZ):aZ:=fun δ M Q=>t δ M fun c M1=>if c=true then ta δ M1 Q else tb δ M1 Q
theorem y9{c:Expr}(hc:DT X B c tA)(ha:DE X B a ta)(hb:DE X B b tb):DE X B (.IfExp c a b pos) (vn tA ta tb):=by
 refine aI (xW hc ha hb) ?_
 rintro σ H Q ⟨δ,M,QQ,s,h,u⟩
 refine ⟨δ,M,_,s,h,fun c M' q H' rh i=>?_⟩;cases c with
 |true=>rw [if_pos rfl] at q ⊢;exact ⟨δ,M',QQ,s.go rh i,q,u.go i⟩
 |false=>rw [if_neg Bool.false_ne_true] at q ⊢;exact ⟨δ,M',QQ,s.go rh i,q,u.go i⟩
variable {e:Expr}{es:List Expr}{te:aZ}{t:dm}
def af:dm:=fun _ M Q=>Q [] M
def aa(ta:aZ)(tr:dm):dm:=fun δ M Q=>ta δ M fun x M1=>tr δ M1 fun xs M2=>Q (x::xs) M2
theorem DQ:DA X B [] af:=by
 refine tN yF ?_
 rintro σ H Q ⟨δ,M,QQ,s,h,u⟩
 exact u [] M h [] H s.rh Frm.refl .nil
theorem Bx(ha:DE X B e te)(hr:DA X B es t)(hs:starEach (e::es) X.env=(false,eval e X.env)::starEach es X.env:=by rfl):DA X B (e::es) (aa te t):=by
 refine tN (uW ha hr hs) ?_
 rintro σ H Q ⟨δ,M,QQ,s,h,u⟩
 refine ⟨δ,M,_,s,h,fun x M1 h1 v1 H1 rh1 i1 r1=>?_⟩;refine ⟨δ,M1,_,s.go rh1 i1,h1,fun xs M2 h2 v2 H2 rh2 i2 r2=>?_⟩;exact u _ M2 h2 _ H2 rh2 (i1.trans i2) (.cons (r1.mf rh1 i2) r2)
def aR(t:dm):aZ:=fun δ M Q=>t δ M fun xs M1=>xs.length<=sizeLine/\Q (.tup xs) M1
def bJ(t:dm):aZ:=fun δ M Q=>t δ M fun xs M1=>xs.length<=sizeLine/\∀p,M1 p=none->Q (.ref p) (M1.upd p (.lst xs))
theorem FN{x1}(h:DA X B es t):DE X B (.Tuple es x1 pos) (aR t):=by
 refine aI (EH h) ?_
 rintro σ H Q ⟨δ,M,QQ,s,h,u⟩
 refine ⟨δ,M,_,s,h,fun xs M1 h1 v1 H1 rh1 i1 r1=>⟨by rw [<- r1.length];exact h1.1,fun p hp=>?_⟩⟩
 exact u _ M1 h1.2 _ _ (rh1.new hp) (i1.trans (Frm.new hp)) ⟨p,v1,rfl,upd_same,r1.mono (Imm.new hp)⟩
theorem Fa(h:DA X B es t):DE X B (.List es pos) (bJ t):=by
 refine aI (Fu h) ?_
 rintro σ H Q ⟨δ,M,QQ,s,h,u⟩
 refine ⟨δ,M,_,s,h,fun xs M1 h1 v1 H1 rh1 i1 r1=>⟨by rw [<- r1.length];exact h1.1,fun p hp=>?_⟩⟩
 exact u _ _ (h1.2 p (rh1.fresh hp)) _ _ (rh1.put (by rw [hp];trivial) ⟨v1,upd_same,r1.mono (Imm.new hp)⟩) (i1.trans (Frm.put (.inl hp))) rfl
theorem Inv.freeze{pins:List (Addr×Obj)}{σ:L2.St}{H:Hp}{s:Shared}{p:Addr}{vs:List V}(I:Inv X pins σ H s)(h:H p=some (.lst vs)):∃o,Inv X pins σ (upd H p (.frz o (.lst vs))) s:=by
 obtain ⟨its,n,r,e,z⟩:=I.lst h;have ne:∀{b:Addr} {u:Option HO},H b=u->u≠some (.lst vs)->b≠p:=fun {b u} q hu z=>by subst z;rw [h] at q;exact hu q.symm
 refine ⟨{ cls:=.type "list",data:=.seq its.toArray n },I.ok,I.os,I.bare,⟨I.base.keep,I.base.slot,fun b o q hn hx=>?_,I.base.there,fun b xs q=>?_,fun b o u q=>?_,fun b ps q=>?_⟩,I.loc,I.cell,?_,fun x c q=>?_,fun pp hp=>?_,fun b o q=>?_,I.len⟩
 ·have q':=I.base.free b o q hn hx
  rw [av (ne q' (by simp))];exact q'
 ·have q':=I.base.tups b xs q
  rw [av (ne q' (by simp))];exact q'
 ·have q':=I.base.frzs b o u q
  rw [av (ne q' (by simp))];exact q'
 ·obtain ⟨more,q'⟩:=I.base.tbls b ps q
  exact ⟨more,by rw [av (ne q' (by simp))];exact q'⟩
 ·rw [av (ne I.free (by simp))];exact I.free
 ·have q':=I.freeC x c q
  rw [av (ne q' (by simp))];exact q'
 ·obtain ⟨h1,h2,h3⟩:=I.pin pp hp
  exact ⟨h1,by rw [av (ne h2 (by simp))];exact h2,h3⟩
 ·by_cases hb:b=p
  ·subst hb
   rw [upd_same] at q;cases q;refine ⟨e,?_⟩;exact ⟨z,its,n,r,e⟩
  ·rw [av hb] at q
   refine (I.hok b o q).stay (fun _ _ _ y=>y) (fun c y=>?_) fun c xs y=>?_
   ·rw [av (ne y (by simp))];exact y
   ·rw [av (ne y (by simp))];exact y
def frz(d:D)(M:Mem)(Q:DK):Prop:=match d with
 |.ref a=>match M a with
  |some (.lst xs)=>Q (.lst xs) (M.del a)
  |_=>Q d M
 |_=>Q d M
def ap(t:aZ):aZ:=fun δ M Q=>t δ M fun d M'=>frz d M' Q
theorem RepH.freeze{K:W.Frag}{H:Hp}{M:Mem}{p:Addr}{vs:List V}{o:Obj}(r:RepH K H M)(h:H p=some (.lst vs)):RepH K (upd H p (.frz o (.lst vs))) (M.del p):=fun b u e=>by
 unfold Mem.del at e
 split at e
 ·cases e
 ·rename_i hb
  exact (r b u e).keep (Imm.upd (by rw [h];trivial)) (av hb)
theorem Fb(h:DE X B e te):DE X B e (ap te):=by
 intro pins s σ H Q I hq;obtain ⟨δ,M,QQ,sr,hT,u⟩:=hq;refine a_ (h pins s σ H (fun v H'=>∃d M',RepH X.K H' M'/\Frm M H M' H'/\Rp X.K H' d v/\frz d M' QQ) I ⟨δ,M,_,sr,hT,fun d M' q v H' rh i r=>⟨d,M',rh,i,r,q⟩⟩) ?_
 rintro w s' ⟨v,H',I',rv,d,M',rh,i,r,q⟩
 unfold frz at q
 split at q
 ·rename_i a
  split at q
  ·rename_i xs e
   obtain ⟨vs,h1,h2⟩:=rh _ _ e;obtain ⟨o,I2⟩:=Inv.freeze I' h1;refine ⟨v,_,I2,rv,u _ _ q v _ (rh.freeze h1) (i.trans (Frm.del ⟨_,e⟩)) ?_⟩;exact ⟨a,vs,r,⟨o,upd_same⟩,h2.mono (Imm.upd (by rw [h1];trivial))⟩
  ·exact ⟨v,H',I',rv,u _ _ q v H' rh i r⟩
 ·exact ⟨v,H',I',rv,u _ _ q v H' rh i r⟩
end
end L3
namespace L3
open PySem L2
def dk(M:Mem):D->Option (List D)
 |.lst xs=>some xs
 |.ref a=>match M a with
  |some (.lst xs)=>some xs
  |_=>none
 |_=>none
def aT(M:Mem):D->Option (List D)
 |.tup xs=>some xs
 |.lst xs=>some xs
 |.mt xs=>some xs
 |.ml xs=>some xs
 |.ref a=>match M a with
  |some (.lst xs)=>some xs
  |_=>none
 |_=>none
section
variable {X:Cx}{B:Bd}{K:W.Frag}{H:Hp}{M:Mem}{d:D}{v:V}{xs:List D}
theorem eA(rh:RepH K H M)(r:Rp K H d v)(e:dk M d=some xs):∃p vs,v=.ref p/\Rd H p (.lst vs)/\Rps K H xs vs:=by
 cases d with
 |lst ys=>
  cases e;obtain ⟨p,vs,rfl,⟨o,h⟩,r⟩:=r;exact ⟨p,vs,rfl,.inr ⟨o,h⟩,r⟩
 |ref a=>
  simp only [dk] at e
  split at e
  ·rename_i ys q
   cases e;obtain ⟨vs,h1,h2⟩:=rh _ _ q;exact ⟨a,vs,r,.inl h1,h2⟩
  ·cases e
 |_=>cases e
theorem iK(rh:RepH K H M)(r:Rp K H d v)(e:aT M d=some xs):∃p vs,v=.ref p/\(SqL K H p vs\/fE K H p vs)/\Rps K H xs vs:=by
 cases d with
 |tup ys=>
  cases e;obtain ⟨p,vs,rfl,h,r⟩:=r;exact ⟨p,vs,rfl,.inr h.sq,r⟩
 |lst ys=>
  cases e;obtain ⟨p,vs,rfl,h,r⟩:=r;exact ⟨p,vs,rfl,.inl h.sq,r⟩
 |mt ys=>
  cases e;obtain ⟨p,vs,rfl,h,r⟩:=r;exact ⟨p,vs,rfl,.inr h.sq,r⟩
 |ml ys=>
  cases e;obtain ⟨p,vs,rfl,h,r⟩:=r;exact ⟨p,vs,rfl,.inl h.sq,r⟩
 |ref a=>
  simp only [aT] at e
  split at e
  ·rename_i ys q
   cases e;obtain ⟨vs,h1,h2⟩:=rh _ _ q;exact ⟨a,vs,r,.inl (SqL.of h1),h2⟩
  ·cases e
 |_=>cases e
theorem zN:bU X (binaryOp .Add) (fun x y H Q=>∃l b xs zs,x=.ref l/\y=.ref b/\Rd H l (.lst xs)/\Rd H b (.lst zs)/\xs.length+zs.length<=sizeLine/\∀p,H p=none->Q (.ref p) (upd H p (.lst (xs++zs)))):=by
 intro pins s σ H x y v u Q I rx ry h;obtain ⟨l,b,xs,zs,rfl,rfl,hH,hB,hz,q⟩:=h;cases rx;cases ry;obtain ⟨z,its,n,r,e⟩:=hH.ok I.hok;obtain ⟨z2,its2,n2,r2,e2⟩:=hB.ok I.hok;have hl:=r.length;have hl2:=r2.length;refine PySem.P.add_list e e2 ?_ (by rw [List.size_toArray,List.size_toArray];lia)
 have ea:its.toArray++its2.toArray=(its++its2).toArray:=by simp
 rw [ea];exact ⟨.ref _,_,I.lnew (t':=s.toks) (r.append r2) (by rw [List.length_append];lia),rfl,q _ I.fresh⟩
def bE:dA:=fun x y M Q=>match x,y with
 |.int i,.int j=>Q (.int (i+j)) M
 |.str a,.str b=>a.length+b.length<=sizeLine/\Q (.str (a++b)) M
 |.tup xs,.tup ys=>xs.length+ys.length<=sizeLine/\Q (.tup (xs++ys)) M
 |x,y=>match dk M x,dk M y with
  |some xs,some ys=>xs.length+ys.length<=sizeLine/\∀p,M p=none->Q (.ref p) (M.upd p (.lst (xs++ys)))
  |_,_=>False
theorem zu:bU X (binaryOp .Add) (liftR2 X bE):=by
 intro pins s σ H x y v u Q I rx ry h;obtain ⟨d1,d2,M,QQ,rh,r1,r2,h,up⟩:=h;unfold bE at h
 split at h
 ·cases r1;cases r2
  exact CT pins s σ H _ _ v u Q I rx ry ⟨_,_,rfl,rfl,up _ M h _ H rh Frm.refl rfl⟩
 ·cases r1;cases r2
  exact rl pins s σ H _ _ v u Q I rx ry ⟨_,_,rfl,rfl,h.1,up _ M h.2 _ H rh Frm.refl rfl⟩
 ·obtain ⟨p,vs,rfl,t1,r1⟩:=r1
  obtain ⟨p',vs',rfl,t2,r2⟩:=r2;have l1:=r1.length;have l2:=r2.length;have r12:=r1.append r2
  by_cases hx:vs=[]
  ·subst hx
   have hu:=up _ M h.2 (.ref p') H rh Frm.refl ⟨p',vs',rfl,t2,r12⟩;exact y2 pins s σ H _ _ v u Q I rx ry ⟨p,p',vs',rfl,rfl,t1.sq,t2.sq,hu⟩
  ·refine A2 pins s σ H _ _ v u Q I rx ry ⟨p,p',vs,vs',rfl,rfl,t1.sq,t2.sq,hx,by lia,fun e=>?_,fun _ q hq=>?_⟩
   ·subst e
    rw [List.append_nil] at r12;exact up _ M h.2 (.ref p) H rh Frm.refl ⟨p,vs,rfl,t1,r12⟩
   ·exact up _ M h.2 _ _ (rh.new hq) (Frm.new hq) ⟨q,_,rfl,upd_same,r12.mono (Imm.new hq)⟩
 ·split at h
  ·rename_i xs ys e1 e2
   obtain ⟨p,vs,rfl,t1,r1⟩:=eA rh r1 e1;obtain ⟨p',vs',rfl,t2,r2⟩:=eA rh r2 e2;have l1:=r1.length;have l2:=r2.length;refine zN pins s σ H _ _ v u Q I rx ry ⟨p,p',vs,vs',rfl,rfl,t1,t2,by lia,fun q hq=>?_⟩
   exact up _ _ (h.2 q (rh.fresh hq)) _ _ (rh.put (by rw [hq];trivial) ⟨_,upd_same,(r1.append r2).mono (Imm.new hq)⟩) (Frm.put (.inl hq)) rfl
  ·exact h.elim
def oI(C:Int->Int->Prop)(g:Int->Int->D):dA:=fun x y M Q=>match x,y with
 |.int i,.int j=>C i j/\Q (g i j) M
 |_,_=>False
theorem wB{f:Value->Value->Sem Value}{C:Int->Int->Prop}{g:Int->Int->V}{g':Int->Int->D}(h:bU X f (rI C g))(e:∀i j K H,Rp K H (g' i j) (g i j)):bU X f (liftR2 X (oI C g')):=by
 intro pins s σ H x y v u Q I rx ry hq;obtain ⟨d1,d2,M,QQ,rh,r1,r2,hq,up⟩:=hq;unfold oI at hq
 split at hq
 ·cases r1;cases r2
  exact h pins s σ H _ _ v u Q I rx ry ⟨_,_,rfl,rfl,hq.1,up _ M hq.2 _ H rh Frm.refl (e _ _ _ _)⟩
 ·exact hq.elim
def gr(g:Int->Int->D):dA:=fun x y M Q=>match x,y with
 |.int i,.int j=>Q (g i j) M
 |_,_=>False
theorem gU{f:Value->Value->Sem Value}{g:Int->Int->V}{g':Int->Int->D}(h:bU X f (wk g))(e:∀i j K H,Rp K H (g' i j) (g i j)):bU X f (liftR2 X (gr g')):=by
 intro pins s σ H x y v u Q I rx ry hq;obtain ⟨d1,d2,M,QQ,rh,r1,r2,hq,up⟩:=hq;unfold gr at hq
 split at hq
 ·cases r1;cases r2
  exact h pins s σ H _ _ v u Q I rx ry ⟨_,_,rfl,rfl,up _ M hq _ H rh Frm.refl (e _ _ _ _)⟩
 ·exact hq.elim
abbrev kO:dA:=gr fun i j=>.int (i-j)
theorem B6:bU X (binaryOp .Sub) (liftR2 X kO):=gU Em fun _ _ _ _=>rfl
abbrev dY:dA:=oI (fun _ j=>0<j) fun i j=>.int (i % j)
theorem A3:bU X (binaryOp .Mod) (liftR2 X dY):=wB De fun _ _ _ _=>rfl
def tT(_ j:Int):Prop:=0<j/\j<2 ^ 200
theorem xu:bU X (binaryOp .FloorDiv) (rI tT fun i j=>.int (i / j)):=by
 intro pins s σ H x y v u Q I rx ry h;obtain ⟨i,j,rfl,rfl,hc,q⟩:=h;obtain ⟨h0,h1⟩:=hc;have hj:((j.toNat:Nat):Int)=j:=by lia
 refine wI (n:=j.toNat) ?_ (by lia) pins s σ H _ _ v u Q I rx ry ⟨i,j,rfl,rfl,hj.symm,q⟩
 have hlt:j.toNat<2 ^ 200:=by
  have:((j.toNat:Nat):Int)<((2 ^ 200:Nat):Int):=by rw [hj,Int.natCast_pow];exact h1
  exact Int.ofNat_lt.mp this
 have:=(Nat.log2_lt (n:=j.toNat) (k:=200) (by lia)).mpr hlt
 lia
abbrev eX:dA:=oI tT fun i j=>.int (i / j)
theorem wz:bU X (binaryOp .FloorDiv) (liftR2 X eX):=wB xu fun _ _ _ _=>rfl
abbrev Ft:dA:=oI AA fun i j=>.int (i ^ j.toNat)
theorem Bi:bU X (binaryOp .Pow) (liftR2 X Ft):=wB Fq fun _ _ _ _=>rfl
abbrev HD:dA:=gr fun i j=>.int (Builtin.bitXor i j)
theorem Al:bU X (binaryOp .BitXor) (liftR2 X HD):=gU D8 fun _ _ _ _=>rfl
abbrev Fn:dA:=gr fun i j=>.int (Builtin.bitAnd i j)
theorem Aa:bU X (binaryOp .BitAnd) (liftR2 X Fn):=gU Ei fun _ _ _ _=>rfl
abbrev oOr:dA:=gr fun i j=>.int (Builtin.bitOr i j)
theorem EI:bU X (binaryOp .BitOr) (liftR2 X oOr):=gU Ij fun _ _ _ _=>rfl
abbrev EU:dA:=oI AA fun i j=>.int (i*2 ^ j.toNat)
theorem z_:bU X (binaryOp .LShift) (liftR2 X EU):=wB FA fun _ _ _ _=>rfl
abbrev D6:dA:=oI (fun _ j=>0<=j) fun i j=>.int (i / 2 ^ j.toNat)
theorem zU:bU X (binaryOp .RShift) (liftR2 X D6):=wB EW fun _ _ _ _=>rfl
abbrev oLt:dA:=gr fun i j=>.bl (decide (i<j))
theorem Eb:bU X (compareOp .Lt) (liftR2 X oLt):=gU HJ fun _ _ _ _=>rfl
abbrev oLe:dA:=gr fun i j=>.bl (decide (i<=j))
theorem FD:bU X (compareOp .LtE) (liftR2 X oLe):=gU GY fun _ _ _ _=>rfl
abbrev vA:dA:=gr fun i j=>.bl (decide (j<i))
theorem Du:bU X (compareOp .Gt) (liftR2 X vA):=gU HC fun _ _ _ _=>rfl
abbrev oGe:dA:=gr fun i j=>.bl (decide (j<=i))
theorem DY:bU X (compareOp .GtE) (liftR2 X oGe):=gU Hs fun _ _ _ _=>rfl
theorem yA{c:Nat}:∀(k:Nat) (acc:Array Nat),(List.replicate k #[c]).foldl (·++·) acc=acc++Array.replicate k c
 |0,acc=>by simp
 |k+1,acc=>by
  rw [List.replicate_succ,List.foldl_cons,yA k (acc++#[c])];apply Array.ext';simp [List.replicate_succ]
theorem xY:bU X (binaryOp .Mult) (fun x y H Q=>∃c k,x=.str ⟨#[c]⟩/\y=.int k/\1<=k/\k<=1000/\Q (.str ⟨Array.replicate k.toNat c⟩) H):=by
 intro pins s σ H x y v u Q I rx ry h;obtain ⟨c,k,rfl,rfl,h1,h2,q⟩:=h;obtain ⟨t,rfl⟩:=rx;obtain ⟨t',rfl⟩:=ry;have hlen:(⟨#[c]⟩:Str).length=1:=rfl;have hsl:sizeLine=16777216:=rfl;refine PySem.P.mul_str ?_ ?_ ?_ ?_
 ·rw [decide_eq_false (by lia),decide_eq_false (by lia)];rfl
 ·intro _ _ hc
  rw [hlen] at hc;have:(1:Int)<=(2 ^ 63-1) / k:=Int.le_ediv_of_mul_le (by lia) (by lia)
  lia
 ·intro _ _
  rw [hlen];unfold PySem.Builtin.Str.tooLong;exact decide_eq_false (by lia)
 ·rw [if_neg (by lia)]
  by_cases hk:k=1
  ·rw [if_pos (by rw [hk];rfl)]
   subst hk;exact ⟨.str ⟨#[c]⟩,H,I,⟨_,rfl⟩,q⟩
  ·rw [if_neg (by simp [hlen,hk])]
   have he:(List.replicate k.toNat #[c]).foldl (·++·) #[]=Array.replicate k.toNat c:=by rw [yA];simp
   refine ⟨?_,.str ⟨(List.replicate k.toNat #[c]).foldl (·++·) #[]⟩,H,I.tok _,⟨_,rfl⟩,by rw [he];exact q⟩
   show ((List.replicate k.toNat #[c]).foldl (·++·) #[]).size<=sizeLine;rw [he];simp;lia
def cZ:dA:=fun x y M Q=>match x,y with
 |.int i,.int j=>CMul i j/\Q (.int (i*j)) M
 |.str z,.int k=>match z.cps.toList with
  |[c]=>1<=k/\k<=1000/\Q (.str ⟨Array.replicate k.toNat c⟩) M
  |_=>False
 |.tup xs,.int k=>xs≠[]/\0<=k/\k<=1000/\xs.length<=1000/\Q (.tup (List.replicate k.toNat xs).flatten) M
 |_,_=>False
theorem Rps.rep{ds:List D}{vs:List V}(h:Rps K H ds vs):∀k:Nat,Rps K H (List.replicate k ds).flatten (List.replicate k vs).flatten
 |0=>rfl
 |k+1=>by
  rw [List.replicate_succ,List.replicate_succ,List.flatten_cons,List.flatten_cons];exact h.append (Rps.rep h k)
theorem AU:bU X (binaryOp .Mult) (liftR2 X cZ):=by
 intro pins s σ H x y v u Q I rx ry h;obtain ⟨d1,d2,M,QQ,rh,r1,r2,h,up⟩:=h;cases d1 with
 |int i=>
  cases d2 with
  |int j=>
   cases r1;cases r2;exact D4 pins s σ H _ _ v u Q I rx ry ⟨_,_,rfl,rfl,h.1,up _ M h.2 _ H rh Frm.refl rfl⟩
  |_=>exact (show False from h).elim
 |str z=>
  cases d2 with
  |int k=>
   cases r1;cases r2;simp only [cZ] at h
   split at h
   ·rename_i c e
    have ez:z=⟨#[c]⟩:=by
     obtain ⟨⟨l⟩⟩:=z;have e':l=[c]:=e;rw [e']
    subst ez;exact xY pins s σ H _ _ v u Q I rx ry ⟨_,_,rfl,rfl,h.1,h.2.1,up _ M h.2.2 _ H rh Frm.refl rfl⟩
   ·exact h.elim
  |_=>exact (show False from h).elim
 |tup xs=>
  cases d2 with
  |int k=>
   obtain ⟨p,vs,rfl,t1,r1⟩:=r1;cases r2;obtain ⟨h1,h2,h3,h4,h5⟩:=h;have l1:=r1.length;obtain ⟨t,rfl⟩:=ry;cases rx;obtain ⟨its,r,pt,_⟩:=I.tuple t1.sq;have hl:=r.length;refine vQ pt (fun z=>h1 ?_) h2 h3 (by lia) (fun e=>?_) fun e=>?_
   ·have hz:its.length=0:=congrArg List.length z
    exact List.eq_nil_of_length_eq_zero (by lia)
   ·subst e
    refine ⟨.ref p,H,I,rfl,up _ M h5 _ H rh Frm.refl ⟨p,vs,rfl,t1,?_⟩⟩;simpa using r1
   ·have hf:H s.heap.objs.size=none:=I.hok.fresh (Nat.le_refl _)
    have hz:(List.replicate k.toNat vs).flatten.length<=sizeLine:=by
     rw [As];have h1:k.toNat*vs.length<=1000*1000:=Nat.mul_le_mul (by lia) (by lia)
     exact Nat.le_trans h1 (by decide)
    have i2:Imm H (upd H s.heap.objs.size (.tup (List.replicate k.toNat vs).flatten)):=Imm.new hf;exact ⟨.ref s.heap.objs.size,_,I.laid (t':=s.toks) (o:=.tup (List.replicate k.toNat vs).flatten) (fun b ob z=>Heap.get?_push_of_some _ z) (Nat.le_refl _) ⟨hz,_,r.rep k.toNat,⟨_,Heap.get?_push_size _ rfl,⟨rfl,_,rfl⟩,rfl⟩⟩,rfl,
     up _ M h5 _ _ (rh.new hf) (Frm.new hf) ⟨_,_,rfl,upd_same,(r1.rep _).mono i2⟩⟩
  |_=>exact (show False from h).elim
 |_=>exact (show False from h).elim
def kt:D->Bool
 |.non=>true
 |_=>false
def iq:dA:=fun x y M Q=>match y with
 |.non=>Q (.bl (kt x)) M
 |_=>False
def fg:dA:=fun x y M Q=>match y with
 |.non=>Q (.bl (!kt x)) M
 |_=>False
theorem wt(r:Rp K H d v):decide (v=V.non)=kt d:=by
 cases d with
 |non=>cases r;rfl
 |tup xs=>obtain ⟨p,vs,rfl,_⟩:=r;rfl
 |lst xs=>obtain ⟨p,vs,rfl,_⟩:=r;rfl
 |mt xs=>obtain ⟨p,vs,rfl,_⟩:=r;rfl
 |ml xs=>obtain ⟨p,vs,rfl,_⟩:=r;rfl
 |_=>cases r;rfl
theorem tF:bU X (compareOp .Is) (liftR2 X iq):=by
 intro pins s σ H x y v u Q I rx ry h;obtain ⟨d1,d2,M,QQ,rh,r1,r2,h,up⟩:=h;unfold iq at h
 split at h
 ·cases r2
  exact Fm pins s σ H _ _ v u Q I rx ry ⟨rfl,by rw [wt r1];exact up _ M h _ H rh Frm.refl rfl⟩
 ·exact h.elim
theorem yy:bU X (compareOp .IsNot) (liftR2 X fg):=by
 intro pins s σ H x y v u Q I rx ry h;obtain ⟨d1,d2,M,QQ,rh,r1,r2,h,up⟩:=h;unfold fg at h
 split at h
 ·cases r2
  refine Bj pins s σ H _ _ v u Q I rx ry ⟨rfl,up _ M h _ H rh Frm.refl ?_⟩;show _=V.bl _;rw [wt r1]
 ·exact h.elim
end
end L3
namespace L3
open PySem L2
section
variable {κ:Type}[DecidableEq κ]
def b_(kvs:List (κ×D))(k:κ):Option D:=(kvs.find? fun kv=>decide (kv.1=k)).map (·.2)
def cT(kvs:List (κ×D))(k:κ)(v:D):List (κ×D):=
 if (kvs.any fun kv=>decide (kv.1=k))=true then kvs.map (fun kv=>if kv.1=k then (kv.1,v) else kv) else kvs++[(k,v)]
def lD(kvs:List (κ×D))(k:κ):List (κ×D):=kvs.filter fun kv=>decide (kv.1≠k)
variable {K:W.Frag}{H:Hp}
theorem Rkv.val{kvs:List (κ×D)}{ws:List (κ×V)}(h:Rkv K H kvs ws)(k:κ):(b_ kvs k=none/\cM ws k=none)\/∃d v,b_ kvs k=some d/\cM ws k=some v/\Rp K H d v:=by
 induction h with
 |nil=>exact .inl ⟨rfl,rfl⟩
 |@cons p q ps qs r t ih=>
  obtain ⟨k1,d⟩:=p;obtain ⟨k2,v⟩:=q;obtain ⟨e,r⟩:=r;dsimp only at e r;subst e
  by_cases hk:k1=k
  ·exact .inr ⟨d,v,by simp [b_,hk],by simp [cM,hk],r⟩
  ·simpa [b_,cM,hk] using ih
theorem Rkv.any{kvs:List (κ×D)}{ws:List (κ×V)}(h:Rkv K H kvs ws)(k:κ):(kvs.any fun kv=>decide (kv.1=k))=(ws.any fun kv=>decide (kv.1=k)):=by
 induction h with
 |nil=>rfl
 |cons r t ih=>rw [List.any_cons,List.any_cons,ih,r.1]
theorem Rkv.put{kvs:List (κ×D)}{ws:List (κ×V)}(h:Rkv K H kvs ws)(k:κ){d:D}{v:V}(r:Rp K H d v):Rkv K H (cT kvs k d) (ca ws k v):=by
 unfold cT ca;rw [h.any k]
 split
 ·rename_i q;clear q
  induction h with
  |nil=>exact .nil
  |@cons p q ps qs rr t ih=>
   obtain ⟨k1,d'⟩:=p;obtain ⟨k2,v'⟩:=q;obtain ⟨e,r'⟩:=rr;dsimp only at e r';subst e;rw [List.map_cons,List.map_cons];refine .cons ?_ ih
   by_cases hk:k1=k
   ·rw [if_pos hk,if_pos hk];exact ⟨rfl,r⟩
   ·rw [if_neg hk,if_neg hk];exact ⟨rfl,r'⟩
 ·rename_i q;clear q
  induction h with
  |nil=>exact .cons ⟨rfl,r⟩ .nil
  |cons rr t ih=>exact .cons rr ih
theorem Rkv.drop{kvs:List (κ×D)}{ws:List (κ×V)}(h:Rkv K H kvs ws)(k:κ):Rkv K H (lD kvs k) (ff ws k):=by
 unfold lD ff
 induction h with
 |nil=>exact .nil
 |@cons p q ps qs rr t ih=>
  obtain ⟨k1,d'⟩:=p;obtain ⟨k2,v'⟩:=q;obtain ⟨e,r'⟩:=rr;dsimp only at e r';subst e
  by_cases hk:k1=k
  ·simpa [hk] using ih
  ·simp only [List.filter_cons,ne_eq,hk,not_false_eq_true,decide_true,if_true]
   exact .cons ⟨rfl,r'⟩ ih
theorem Rkv.length{kvs:List (κ×D)}{ws:List (κ×V)}(h:Rkv K H kvs ws):kvs.length=ws.length:=Paired.length h
end
def bW:D->Option aw
 |.int i=>some (.inl i)
 |.str x=>some (.inr x)
 |_=>none
def fC:List D->Option (List aw)
 |[]=>some []
 |d::ds=>match bW d,fC ds with
  |some k,some ks=>some (k::ks)
  |_,_=>none
def CS:D->Option (List aw)
 |.tup xs=>fC xs
 |_=>none
section
variable {X:Cx}{K:W.Frag}{H:Hp}{M:Mem}
theorem eE{d:D}{v:V}{k:aw}(r:Rp K H d v)(e:bW d=some k):v=kV k:=by
 cases d with
 |int i=>cases e;exact r
 |str x=>cases e;exact r
 |_=>cases e
theorem ka:∀{ds:List D} {vs:List V} {ks:List aw},Rps K H ds vs->fC ds=some ks->vs=ks.map kV
 |[],vs,ks,r,e=>by cases e;exact r
 |d::ds,vs,ks,r,e=>by
  obtain ⟨v,r',rfl,a,b⟩:=r;simp only [fC] at e
  split at e
  ·rename_i k ks' e1 e2
   cases e;rw [eE a e1,ka b e2];rfl
  ·cases e
def nh(M:Mem)(a:Addr)(y:D):Option (Option D):=match M a with
 |some (.dK kvs)=>match bW y with
  |some k=>some (b_ kvs k)
  |none=>none
 |some (.dT kvs)=>match CS y with
  |some k=>some (b_ kvs k)
  |none=>none
 |_=>none
theorem pF{d:D}{v:V}{ks:List aw}(r:Rp K H d v)(e:CS d=some ks):∃b,v=.ref b/\H b=some (.tup (ks.map kV)):=by
 cases d with
 |tup xs=>
  obtain ⟨p,vs,rfl,t,r⟩:=r;exact ⟨p,rfl,by rw [<- ka r e];exact t⟩
 |_=>cases e
theorem m9{a:Addr}{y:D}{v:V}{o:Option D}(rh:RepH K H M)(r:Rp K H y v)(e:nh M a y=some o):
  (o=none/\DGet H a v none)\/∃d w,o=some d/\DGet H a v (some w)/\Rp K H d w:=by
 unfold nh at e
 split at e
 ·rename_i kvs hM
  obtain ⟨ws,h1,h2⟩:=rh _ _ hM
  split at e
  ·rename_i k ek
   cases e;have ev:=eE r ek;subst ev;rcases h2.val k with ⟨e1,e2⟩|⟨d,w,e1,e2,r'⟩
   ·exact .inl ⟨e1,by rw [<- e2];exact DGet.k h1⟩
   ·exact .inr ⟨d,w,e1,by rw [<- e2];exact DGet.k h1,r'⟩
  ·cases e
 ·rename_i kvs hM
  obtain ⟨ws,h1,h2⟩:=rh _ _ hM
  split at e
  ·rename_i k ek
   cases e;obtain ⟨b,rfl,hb⟩:=pF r ek;rcases h2.val k with ⟨e1,e2⟩|⟨d,w,e1,e2,r'⟩
   ·exact .inl ⟨e1,by rw [<- e2];exact zn h1 hb⟩
   ·exact .inr ⟨d,w,e1,by rw [<- e2];exact zn h1 hb,r'⟩
  ·cases e
 ·cases e
end
end L3
namespace HT
open PySem PyProof.Rows
section
variable {prog:Program}{w:World}{A:Around}{E:Value->Shared->Prop}{s:Shared}
theorem eP{t sl:Addr}{items:Array Value}{vl vu:Value}{lo hi:Option Int}{Q:Value->Shared->Prop}(ht:IsTup s.heap t items)(hs:s.heap.IsSliceOf sl vl vu .none)(pl:IsPart vl lo)(pu:IsPart vu hi)
  (hw:sIx items.size 0 lo=0/\sIx items.size items.size hi=items.size) (h:Q (.ref t) s):wpAny (model prog w) A (getItem (.ref t) (.ref sl)) Q E s:=by
 obtain ⟨os,hos,hcs,hds⟩:=id hs;have hTs:s.TypeIs (.ref sl) "slice":=⟨os,hos,hcs⟩;unfold getItem
 try with_reducible refine wpAny_holding ?_
 first|refine wpAny_bind (wpAny_pure ?_)|skip
 refine wpAny_bind (wpAny_sequenceKey ht.typeIs (by decide) ?_)
 refine wpAny_bind (wpAny_callSpecial?_slot (name:=Str.ofString "__getitem__") ht.typeIs PyProof.Rows.slot_tuple_getitem
  (wpAny_call_entry PyProof.Rows.slot_tuple_getitem ht.typeIs entry_tuple_getitem ?_ (args_tuple_getitem _ _)))
 show wpAny _ _ (Builtin.Tuple.tupleItemsOf (.ref t) >>= _) _ _ s;refine wpAny_bind (tupleItemsOf_ ht ?_);refine wpAny_bind (wpAny_typeOf hTs ?_);rw [if_pos (by decide)]
 refine wpAny_bind (c_ hs pl pu ?_);have hyes:((((sIx items.size 0 lo:Nat):Int)==0&&(1:Int)==1&&(sIx items.size items.size hi-sIx items.size 0 lo)==items.size)=true):=by
  rw [hw.1,hw.2];simp
 show wpAny _ _ (if (((sIx items.size 0 lo:Nat):Int)==0&&(1:Int)==1&&(sIx items.size items.size hi-sIx items.size 0 lo)==items.size)=true then _ else _) _ _ s
 rw [if_pos hyes];refine wpAny_bind (m:=Builtin.Tuple.tupleIsExact _) (wpAny_bind (wpAny_typeOf ht.typeIs (wpAny_pure ?_)));rw [if_pos (by decide)]
 first
  |exact wpAny_bind (wpAny_rule (wpAny_bind (wpAny_pure (wpAny_pure ⟨_,rfl,wpAny_pure h⟩))))
  |exact wpAny_bind (wpAny_rule (wpAny_pure ⟨_,rfl,wpAny_pure h⟩))
  |exact wpAny_bind (wpAny_rule (wpAny_bind (wpAny_pure ⟨_,rfl,wpAny_pure h⟩)))
  |trace_state
end
end HT
namespace L3
open PySem L2
section
variable {X:Cx}{B:Bd}{K:W.Frag}{H:Hp}{M:Mem}{a b c:Expr}{ta tb tc:aZ}{pos:Pos}
def aB:dA:=fun x y M Q=>match aT M x,y with
 |some xs,.int i=>match atI xs i with
  |some d=>Q d M
  |none=>False
 |some _,_=>False
 |none,y=>match x,y with
  |.str z,.int i=>z.length<=sizeLine/\match atI z.cps.toList i with
   |some c=>Q (.str ⟨#[c]⟩) M
   |none=>False
  |.ref a,y=>match nh M a y with
   |some (some d)=>Q d M
   |_=>False
  |_,_=>False
theorem Rps.atI{ds:List D}{vs:List V}{i:Int}{d:D}(r:Rps K H ds vs)(e:atI ds i=some d):∃v,L2.atI vs i=some v/\Rp K H d v:=by
 unfold L2.atI at e ⊢;rw [<- r.length];cases q:nP ds.length i with
 |none=>rw [q] at e;cases e
 |some j=>
  rw [q] at e;exact r.get (i:=j) e
theorem AQ(hu:X.A.units+1<cLine):IxR X (fun x y H Q=>∃a v,x=.ref a/\DGet H a y (some v)/\Q v H):=by
 intro value slice pins s σ H x y v u Q I rx ry h hs;obtain ⟨a,w,rfl,g,q⟩:=h;cases rx;exact PyProof.Rows.tail_any (ou I g) PySem.F.slot_dict_getitem.lookup (lH hu I g ry fun w' s3 I3 rw'=>⟨w,H,I3,rw',q⟩) hs
theorem Dg(hu:X.A.units+1<cLine):IxR X (liftR2 X aB):=by
 intro value slice pins s σ H x y v u Q I rx ry h hs;obtain ⟨d1,d2,M,QQ,rh,r1,r2,h,up⟩:=h;unfold aB at h
 split at h
 ·rename_i xs i e
  split at h
  ·rename_i d ed
   cases r2;obtain ⟨p,vs,rfl,hq,r⟩:=iK rh r1 e;obtain ⟨w,ew,rw'⟩:=r.atI ed;refine EL value slice pins s σ H _ _ v u Q I rx ry ?_ hs;have hu':=up _ M h _ H rh Frm.refl rw';rcases hq with hq|hq
   ·exact .inl ⟨p,vs,i,w,rfl,rfl,hq,ew,hu'⟩
   ·exact .inr (.inl ⟨p,vs,i,w,rfl,rfl,hq,ew,hu'⟩)
  ·exact h.elim
 ·exact h.elim
 ·split at h
  ·obtain ⟨hz,h⟩:=h
   split at h
   ·rename_i ch ec
    cases r1;cases r2;exact zd value slice pins s σ H _ _ v u Q I rx ry ⟨_,_,ch,rfl,rfl,hz,ec,up _ M h _ H rh Frm.refl rfl⟩ hs
   ·exact h.elim
  ·split at h
   ·rename_i d ed
    cases r1;rcases m9 rh r2 ed with ⟨z,_⟩|⟨d',w,z,g,rw'⟩
    ·cases z
    ·cases z
     exact AQ hu value slice pins s σ H _ _ v u Q I rx ry ⟨_,w,rfl,g,up _ M h _ H rh Frm.refl rw'⟩ hs
   ·exact h.elim
  ·exact h.elim
abbrev Ct:=Dl->Mem->(Option Int->Mem->Prop)->Prop
inductive liftO(X:Cx)(B:Bd)(T:Ct)(σ:St)(H:Hp)(Q:Option Int->Hp->Prop):Prop
 |mk (δ:Dl) (M:Mem) (QQ:Option Int->Mem->Prop) (s:SR X B δ M σ H) (h:T δ M QQ) (u:∀o M',QQ o M'->∀H',RepH X.K H' M'->Frm M H M' H'->Q o H'):liftO X B T σ H Q
def DO(X:Cx)(B:Bd)(e:Option Expr)(T:Ct):Prop:=PO X e (liftO X B T)
theorem tK{X:Cx}{e:Option Expr}{t t':TO}(h:PO X e t)(w:∀σ H Q,t' σ H Q->t σ H Q):PO X e t':=fun pins s σ H Q I q=>h pins s σ H Q I (w σ H Q q)
def fY:Ct:=fun _ M Q=>Q none M
def jI(t:aZ):Ct:=fun δ M Q=>t δ M fun x M1=>match x with
 |.int i=>Q (some i) M1
 |_=>False
theorem zG:DO X B none fY:=tK Ba fun σ H Q ⟨δ,M,QQ,s,h,u⟩=>u none M h H s.rh Frm.refl
theorem Bc{e:Expr}{te:aZ}(h:DE X B e te):DO X B (some e) (jI te):=by
 refine tK (Av h) ?_
 rintro σ H Q ⟨δ,M,QQ,s,h,u⟩
 refine ⟨δ,M,_,s,h,fun d M' q v H' rh i r=>?_⟩;cases d with
 |int j=>exact ⟨j,r,u _ M' q H' rh i⟩
 |_=>exact (show False from q).elim
def mJ(xs:List D)(lo hi:Option Int):List D:=(xs.drop (HT.sIx xs.length 0 lo)).take (HT.sIx xs.length xs.length hi-HT.sIx xs.length 0 lo)
theorem Rps.cut{ds:List D}{vs:List V}(r:Rps K H ds vs)(lo hi:Option Int):Rps K H (mJ ds lo hi) (iu vs lo hi):=by
 unfold mJ iu;rw [<- r.length];exact (r.drop _).take _
def oSl(x:D)(lo hi:Option Int)(M:Mem)(Q:DK):Prop:=match x with
 |.tup xs=>Q (.tup (mJ xs lo hi)) M
 |.ml xs=>∀p,M p=none->Q (.ref p) (M.upd p (.lst (mJ xs lo hi)))
 |x=>match dk M x with
  |some xs=>∀p,M p=none->Q (.ref p) (M.upd p (.lst (mJ xs lo hi)))
  |none=>False
inductive liftSl(X:Cx)(x:V)(lo hi:Option Int)(H:Hp)(Q:VK):Prop
 |mk (d:D) (M:Mem) (QQ:DK) (rh:RepH X.K H M) (r:Rp X.K H d x) (h:oSl d lo hi M QQ) (u:Up X.K M H QQ Q):liftSl X x lo hi H Q
theorem qQ{vs:List V}{lo hi:Option Int}(h:HT.sIx vs.length 0 lo=0/\HT.sIx vs.length vs.length hi=vs.length):iu vs lo hi=vs:=by
 unfold iu;rw [h.1,h.2];simp
theorem BD:HQ X (fun x lo hi H Q=>∃a xs,x=.ref a/\fE X.K H a xs/\(iu xs lo hi=xs->Q (.ref a) H)/\∀p,H p=none->Q (.ref p) (upd H p (.tup (iu xs lo hi)))):=by
 intro pins s σ H x v vl vu lo hi sl Q I rx hs pl pu h;obtain ⟨a,xs,rfl,hx,q0,q⟩:=h
 by_cases hw:HT.sIx xs.length 0 lo=0/\HT.sIx xs.length xs.length hi=xs.length
 ·cases rx
  obtain ⟨its,r,ht,hz⟩:=I.tuple hx;have hlen:its.toArray.size=xs.length:=by rw [List.size_toArray];exact r.length.symm
  refine ⟨"tuple",_,PyProof.Rows.slot_tuple_getitem.lookup,ht.typeIs,?_⟩;exact HT.eP ht hs pl pu (by rw [hlen];exact hw) ⟨.ref a,H,I,rfl,q0 (qQ hw)⟩
 ·exact Et pins s σ H _ v vl vu lo hi sl Q I rx hs pl pu ⟨a,xs,rfl,hx,hw,q⟩
end
end L3
namespace L3
open PySem L2
section
variable {X:Cx}{B:Bd}{K:W.Frag}{H:Hp}{M:Mem}{e:Expr}{es:List Expr}{te:aZ}{lo hi:Option Expr}{tl th:Ct}{pos p2 p:Pos}{t:dm}
theorem EJ:HQ X (liftSl X):=by
 intro pins s σ H x v vl vu lo hi sl Q I rx hs pl pu h;obtain ⟨d,M,QQ,rh,r,h,up⟩:=h;unfold oSl at h
 split at h
 ·obtain ⟨a,vs,rfl,ht,r⟩:=r
  refine BD pins s σ H _ v vl vu lo hi sl Q I rx hs pl pu ⟨a,vs,rfl,ht.sq,fun e=>?_,fun p hp=>?_⟩
  ·exact up _ M h _ H rh Frm.refl ⟨a,vs,rfl,ht,by rw [<- e];exact r.cut lo hi⟩
  ·exact up _ M h _ _ (rh.new hp) (Frm.new hp) ⟨p,_,rfl,upd_same,(r.cut lo hi).mono (Imm.new hp)⟩
 ·obtain ⟨a,vs,rfl,hq,r⟩:=r
  refine tz pins s σ H _ v vl vu lo hi sl Q I rx hs pl pu ⟨a,vs,rfl,hq.sq,fun p hp=>?_⟩;exact up _ _ (h p (rh.fresh hp)) _ _ (rh.put (by rw [hp];trivial) ⟨_,upd_same,(r.cut lo hi).mono (Imm.new hp)⟩) (Frm.put (.inl hp)) rfl
 ·split at h
  ·rename_i xs e
   obtain ⟨a,vs,rfl,hq,r⟩:=eA rh r e;refine tz pins s σ H _ v vl vu lo hi sl Q I rx hs pl pu ⟨a,vs,rfl,.inl hq,fun p hp=>?_⟩;exact up _ _ (h p (rh.fresh hp)) _ _ (rh.put (by rw [hp];trivial) ⟨_,upd_same,(r.cut lo hi).mono (Imm.new hp)⟩) (Frm.put (.inl hp)) rfl
  ·exact h.elim
def FU(te:aZ)(tl th:Ct):aZ:=fun δ M Q=>te δ M fun x M1=>tl δ M1 fun l M2=>th δ M2 fun u M3=>oSl x l u M3 Q
theorem yO(he:DE X B e te)(hl:DO X B lo tl)(hu:DO X B hi th):DE X B (.Subscript e (.Slice lo hi none p2) pos) (FU te tl th):=by
 refine aI (xf EJ he hl hu) ?_
 rintro σ H Q ⟨δ,M,QQ,s,h,u⟩
 refine ⟨δ,M,_,s,h,fun x M1 h1 v1 H1 rh1 i1 r1=>?_⟩;refine ⟨δ,M1,_,s.go rh1 i1,h1,fun l M2 h2 H2 rh2 i2=>?_⟩;refine ⟨δ,M2,_,s.go rh2 (i1.trans i2),h2,fun w M3 h3 H3 rh3 i3=>?_⟩;exact ⟨x,M3,QQ,rh3,r1.mf rh1 (i2.trans i3),h3,u.go ((i1.trans i2).trans i3)⟩
abbrev qm:=List D->Mem->DK->Prop
inductive liftC(X:Cx)(r:qm)(xs:List V)(H:Hp)(Q:VK):Prop
 |mk (ds:List D) (M:Mem) (QQ:DK) (rh:RepH X.K H M) (rp:Rps X.K H ds xs) (h:r ds M QQ) (u:Up X.K M H QQ Q):liftC X r xs H Q
def bQ(r:qm)(t:dm):aZ:=fun δ M Q=>t δ M fun vs M1=>r vs M1 Q
theorem sF{r:qm}{σ:L2.St}{H:Hp}{Q:VK}(h:liftE X B (bQ r t) σ H Q):tCB (liftC X r) (liftA X B t) σ H Q:=by
 obtain ⟨δ,M,QQ,s,h,u⟩:=h;refine ⟨δ,M,_,s,h,fun ds M1 h1 vs H1 rh1 i1 r1=>?_⟩;exact ⟨ds,M1,QQ,rh1,r1,h1,u.go i1⟩
theorem wL{x:Str}{id:String}{r:qm}(hc:bI X (.builtin id) (liftC X r))(hg:Gl X x)(hm:X.mg x=none)(hv:bootBuiltins x=some (.builtin id))(ha:DA X B (e::es) t)(hn:x≠"__name__":=by decide)(hdb:(x==("__debug__":Str))=false:=by decide)
  (he:starEach (e::es) X.env=(false,eval e X.env)::starEach es X.env:=by rfl) (hpl:(backTo pos (starEach es X.env)).any (·.1)=false:=by rfl):DE X B (.Call (.Name x p) (e::es) [] pos) (bQ r t):=
 aI (wC hc hg hm hv ha hn hdb he hpl) fun _ _ _ h=>sF h
theorem v_{x:Str}{T:String}{r:qm}(hc:bI X (.type T) (liftC X r))(hg:Gl X x)(hm:X.mg x=none)(hv:bootBuiltins x=some (.type T))(ha:DA X B (e::es) t)(hn:x≠"__name__":=by decide)(hdb:(x==("__debug__":Str))=false:=by decide)
  (he:starEach (e::es) X.env=(false,eval e X.env)::starEach es X.env:=by rfl) (hpl:(backTo pos (starEach es X.env)).any (·.1)=false:=by rfl):DE X B (.Call (.Name x p) (e::es) [] pos) (bQ r t):=
 aI (vg hc hg hm hv ha hn hdb he hpl) fun _ _ _ h=>sF h
theorem fw{ds:List D}{vs:List V}{d:D}(r:Rps K H [d] vs):∃v,vs=[v]/\Rp K H d v:=by
 obtain ⟨v,w,rfl,a,b⟩:=r;cases b;exact ⟨v,rfl,a⟩
theorem Df{vs:List V}{d e:D}(r:Rps K H [d,e] vs):∃v w,vs=[v,w]/\Rp K H d v/\Rp K H e w:=by
 obtain ⟨v,w,rfl,a,b⟩:=r;obtain ⟨v',w',rfl,a',b⟩:=b;cases b;exact ⟨v,v',rfl,a,a'⟩
def cV:qm:=fun ds M Q=>match ds with
 |[d]=>match aT M d with
  |some xs=>Q (.int xs.length) M
  |none=>match d with
   |.str z=>z.length<=sizeLine/\Q (.int z.length) M
   |.ref a=>match M a with
    |some (.dK kvs)=>Q (.int kvs.length) M
    |_=>False
   |_=>False
 |_=>False
theorem vm:bI X (.builtin "len") (liftC X cV):=by
 intro pins s σ H xs us Q I r h;obtain ⟨ds,M,QQ,rh,rp,h,up⟩:=h;unfold cV at h
 split at h
 ·obtain ⟨v,rfl,rv⟩:=fw (ds:=[]) rp
  split at h
  ·rename_i ys e
   obtain ⟨q,vs,rfl,hq,rr⟩:=iK rh rv e;exact mI pins s σ H _ us Q I r ⟨q,vs,rfl,hq,by rw [<- rr.length];exact up _ M h _ H rh Frm.refl rfl⟩
  ·split at h
   ·cases rv
    exact mS pins s σ H _ us Q I r ⟨_,rfl,h.1,up _ M h.2 _ H rh Frm.refl rfl⟩
   ·split at h
    ·rename_i kvs e
     cases rv;obtain ⟨ws,h1,h2⟩:=rh _ _ e;exact vR pins s σ H _ us Q I r ⟨_,ws,rfl,h1,by rw [<- h2.length];exact up _ M h _ H rh Frm.refl rfl⟩
    ·exact h.elim
   ·exact h.elim
 ·exact h.elim
def g6:qm:=fun ds M Q=>match ds with
 |[d]=>match aT M d with
  |some xs=>∀p,M p=none->Q (.ref p) (M.upd p (.lst xs))
  |none=>False
 |_=>False
theorem qL:bI X (.type "list") (liftC X g6):=by
 intro pins s σ H xs us Q I r h;obtain ⟨ds,M,QQ,rh,rp,h,up⟩:=h;unfold g6 at h
 split at h
 ·obtain ⟨v,rfl,rv⟩:=fw (ds:=[]) rp
  split at h
  ·rename_i ys e
   obtain ⟨q,vs,rfl,hq,rr⟩:=iK rh rv e;refine nr pins s σ H _ us Q I r ⟨q,vs,rfl,hq,fun p hp=>?_⟩;exact up _ _ (h p (rh.fresh hp)) _ _ (rh.put (by rw [hp];trivial) ⟨_,upd_same,rr.mono (Imm.new hp)⟩) (Frm.put (.inl hp)) rfl
  ·exact h.elim
 ·exact h.elim
def k6:qm:=fun ds M Q=>match ds with
 |[.tup xs]=>Q (.tup xs) M
 |[d]=>match dk M d with
  |some xs=>Q (.tup xs) M
  |none=>False
 |_=>False
theorem oP:bI X (.type "tuple") (liftC X k6):=by
 intro pins s σ H xs us Q I r h;obtain ⟨ds,M,QQ,rh,rp,h,up⟩:=h;unfold k6 at h
 split at h
 ·obtain ⟨v,rfl,rv⟩:=fw (ds:=[]) rp
  obtain ⟨q,vs,rfl,ht,rr⟩:=rv;exact fc pins s σ H _ us Q I r ⟨q,vs,rfl,.inr ⟨ht.sq,up _ M h _ H rh Frm.refl ⟨q,vs,rfl,ht,rr⟩⟩⟩
 ·obtain ⟨v,rfl,rv⟩:=fw (ds:=[]) rp
  split at h
  ·rename_i ys e
   obtain ⟨q,vs,rfl,hq,rr⟩:=eA rh rv e;refine fc pins s σ H _ us Q I r ⟨q,vs,rfl,.inl ⟨.inl hq,fun p hp=>?_⟩⟩;exact up _ M h _ _ (rh.new hp) (Frm.new hp) ⟨p,_,rfl,upd_same,rr.mono (Imm.new hp)⟩
  ·exact h.elim
 ·exact h.elim
def cH(M:Mem):D->Option String
 |.non=>some "NoneType"
 |.bl _=>some "bool"
 |.int _=>some "int"
 |.str _=>some "str"
 |.tup _=>some "tuple"
 |.lst _=>some "list"
 |.ref a=>match M a with
  |some (.lst _)=>some "list"
  |some (.dK _)=>some "dict"
  |some (.dT _)=>some "dict"
  |_=>none
 |_=>none
def bb(t T:String):Bool:=t==T||(t=="bool"&&T=="int")
def k4(T:String):Bool:=T=="bool"||T=="int"||T=="str"||T=="tuple"||T=="list"||T=="dict"
theorem AI:(∀K:W.Frag,∀t∈["NoneType","bool","int","str","tuple","list","dict"],∀T∈["bool","int","str","tuple","list","dict"],W.kitOne K (.type t) (.type T)=some (bb t T)):=by
 intro K t ht T hT;simp only [List.mem_cons,List.not_mem_nil,or_false] at ht hT;rcases ht with rfl|rfl|rfl|rfl|rfl|rfl|rfl<;>rcases hT with rfl|rfl|rfl|rfl|rfl|rfl<;>kernel_rfl
theorem B9{d:D}{v:V}{t:String}(rh:RepH K H M)(r:Rp K H d v)(e:cH M d=some t):TyOf K H v (.type t)/\t∈["NoneType","bool","int","str","tuple","list","dict"]:=by
 cases d with
 |non=>cases r;cases e;exact ⟨.non,by simp⟩
 |bl b=>cases r;cases e;exact ⟨.bl b,by simp⟩
 |int i=>cases r;cases e;exact ⟨.int i,by simp⟩
 |str x=>cases r;cases e;exact ⟨.str x,by simp⟩
 |ty n=>cases e
 |mt n=>cases e
 |ml n=>cases e
 |tup xs=>
  cases e;obtain ⟨q,vs,rfl,ht,rr⟩:=r;exact ⟨.tup ht,by simp⟩
 |lst xs=>
  cases e;obtain ⟨q,vs,rfl,⟨o,ht⟩,rr⟩:=r;exact ⟨.frz ht,by simp⟩
 |ref a=>
  cases r;simp only [cH] at e
  split at e
  ·rename_i q;cases e;obtain ⟨ws,h1,h2⟩:=rh _ _ q;exact ⟨.lst h1,by simp⟩
  ·rename_i q;cases e;obtain ⟨ws,h1,h2⟩:=rh _ _ q;exact ⟨.dK h1,by simp⟩
  ·rename_i q;cases e;obtain ⟨ws,h1,h2⟩:=rh _ _ q;exact ⟨.dT h1,by simp⟩
  ·cases e
def cy:qm:=fun ds M Q=>match ds with
 |[d,.ty T]=>k4 T=true/\match cH M d with
  |some t=>Q (.bl (bb t T)) M
  |none=>False
 |_=>False
theorem mE:bI X (.builtin "isinstance") (liftC X cy):=by
 intro pins s σ H xs us Q I r h;obtain ⟨ds,M,QQ,rh,rp,h,up⟩:=h;unfold cy at h
 split at h
 ·rename_i d T
  obtain ⟨hT,h⟩:=h;obtain ⟨v,w,rfl,rv,rw'⟩:=Df rp;cases rw'
  split at h
  ·rename_i t e
   obtain ⟨ty,ht⟩:=B9 rh rv e;refine p9 pins s σ H _ us Q I r ⟨v,T,.type t,_,rfl,ty,AI X.K t ht T ?_,up _ M h _ H rh Frm.refl rfl⟩;simp only [k4,Bool.or_eq_true,beq_iff_eq] at hT;simp only [List.mem_cons,List.not_mem_nil,or_false];rcases hT with ((((h|h)|h)|h)|h)|h<;>simp [h]
  ·exact h.elim
 ·exact h.elim
def lQ:List D->Option (List Bool)
 |[]=>some []
 |.bl b::ds=>match lQ ds with
  |some bs=>some (b::bs)
  |none=>none
 |_=>none
theorem lj:∀{ds:List D} {vs:List V} {bs:List Bool},Rps K H ds vs->lQ ds=some bs->vs=bs.map V.bl
 |[],vs,bs,r,e=>by cases e;exact r
 |d::ds,vs,bs,r,e=>by
  obtain ⟨v,r',rfl,a,b⟩:=r;cases d with
  |bl c=>
   simp only [lQ] at e
   split at e
   ·rename_i bs' e2
    cases e;cases a;rw [lj b e2];rfl
   ·cases e
  |_=>cases e
def Ev:qm:=fun ds M Q=>match ds with
 |[d]=>match dk M d with
  |some xs=>match lQ xs with
   |some bs=>Q (.bl (bs.all id)) M
   |none=>False
  |none=>False
 |_=>False
theorem wg(hc:X.calm=true):bI X (.builtin "all") (liftC X Ev):=by
 intro pins s σ H xs us Q I r h;obtain ⟨ds,M,QQ,rh,rp,h,up⟩:=h;unfold Ev at h
 split at h
 ·obtain ⟨v,rfl,rv⟩:=fw (ds:=[]) rp
  split at h
  ·rename_i ys e
   split at h
   ·rename_i bs eb
    obtain ⟨q,vs,rfl,hq,rr⟩:=eA rh rv e;have ev:=lj rr eb;subst ev;exact wx hc pins s σ H _ us Q I r ⟨q,bs,rfl,.inl hq,up _ M h _ H rh Frm.refl rfl⟩
   ·exact h.elim
  ·exact h.elim
 ·exact h.elim
end
end L3
namespace L3
open PySem L2
mutual
def aC:D->D->Bool
 |.non,.non=>true
 |.bl a,.bl b=>a==b
 |.bl a,.int b=>(if a then 1 else 0)==b
 |.int a,.bl b=>a==(if b then 1 else 0)
 |.int a,.int b=>decide (a=b)
 |.str a,.str b=>decide (a=b)
 |.tup xs,.tup ys=>d_ xs ys
 |.lst xs,.lst ys=>d_ xs ys
 |_,_=>false
def d_:List D->List D->Bool
 |[],[]=>true
 |x::xs,y::ys=>aC x y&&d_ xs ys
 |_,_=>false
end
mutual
def bo:Nat->D->Bool
 |_,.non=>true
 |_,.bl _=>true
 |_,.int _=>true
 |_,.str _=>true
 |n+1,.tup xs=>bH n xs
 |n+1,.lst xs=>bH n xs
 |_,_=>false
def bH:Nat->List D->Bool
 |_,[]=>true
 |n,x::xs=>bo n x&&bH n xs
end
mutual
def Hr(h:Heap):D->Value->Prop
 |.non,u=>u=.none
 |.bl b,u=>u=.bool b
 |.int i,u=>∃t,u=.int i t
 |.str x,u=>∃t,u=.str x t
 |.tup xs,u=>∃p its,u=.ref p/\h.IsTuple p (List.toArray its)/\Hrs h xs its
 |.lst xs,u=>∃p its,u=.ref p/\h.IsList p (List.toArray its)/\Hrs h xs its
 |_,_=>False
def Hrs(h:Heap):List D->List Value->Prop
 |[],us=>us=[]
 |x::xs,us=>∃u r,us=u::r/\Hr h x u/\Hrs h xs r
end
section
variable {h:Heap}
theorem Hrs.length:∀{ds:List D} {us:List Value},Hrs h ds us->ds.length=us.length
 |[],_,q=>by cases q;rfl
 |_::_,_,q=>by obtain ⟨v,r,rfl,_,b⟩:=q;simp [b.length]
theorem Hrs.get:∀{ds:List D} {us:List Value},Hrs h ds us->∀(i:Nat) (h1:i<ds.length) (h2:i<us.length),Hr h ds[i] us[i]
 |[],_,_,i,h1,_=>absurd h1 (Nat.not_lt_zero _)
 |x::xs,_,q,i,h1,h2=>by
  obtain ⟨v,r,rfl,a,b⟩:=q;cases i with
  |zero=>exact a
  |succ i=>exact b.get i (by simpa using h1) (by simpa using h2)
theorem t7{p:Addr}{a b:Array Value}(x:h.IsTuple p a)(y:h.IsTuple p b):a=b:=by
 obtain ⟨o,h1,_,n,h2⟩:=x;obtain ⟨o',h1',_,n',h2'⟩:=y;rw [h1] at h1';cases h1';rw [h2] at h2'
 injection h2' with e _
theorem sf{p:Addr}{a b:Array Value}(x:h.IsList p a)(y:h.IsList p b):a=b:=by
 obtain ⟨o,h1,_,n,h2⟩:=x;obtain ⟨o',h1',_,n',h2'⟩:=y;rw [h1] at h1';cases h1';rw [h2] at h2'
 injection h2' with e _
theorem GN{p:Addr}{a b:Array Value}(x:h.IsList p a)(y:h.IsTuple p b):False:=by
 obtain ⟨o,h1,c,_⟩:=x;obtain ⟨o',h1',c',_⟩:=y;rw [h1] at h1';cases h1';rw [c] at c'
 injection c' with e
 exact absurd e (by decide)
mutual
theorem yq:∀{d e:D} {u:Value},Hr h d u->Hr h e u->d=e
 |.non,e,u,a,b=>by
  cases a;cases e with
  |non=>rfl
  |bl _=>cases b
  |int _=>obtain ⟨t,q⟩:=b;cases q
  |str _=>obtain ⟨t,q⟩:=b;cases q
  |tup _=>obtain ⟨p,i,q,_⟩:=b;cases q
  |lst _=>obtain ⟨p,i,q,_⟩:=b;cases q
  |_=>exact (show False from b).elim
 |.bl c,e,u,a,b=>by
  cases a;cases e with
  |non=>cases b
  |bl _=>cases b;rfl
  |int _=>obtain ⟨t,q⟩:=b;cases q
  |str _=>obtain ⟨t,q⟩:=b;cases q
  |tup _=>obtain ⟨p,i,q,_⟩:=b;cases q
  |lst _=>obtain ⟨p,i,q,_⟩:=b;cases q
  |_=>exact (show False from b).elim
 |.int c,e,u,a,b=>by
  obtain ⟨t,rfl⟩:=a;cases e with
  |non=>cases b
  |bl _=>cases b
  |int _=>obtain ⟨t,q⟩:=b;cases q;rfl
  |str _=>obtain ⟨t,q⟩:=b;cases q
  |tup _=>obtain ⟨p,i,q,_⟩:=b;cases q
  |lst _=>obtain ⟨p,i,q,_⟩:=b;cases q
  |_=>exact (show False from b).elim
 |.str c,e,u,a,b=>by
  obtain ⟨t,rfl⟩:=a;cases e with
  |non=>cases b
  |bl _=>cases b
  |int _=>obtain ⟨t,q⟩:=b;cases q
  |str _=>obtain ⟨t,q⟩:=b;cases q;rfl
  |tup _=>obtain ⟨p,i,q,_⟩:=b;cases q
  |lst _=>obtain ⟨p,i,q,_⟩:=b;cases q
  |_=>exact (show False from b).elim
 |.tup xs,e,u,a,b=>by
  obtain ⟨p,its,rfl,t1,r1⟩:=a;cases e with
  |non=>cases b
  |bl _=>cases b
  |int _=>obtain ⟨t,q⟩:=b;cases q
  |str _=>obtain ⟨t,q⟩:=b;cases q
  |tup ys=>
   obtain ⟨p',its',q,t2,r2⟩:=b;cases q;have e:=t7 t1 t2;have e':its=its':=by simpa using congrArg Array.toList e
   subst e';rw [gj r1 r2]
  |lst ys=>obtain ⟨p',its',q,t2,r2⟩:=b;cases q;exact (GN t2 t1).elim
  |_=>exact (show False from b).elim
 |.lst xs,e,u,a,b=>by
  obtain ⟨p,its,rfl,t1,r1⟩:=a;cases e with
  |non=>cases b
  |bl _=>cases b
  |int _=>obtain ⟨t,q⟩:=b;cases q
  |str _=>obtain ⟨t,q⟩:=b;cases q
  |lst ys=>
   obtain ⟨p',its',q,t2,r2⟩:=b;cases q;have e:=sf t1 t2;have e':its=its':=by simpa using congrArg Array.toList e
   subst e';rw [gj r1 r2]
  |tup ys=>obtain ⟨p',its',q,t2,r2⟩:=b;cases q;exact (GN t1 t2).elim
  |_=>exact (show False from b).elim
 |.ty _,_,_,a,_=>(show False from a).elim
 |.ref _,_,_,a,_=>(show False from a).elim
 |.mt _,_,_,a,_=>(show False from a).elim
 |.ml _,_,_,a,_=>(show False from a).elim
theorem gj:∀{ds es:List D} {us:List Value},Hrs h ds us->Hrs h es us->ds=es
 |[],es,us,a,b=>by
  cases a;cases es with
  |nil=>rfl
  |cons _ _=>obtain ⟨v,r,q,_⟩:=b;cases q
 |d::ds,es,us,a,b=>by
  obtain ⟨v,r,rfl,a1,a2⟩:=a;cases es with
  |nil=>cases b
  |cons e es=>
   obtain ⟨v',r',q,b1,b2⟩:=b;cases q;rw [yq a1 b1,gj a2 b2]
end
mutual
theorem yj:∀{n:Nat} {d:D},bo n d=true->aC d d=true
 |_,.non,_=>by simp [aC]
 |_,.bl _,_=>by simp [aC]
 |_,.int _,_=>by simp [aC]
 |_,.str _,_=>by simp [aC]
 |0,.tup _,f=>by simp [bo] at f
 |0,.lst _,f=>by simp [bo] at f
 |n+1,.tup xs,f=>by rw [aC];exact dh (n:=n) f
 |n+1,.lst xs,f=>by rw [aC];exact dh (n:=n) f
 |_,.ty _,f=>by simp [bo] at f
 |_,.ref _,f=>by simp [bo] at f
 |_,.mt _,f=>by simp [bo] at f
 |_,.ml _,f=>by simp [bo] at f
theorem dh:∀{n:Nat} {ds:List D},bH n ds=true->d_ ds ds=true
 |_,[],_=>by simp [d_]
 |n,x::xs,f=>by
  rw [bH,Bool.and_eq_true] at f;rw [d_,yj f.1,dh f.2];rfl
end
theorem cI:∀{xs ys:List D},xs.length≠ys.length->d_ xs ys=false
 |[],[],h=>absurd rfl h
 |[],_::_,_=>by simp [d_]
 |_::_,[],_=>by simp [d_]
 |x::xs,y::ys,h=>by rw [d_,cI (by simpa using h),Bool.and_false]
theorem fP:∀(xs ys:List D) (f:Nat->Bool),xs.length=ys.length->(∀j (h1:j<xs.length) (h2:j<ys.length),f j=aC xs[j] ys[j])->(List.range xs.length).all f=d_ xs ys
 |[],[],f,_,_=>by simp [d_]
 |[],_::_,_,h,_=>by simp at h
 |_::_,[],_,h,_=>by simp at h
 |x::xs,y::ys,f,h,hf=>by
  have h0:=hf 0 (by simp) (by simp)
  have ht:=fP xs ys (fun j=>f (j+1)) (by simpa using h) (fun j h1 h2=>hf (j+1) (by simpa using h1) (by simpa using h2))
  rw [List.length_cons,List.range_succ_eq_map,List.all_cons,List.all_map,d_,<- ht];simp only [List.getElem_cons_zero] at h0;rw [h0];rfl
theorem cB:∀{n:Nat} {xs:List D},bH n xs=true->∀(j:Nat) (h1:j<xs.length),bo n xs[j]=true
 |_,[],_,j,h1=>absurd h1 (Nat.not_lt_zero _)
 |n,x::xs,f,j,h1=>by
  rw [bH,Bool.and_eq_true] at f;cases j with
  |zero=>exact f.1
  |succ j=>exact cB f.2 j (by simpa using h1)
def kd:D->Option V
 |.non=>some .non
 |.bl b=>some (.bl b)
 |.int i=>some (.int i)
 |.str x=>some (.str x)
 |_=>none
theorem j7{d:D}{v:V}{u:Value}(e:kd d=some v)(r:Hr h d u):RelV v u/\wO v=true:=by
 cases d with
 |non=>cases e;exact ⟨r,rfl⟩
 |bl b=>cases e;exact ⟨r,rfl⟩
 |int b=>cases e;exact ⟨r,rfl⟩
 |str b=>cases e;exact ⟨r,rfl⟩
 |_=>cases e
theorem oo{d e:D}{v w:V}(h1:kd d=some v)(h2:kd e=some w):nR v w=aC d e:=by
 cases d with
 |non=>cases h1;cases e with|non=>cases h2;simp [nR,aC]|bl b=>cases h2;simp [nR,aC]|int b=>cases h2;simp [nR,aC]|str b=>cases h2;simp [nR,aC]|_=>cases h2
 |bl a=>cases h1;cases e with|non=>cases h2;simp [nR,aC]|bl b=>cases h2;simp [nR,aC]|int b=>cases h2;simp [nR,aC]|str b=>cases h2;simp [nR,aC]|_=>cases h2
 |int a=>cases h1;cases e with|non=>cases h2;simp [nR,aC]|bl b=>cases h2;simp [nR,aC]|int b=>cases h2;simp [nR,aC];rfl|str b=>cases h2;simp [nR,aC]|_=>cases h2
 |str a=>cases h1;cases e with|non=>cases h2;simp [nR,aC]|bl b=>cases h2;simp [nR,aC]|int b=>cases h2;simp [nR,aC]|str b=>cases h2;simp [nR,aC];rfl|_=>cases h2
 |_=>cases h1
end
theorem Ca:∀(n:Nat) {A:Around} {s:Shared} {d e:D} {u w:Value},Hr s.heap d u->Hr s.heap e w->bo n d=true->bo n e=true->A.units+n<cLine->SeqAt.EqAt A s u w (aC d e):=by
 intro n
 induction n with
 |zero=>
  intro A s d e u w rd re fd fe hu;have f1:∃v,kd d=some v:=by cases d<;>first|exact ⟨_,rfl⟩|(simp [bo] at fd)
  have f2:∃v,kd e=some v:=by cases e<;>first|exact ⟨_,rfl⟩|(simp [bo] at fe)
  obtain ⟨v1,e1⟩:=f1;obtain ⟨v2,e2⟩:=f2;obtain ⟨a1,b1⟩:=j7 e1 rd;obtain ⟨a2,b2⟩:=j7 e2 re;rw [<- oo e1 e2];exact w_ a1 a2 b1 b2
 |succ n ih=>
  intro A s d e u w rd re fd fe hu;have hu0:A.units<cLine:=by lia
  have hu1:A.in1.units+n<cLine:=by show A.units+1+n<cLine;lia
  by_cases f1:∃v,kd d=some v
  ·obtain ⟨v1,e1⟩:=f1
   obtain ⟨a1,b1⟩:=j7 e1 rd
   by_cases f2:∃v,kd e=some v
   ·obtain ⟨v2,e2⟩:=f2
    obtain ⟨a2,b2⟩:=j7 e2 re;rw [<- oo e1 e2];exact w_ a1 a2 b1 b2
   ·cases e with
    |tup ys=>
     obtain ⟨p,its,rfl,t,_⟩:=re;cases d with
     |non=>cases rd;simp only [aC];exact .none_tuple t hu0
     |bl b=>cases rd;simp only [aC];exact .bool_tuple b t hu0
     |int b=>obtain ⟨tk,rfl⟩:=rd;simp only [aC];exact .int_tuple b tk t hu0
     |str b=>obtain ⟨tk,rfl⟩:=rd;simp only [aC];exact .str_tuple b tk t hu0
     |_=>cases e1
    |lst ys=>
     obtain ⟨p,its,rfl,t,_⟩:=re;cases d with
     |non=>cases rd;simp only [aC];exact .none_list t hu0
     |bl b=>cases rd;simp only [aC];exact .bool_list b t hu0
     |int b=>obtain ⟨tk,rfl⟩:=rd;simp only [aC];exact .int_list b tk t hu0
     |str b=>obtain ⟨tk,rfl⟩:=rd;simp only [aC];exact .str_list b tk t hu0
     |_=>cases e1
    |ty _=>exact (show False from re).elim
    |ref _=>exact (show False from re).elim
    |mt _=>exact (show False from re).elim
    |ml _=>exact (show False from re).elim
    |_=>exact absurd ⟨_,rfl⟩ f2
  ·cases d with
   |tup xs=>
    obtain ⟨p,its,rfl,t1,r1⟩:=rd;cases e with
    |non=>cases re;simp only [aC];exact .tuple_none t1 hu0
    |bl b=>cases re;simp only [aC];exact .tuple_bool b t1 hu0
    |int b=>obtain ⟨tk,rfl⟩:=re;simp only [aC];exact .tuple_int b tk t1 hu0
    |str b=>obtain ⟨tk,rfl⟩:=re;simp only [aC];exact .tuple_str b tk t1 hu0
    |tup ys=>
     obtain ⟨p',its',rfl,t2,r2⟩:=re;rw [aC]
     by_cases hp:p=p'
     ·subst hp
      have e':its=its':=by simpa using congrArg Array.toList (t7 t1 t2)
      subst e';rw [gj r1 r2,dh (n:=n) fe];exact .same _
     ·refine .of_refs hp ?_
      have l1:=r1.length;have l2:=r2.length;have key:∀j (h1:j<its.toArray.size) (h2:j<its'.toArray.size),SeqAt.EqAt A.in1 s its.toArray[j] its'.toArray[j] (match xs[j]?,ys[j]? with|some x,some y=>aC x y|_,_=>false):=fun j h1 h2=>by
       have h1':j<xs.length:=by rw [l1];simpa using h1
       have h2':j<ys.length:=by rw [l2];simpa using h2
       rw [List.getElem?_eq_getElem h1',List.getElem?_eq_getElem h2'];exact ih (r1.get j h1' (by simpa using h1)) (r2.get j h2' (by simpa using h2)) (cB fd j h1') (cB fe j h2') hu1
      have:=SeqAt.RcAt.tuples (e:=fun j=>match xs[j]?,ys[j]? with|some x,some y=>aC x y|_,_=>false) t1 t2 hu0 key
      by_cases hl:xs.length=ys.length
      ·have hsz:its.toArray.size=its'.toArray.size:=by simp;lia
       rw [hsz] at this;simp only [Nat.min_self,beq_self_eq_true,Bool.and_true] at this;have hxs:its'.toArray.size=xs.length:=by simp;lia
       rw [hxs,fP xs ys _ hl (fun j h1 h2=>by rw [List.getElem?_eq_getElem h1,List.getElem?_eq_getElem h2])] at this
       exact this
      ·have hsz:(its.toArray.size==its'.toArray.size)=false:=by simp;lia
       rw [hsz,Bool.and_false] at this;rw [cI hl];exact this
    |lst ys=>obtain ⟨p',its',rfl,t2,r2⟩:=re;simp only [aC];exact .tuple_list t1 t2 hu0
    |_=>exact (show False from re).elim
   |lst xs=>
    obtain ⟨p,its,rfl,t1,r1⟩:=rd;cases e with
    |non=>cases re;simp only [aC];exact .list_none t1 hu0
    |bl b=>cases re;simp only [aC];exact .list_bool b t1 hu0
    |int b=>obtain ⟨tk,rfl⟩:=re;simp only [aC];exact .list_int b tk t1 hu0
    |str b=>obtain ⟨tk,rfl⟩:=re;simp only [aC];exact .list_str b tk t1 hu0
    |lst ys=>
     obtain ⟨p',its',rfl,t2,r2⟩:=re;rw [aC]
     by_cases hp:p=p'
     ·subst hp
      have e':its=its':=by simpa using congrArg Array.toList (sf t1 t2)
      subst e';rw [gj r1 r2,dh (n:=n) fe];exact .same _
     ·refine .of_refs hp ?_
      have l1:=r1.length;have l2:=r2.length
      by_cases hl:xs.length=ys.length
      ·have key:∀j (h1:j<its.toArray.size) (h2:j<its'.toArray.size),SeqAt.EqAt A.in1 s its.toArray[j] its'.toArray[j] (match xs[j]?,ys[j]? with|some x,some y=>aC x y|_,_=>false):=fun j h1 h2=>by
        have h1':j<xs.length:=by rw [l1];simpa using h1
        have h2':j<ys.length:=by rw [l2];simpa using h2
        rw [List.getElem?_eq_getElem h1',List.getElem?_eq_getElem h2'];exact ih (r1.get j h1' (by simpa using h1)) (r2.get j h2' (by simpa using h2)) (cB fd j h1') (cB fe j h2') hu1
       have:=SeqAt.RcAt.lists (e:=fun j=>match xs[j]?,ys[j]? with|some x,some y=>aC x y|_,_=>false) t1 t2 (by simp;lia) hu0 key
       have hxs:its.toArray.size=xs.length:=by simp;lia
       rw [hxs,fP xs ys _ hl (fun j h1 h2=>by rw [List.getElem?_eq_getElem h1,List.getElem?_eq_getElem h2])] at this
       exact this
      ·rw [cI hl]
       exact SeqAt.RcAt.lists_lengths t1 t2 (by simp;lia) hu0
    |tup ys=>obtain ⟨p',its',rfl,t2,r2⟩:=re;simp only [aC];exact .list_tuple t1 t2 hu0
    |_=>exact (show False from re).elim
   |ty _=>exact (show False from rd).elim
   |ref _=>exact (show False from rd).elim
   |mt _=>exact (show False from rd).elim
   |ml _=>exact (show False from rd).elim
   |_=>exact absurd ⟨_,rfl⟩ f1
end L3
namespace L3
open PySem L2
theorem iS{n:Nat}{A:Around}{s:Shared}{xs ys:List D}{its its':List Value}(r1:Hrs s.heap xs its)(r2:Hrs s.heap ys its')(fd:bH n xs=true)(fe:bH n ys=true)(hu:A.units+n<cLine):
  ∀j (h1:j<its.toArray.size) (h2:j<its'.toArray.size),SeqAt.EqAt A s its.toArray[j] its'.toArray[j] (match xs[j]?,ys[j]? with|some x,some y=>aC x y|_,_=>false):=fun j h1 h2=>by
 have h1':j<xs.length:=by rw [r1.length];simpa using h1
 have h2':j<ys.length:=by rw [r2.length];simpa using h2
 rw [List.getElem?_eq_getElem h1',List.getElem?_eq_getElem h2'];exact Ca n (r1.get j h1' (by simpa using h1)) (r2.get j h2' (by simpa using h2)) (cB fd j h1') (cB fe j h2') hu
theorem iZ{xs ys:List D}(hl:xs.length=ys.length):(List.range xs.length).all (fun j=>match xs[j]?,ys[j]? with|some x,some y=>aC x y|_,_=>false)=d_ xs ys:=
 fP xs ys _ hl (fun j h1 h2=>by rw [List.getElem?_eq_getElem h1,List.getElem?_eq_getElem h2])
theorem EM{n:Nat}{A:Around}{s:Shared}{xs ys:List D}{p p':Addr}{its its':List Value}(t1:s.heap.IsTuple p its.toArray)(t2:s.heap.IsTuple p' its'.toArray)(r1:Hrs s.heap xs its)(r2:Hrs s.heap ys its')(fd:bo n (.tup xs)=true)(fe:bo n (.tup ys)=true)(hu:A.units+n<cLine):
  SeqAt.RcAt A s (.ref p) (.ref p') (aC (.tup xs) (.tup ys)):=by
 cases n with
 |zero=>simp [bo] at fd
 |succ n=>
  have l1:=r1.length;have l2:=r2.length;have:=SeqAt.RcAt.tuples (A:=A) t1 t2 (by lia) (iS (n:=n) r1 r2 fd fe (by show A.units+1+n<cLine;lia))
  rw [aC]
  by_cases hl:xs.length=ys.length
  ·have hsz:its.toArray.size=its'.toArray.size:=by simp;lia
   rw [hsz] at this;simp only [Nat.min_self,beq_self_eq_true,Bool.and_true] at this;have hxs:its'.toArray.size=xs.length:=by simp;lia
   rw [hxs,iZ hl] at this;exact this
  ·have hsz:(its.toArray.size==its'.toArray.size)=false:=by simp;lia
   rw [hsz,Bool.and_false] at this;rw [cI hl];exact this
theorem FL{n:Nat}{A:Around}{s:Shared}{xs ys:List D}{p p':Addr}{its its':List Value}(t1:s.heap.IsList p its.toArray)(t2:s.heap.IsList p' its'.toArray)(r1:Hrs s.heap xs its)(r2:Hrs s.heap ys its')(fd:bo n (.lst xs)=true)(fe:bo n (.lst ys)=true)(hu:A.units+n<cLine):
  SeqAt.RcAt A s (.ref p) (.ref p') (aC (.lst xs) (.lst ys)):=by
 cases n with
 |zero=>simp [bo] at fd
 |succ n=>
  have l1:=r1.length;have l2:=r2.length;rw [aC]
  by_cases hl:xs.length=ys.length
  ·have:=SeqAt.RcAt.lists (A:=A) t1 t2 (by simp;lia) (by lia) (iS (n:=n) r1 r2 fd fe (by show A.units+1+n<cLine;lia))
   have hxs:its.toArray.size=xs.length:=by simp;lia
   rw [hxs,iZ hl] at this;exact this
  ·rw [cI hl]
   exact SeqAt.RcAt.lists_lengths t1 t2 (by simp;lia) (by lia)
theorem x6{n:Nat}{A:Around}{s:Shared}{xs ys:List D}{p p':Addr}{its its':List Value}(t1:s.heap.IsTuple p its.toArray)(t2:s.heap.IsTuple p' its'.toArray)(r1:Hrs s.heap xs its)(r2:Hrs s.heap ys its')(fd:bo n (.tup xs)=true)(fe:bo n (.tup ys)=true)(hu:A.units+n<cLine):
  SeqAt.RcNeAt A s (.ref p) (.ref p') (!aC (.tup xs) (.tup ys)):=by
 cases n with
 |zero=>simp [bo] at fd
 |succ n=>
  have l1:=r1.length;have l2:=r2.length;have:=SeqAt.RcNeAt.tuples (A:=A) t1 t2 (by lia) (iS (n:=n) r1 r2 fd fe (by show A.units+1+n<cLine;lia))
  rw [aC]
  by_cases hl:xs.length=ys.length
  ·have hsz:its.toArray.size=its'.toArray.size:=by simp;lia
   rw [hsz] at this;simp only [Nat.min_self,beq_self_eq_true,Bool.and_true] at this;have hxs:its'.toArray.size=xs.length:=by simp;lia
   rw [hxs,iZ hl] at this;exact this
  ·have hsz:(its.toArray.size==its'.toArray.size)=false:=by simp;lia
   rw [hsz,Bool.and_false] at this;rw [cI hl];exact this
theorem yV{n:Nat}{A:Around}{s:Shared}{xs ys:List D}{p p':Addr}{its its':List Value}(t1:s.heap.IsList p its.toArray)(t2:s.heap.IsList p' its'.toArray)(r1:Hrs s.heap xs its)(r2:Hrs s.heap ys its')(fd:bo n (.lst xs)=true)(fe:bo n (.lst ys)=true)(hu:A.units+n<cLine):
  SeqAt.RcNeAt A s (.ref p) (.ref p') (!aC (.lst xs) (.lst ys)):=by
 cases n with
 |zero=>simp [bo] at fd
 |succ n=>
  have l1:=r1.length;have l2:=r2.length;rw [aC]
  by_cases hl:xs.length=ys.length
  ·have:=SeqAt.RcNeAt.lists (A:=A) t1 t2 (by simp;lia) (by lia) (iS (n:=n) r1 r2 fd fe (by show A.units+1+n<cLine;lia))
   have hxs:its.toArray.size=xs.length:=by simp;lia
   rw [hxs,iZ hl] at this;exact this
  ·rw [cI hl]
   exact SeqAt.RcNeAt.lists_lengths t1 t2 (by simp;lia) (by lia)
theorem Hw{n:Nat}{A:Around}{s:Shared}{d e:D}{u w:Value}(rd:Hr s.heap d u)(re:Hr s.heap e w)(fd:bo n d=true)(fe:bo n e=true)(hu:A.units+n<cLine):SeqAt.RcAt A s u w (aC d e):=by
 have hu0:A.units<cLine:=by lia
 cases d with
 |non=>
  cases rd;cases e with
  |non=>
   cases re;simpa [aC,Bool.beq_eq_decide_eq] using SeqAt.RcAt.none_none
  |bl y=>
   cases re;simpa [aC] using SeqAt.RcAt.none_bool y
  |int y=>
   obtain ⟨tky,rfl⟩:=re;simpa [aC] using SeqAt.RcAt.none_int y tky
  |str y=>
   obtain ⟨tky,rfl⟩:=re;simpa [aC] using SeqAt.RcAt.none_str y tky
  |tup y=>
   obtain ⟨py,itsy,rfl,ty,ry⟩:=re;simpa [aC] using SeqAt.RcAt.none_tuple ty hu0
  |lst y=>
   obtain ⟨py,itsy,rfl,ty,ry⟩:=re;simpa [aC] using SeqAt.RcAt.none_list ty hu0
  |_=>exact (show False from re).elim
 |bl x=>
  cases rd;cases e with
  |non=>
   cases re;simpa [aC] using SeqAt.RcAt.bool_none x
  |bl y=>
   cases re;simpa [aC,Bool.beq_eq_decide_eq] using SeqAt.RcAt.bool_bool x y
  |int y=>
   obtain ⟨tky,rfl⟩:=re;simpa [aC,Bool.beq_eq_decide_eq] using SeqAt.RcAt.bool_int x y tky
  |str y=>
   obtain ⟨tky,rfl⟩:=re;simpa [aC] using SeqAt.RcAt.bool_str x y tky
  |tup y=>
   obtain ⟨py,itsy,rfl,ty,ry⟩:=re;simpa [aC] using SeqAt.RcAt.bool_tuple x ty hu0
  |lst y=>
   obtain ⟨py,itsy,rfl,ty,ry⟩:=re;simpa [aC] using SeqAt.RcAt.bool_list x ty hu0
  |_=>exact (show False from re).elim
 |int x=>
  obtain ⟨tkx,rfl⟩:=rd;cases e with
  |non=>
   cases re;simpa [aC] using SeqAt.RcAt.int_none x tkx
  |bl y=>
   cases re;simpa [aC,Bool.beq_eq_decide_eq] using SeqAt.RcAt.int_bool x tkx y
  |int y=>
   obtain ⟨tky,rfl⟩:=re;simpa [aC,Bool.beq_eq_decide_eq] using SeqAt.RcAt.int_int x tkx y tky
  |str y=>
   obtain ⟨tky,rfl⟩:=re;simpa [aC] using SeqAt.RcAt.int_str x tkx y tky
  |tup y=>
   obtain ⟨py,itsy,rfl,ty,ry⟩:=re;simpa [aC] using SeqAt.RcAt.int_tuple x tkx ty hu0
  |lst y=>
   obtain ⟨py,itsy,rfl,ty,ry⟩:=re;simpa [aC] using SeqAt.RcAt.int_list x tkx ty hu0
  |_=>exact (show False from re).elim
 |str x=>
  obtain ⟨tkx,rfl⟩:=rd;cases e with
  |non=>
   cases re;simpa [aC] using SeqAt.RcAt.str_none x tkx
  |bl y=>
   cases re;simpa [aC] using SeqAt.RcAt.str_bool x tkx y
  |int y=>
   obtain ⟨tky,rfl⟩:=re;simpa [aC] using SeqAt.RcAt.str_int x tkx y tky
  |str y=>
   obtain ⟨tky,rfl⟩:=re;simpa [aC,Bool.beq_eq_decide_eq] using SeqAt.RcAt.str_str x tkx y tky
  |tup y=>
   obtain ⟨py,itsy,rfl,ty,ry⟩:=re;simpa [aC] using SeqAt.RcAt.str_tuple x tkx ty hu0
  |lst y=>
   obtain ⟨py,itsy,rfl,ty,ry⟩:=re;simpa [aC] using SeqAt.RcAt.str_list x tkx ty hu0
  |_=>exact (show False from re).elim
 |tup x=>
  obtain ⟨px,itsx,rfl,tx,rx⟩:=rd;cases e with
  |non=>
   cases re;simpa [aC] using SeqAt.RcAt.tuple_none tx hu0
  |bl y=>
   cases re;simpa [aC] using SeqAt.RcAt.tuple_bool y tx hu0
  |int y=>
   obtain ⟨tky,rfl⟩:=re;simpa [aC] using SeqAt.RcAt.tuple_int y tky tx hu0
  |str y=>
   obtain ⟨tky,rfl⟩:=re;simpa [aC] using SeqAt.RcAt.tuple_str y tky tx hu0
  |tup y=>
   obtain ⟨py,itsy,rfl,ty,ry⟩:=re;exact EM tx ty rx ry fd fe hu
  |lst y=>
   obtain ⟨py,itsy,rfl,ty,ry⟩:=re;simpa [aC] using SeqAt.RcAt.tuple_list tx ty hu0
  |_=>exact (show False from re).elim
 |lst x=>
  obtain ⟨px,itsx,rfl,tx,rx⟩:=rd;cases e with
  |non=>
   cases re;simpa [aC] using SeqAt.RcAt.list_none tx hu0
  |bl y=>
   cases re;simpa [aC] using SeqAt.RcAt.list_bool y tx hu0
  |int y=>
   obtain ⟨tky,rfl⟩:=re;simpa [aC] using SeqAt.RcAt.list_int y tky tx hu0
  |str y=>
   obtain ⟨tky,rfl⟩:=re;simpa [aC] using SeqAt.RcAt.list_str y tky tx hu0
  |tup y=>
   obtain ⟨py,itsy,rfl,ty,ry⟩:=re;simpa [aC] using SeqAt.RcAt.list_tuple tx ty hu0
  |lst y=>
   obtain ⟨py,itsy,rfl,ty,ry⟩:=re;exact FL tx ty rx ry fd fe hu
  |_=>exact (show False from re).elim
 |_=>exact (show False from rd).elim
theorem AG{n:Nat}{A:Around}{s:Shared}{d e:D}{u w:Value}(rd:Hr s.heap d u)(re:Hr s.heap e w)(fd:bo n d=true)(fe:bo n e=true)(hu:A.units+n<cLine):SeqAt.RcNeAt A s u w (!aC d e):=by
 have hu0:A.units<cLine:=by lia
 cases d with
 |non=>
  cases rd;cases e with
  |non=>
   cases re;simpa [aC,Bool.beq_eq_decide_eq] using SeqAt.RcNeAt.none_none
  |bl y=>
   cases re;simpa [aC] using SeqAt.RcNeAt.none_bool y
  |int y=>
   obtain ⟨tky,rfl⟩:=re;simpa [aC] using SeqAt.RcNeAt.none_int y tky
  |str y=>
   obtain ⟨tky,rfl⟩:=re;simpa [aC] using SeqAt.RcNeAt.none_str y tky
  |tup y=>
   obtain ⟨py,itsy,rfl,ty,ry⟩:=re;simpa [aC] using SeqAt.RcNeAt.none_tuple ty hu0
  |lst y=>
   obtain ⟨py,itsy,rfl,ty,ry⟩:=re;simpa [aC] using SeqAt.RcNeAt.none_list ty hu0
  |_=>exact (show False from re).elim
 |bl x=>
  cases rd;cases e with
  |non=>
   cases re;simpa [aC] using SeqAt.RcNeAt.bool_none x
  |bl y=>
   cases re;simpa [aC,Bool.beq_eq_decide_eq] using SeqAt.RcNeAt.bool_bool x y
  |int y=>
   obtain ⟨tky,rfl⟩:=re;simpa [aC,Bool.beq_eq_decide_eq] using SeqAt.RcNeAt.bool_int x y tky
  |str y=>
   obtain ⟨tky,rfl⟩:=re;simpa [aC] using SeqAt.RcNeAt.bool_str x y tky
  |tup y=>
   obtain ⟨py,itsy,rfl,ty,ry⟩:=re;simpa [aC] using SeqAt.RcNeAt.bool_tuple x ty hu0
  |lst y=>
   obtain ⟨py,itsy,rfl,ty,ry⟩:=re;simpa [aC] using SeqAt.RcNeAt.bool_list x ty hu0
  |_=>exact (show False from re).elim
 |int x=>
  obtain ⟨tkx,rfl⟩:=rd;cases e with
  |non=>
   cases re;simpa [aC] using SeqAt.RcNeAt.int_none x tkx
  |bl y=>
   cases re;simpa [aC,Bool.beq_eq_decide_eq] using SeqAt.RcNeAt.int_bool x tkx y
  |int y=>
   obtain ⟨tky,rfl⟩:=re;simpa [aC,Bool.beq_eq_decide_eq] using SeqAt.RcNeAt.int_int x tkx y tky
  |str y=>
   obtain ⟨tky,rfl⟩:=re;simpa [aC] using SeqAt.RcNeAt.int_str x tkx y tky
  |tup y=>
   obtain ⟨py,itsy,rfl,ty,ry⟩:=re;simpa [aC] using SeqAt.RcNeAt.int_tuple x tkx ty hu0
  |lst y=>
   obtain ⟨py,itsy,rfl,ty,ry⟩:=re;simpa [aC] using SeqAt.RcNeAt.int_list x tkx ty hu0
  |_=>exact (show False from re).elim
 |str x=>
  obtain ⟨tkx,rfl⟩:=rd;cases e with
  |non=>
   cases re;simpa [aC] using SeqAt.RcNeAt.str_none x tkx
  |bl y=>
   cases re;simpa [aC] using SeqAt.RcNeAt.str_bool x tkx y
  |int y=>
   obtain ⟨tky,rfl⟩:=re;simpa [aC] using SeqAt.RcNeAt.str_int x tkx y tky
  |str y=>
   obtain ⟨tky,rfl⟩:=re;simpa [aC,Bool.beq_eq_decide_eq] using SeqAt.RcNeAt.str_str x tkx y tky
  |tup y=>
   obtain ⟨py,itsy,rfl,ty,ry⟩:=re;simpa [aC] using SeqAt.RcNeAt.str_tuple x tkx ty hu0
  |lst y=>
   obtain ⟨py,itsy,rfl,ty,ry⟩:=re;simpa [aC] using SeqAt.RcNeAt.str_list x tkx ty hu0
  |_=>exact (show False from re).elim
 |tup x=>
  obtain ⟨px,itsx,rfl,tx,rx⟩:=rd;cases e with
  |non=>
   cases re;simpa [aC] using SeqAt.RcNeAt.tuple_none tx hu0
  |bl y=>
   cases re;simpa [aC] using SeqAt.RcNeAt.tuple_bool y tx hu0
  |int y=>
   obtain ⟨tky,rfl⟩:=re;simpa [aC] using SeqAt.RcNeAt.tuple_int y tky tx hu0
  |str y=>
   obtain ⟨tky,rfl⟩:=re;simpa [aC] using SeqAt.RcNeAt.tuple_str y tky tx hu0
  |tup y=>
   obtain ⟨py,itsy,rfl,ty,ry⟩:=re;exact x6 tx ty rx ry fd fe hu
  |lst y=>
   obtain ⟨py,itsy,rfl,ty,ry⟩:=re;simpa [aC] using SeqAt.RcNeAt.tuple_list tx ty hu0
  |_=>exact (show False from re).elim
 |lst x=>
  obtain ⟨px,itsx,rfl,tx,rx⟩:=rd;cases e with
  |non=>
   cases re;simpa [aC] using SeqAt.RcNeAt.list_none tx hu0
  |bl y=>
   cases re;simpa [aC] using SeqAt.RcNeAt.list_bool y tx hu0
  |int y=>
   obtain ⟨tky,rfl⟩:=re;simpa [aC] using SeqAt.RcNeAt.list_int y tky tx hu0
  |str y=>
   obtain ⟨tky,rfl⟩:=re;simpa [aC] using SeqAt.RcNeAt.list_str y tky tx hu0
  |tup y=>
   obtain ⟨py,itsy,rfl,ty,ry⟩:=re;simpa [aC] using SeqAt.RcNeAt.list_tuple tx ty hu0
  |lst y=>
   obtain ⟨py,itsy,rfl,ty,ry⟩:=re;exact yV tx ty rx ry fd fe hu
  |_=>exact (show False from re).elim
 |_=>exact (show False from rd).elim
section
variable {X:Cx}{B:Bd}{pins:List (Addr×Obj)}{σ:L2.St}{H:Hp}{s:Shared}{M:Mem}
mutual
theorem B_(I:Inv X pins σ H s):∀{n:Nat} {d:D} {v:V} {u:Value},bo n d=true->Rp X.K H d v->RelV v u->Hr s.heap d u
 |_,.non,v,u,_,r,q=>by cases r;exact q
 |_,.bl _,v,u,_,r,q=>by cases r;exact q
 |_,.int _,v,u,_,r,q=>by cases r;exact q
 |_,.str _,v,u,_,r,q=>by cases r;exact q
 |n+1,.tup xs,v,u,f,r,q=>by
  obtain ⟨p,vs,rfl,t,r⟩:=r;cases q;obtain ⟨its,rv,ht,_⟩:=I.tuple t.sq;exact ⟨p,its,rfl,ht,gR I (n:=n) f r rv⟩
 |n+1,.lst xs,v,u,f,r,q=>by
  obtain ⟨p,vs,rfl,t,r⟩:=r;cases q;obtain ⟨its,rv,ht,_⟩:=I.list t.sq;exact ⟨p,its,rfl,ht.isList,gR I (n:=n) f r rv⟩
 |0,.tup _,_,_,f,_,_=>by simp [bo] at f
 |0,.lst _,_,_,f,_,_=>by simp [bo] at f
 |_,.ty _,_,_,f,_,_=>by simp [bo] at f
 |_,.ref _,_,_,f,_,_=>by simp [bo] at f
 |_,.mt _,_,_,f,_,_=>by simp [bo] at f
 |_,.ml _,_,_,f,_,_=>by simp [bo] at f
theorem gR(I:Inv X pins σ H s):∀{n:Nat} {ds:List D} {vs:List V} {us:List Value},bH n ds=true->Rps X.K H ds vs->Vals vs us->Hrs s.heap ds us
 |_,[],vs,us,_,r,q=>by cases r;cases q;rfl
 |n,d::ds,vs,us,f,r,q=>by
  obtain ⟨v,r',rfl,a,b⟩:=r;rw [bH,Bool.and_eq_true] at f;cases q with
  |cons q1 q2=>exact ⟨_,_,rfl,B_ I f.1 a q1,gR I f.2 b q2⟩
end
def dv(M:Mem):D->D
 |.ref a=>match M a with
  |some (.lst xs)=>.lst xs
  |_=>.ref a
 |d=>d
theorem pH(I:Inv X pins σ H s){n:Nat}{d:D}{v:V}{u:Value}(rh:RepH X.K H M)(f:bo n (dv M d)=true)(r:Rp X.K H d v)(q:RelV v u):Hr s.heap (dv M d) u:=by
 cases d with
 |ref a=>
  cases r;simp only [dv] at f ⊢
  split at f
  ·rename_i xs e
   obtain ⟨vs,h1,h2⟩:=rh _ _ e;obtain ⟨its,rv,ht,_⟩:=I.list (SqL.of h1);cases q;cases n with
   |zero=>simp [bo] at f
   |succ n=>exact ⟨a,its,rfl,ht.isList,gR I (n:=n) f h2 rv⟩
  ·simp [bo] at f
 |_=>exact B_ I f r q
def cu:dA:=fun x y M Q=>bo 60 (dv M x)=true/\bo 60 (dv M y)=true/\Q (.bl (aC (dv M x) (dv M y))) M
def kA:dA:=fun x y M Q=>bo 60 (dv M x)=true/\bo 60 (dv M y)=true/\Q (.bl (!aC (dv M x) (dv M y))) M
theorem wZ(hu:X.A.units+64<cLine):bU X (compareOp .Eq) (liftR2 X cu):=by
 intro pins s σ H x y v u Q I rx ry h;obtain ⟨d1,d2,M,QQ,rh,r1,r2,⟨f1,f2,h⟩,up⟩:=h;exact Hw (pH I rh f1 r1 rx) (pH I rh f2 r2 ry) f1 f2 (by lia) _ _ _ _ ⟨.bl _,H,I,rfl,up _ M h _ H rh Frm.refl rfl⟩
theorem ES(hu:X.A.units+64<cLine):bU X (compareOp .NotEq) (liftR2 X kA):=by
 intro pins s σ H x y v u Q I rx ry h;obtain ⟨d1,d2,M,QQ,rh,r1,r2,⟨f1,f2,h⟩,up⟩:=h;exact AG (pH I rh f1 r1 rx) (pH I rh f2 r2 ry) f1 f2 (by lia) _ _ _ _ ⟨.bl _,H,I,rfl,up _ M h _ H rh Frm.refl rfl⟩
open Classical in
noncomputable def zq(h:Heap)(x:D)(u:Value):Bool:=if q:∃d,Hr h d u then aC q.choose x else false
theorem yN{h:Heap}{x d:D}{u:Value}(r:Hr h d u):zq h x u=aC d x:=by
 have q:∃d,Hr h d u:=⟨d,r⟩;unfold zq;rw [dif_pos q,yq q.choose_spec r]
theorem mz{h:Heap}{x:D}:∀{ds:List D} {us:List Value},Hrs h ds us->us.any (zq h x)=ds.any fun d=>aC d x
 |[],_,r=>by cases r;rfl
 |d::ds,_,r=>by
  obtain ⟨v,r',rfl,a,b⟩:=r;rw [List.any_cons,List.any_cons,yN a,mz b]
theorem mh{A:Around}{n:Nat}{x:D}{w:Value}(rx:Hr s.heap x w)(fx:bo n x=true)(hu:A.units+n<cLine):∀{ds:List D} {us:List Value},Hrs s.heap ds us->bH n ds=true->∀u∈us,SeqAt.EqAt A s u w (zq s.heap x u)
 |[],_,r,_,u,hu=>by cases r;cases hu
 |d::ds,_,r,f,u,h=>by
  obtain ⟨v,r',rfl,a,b⟩:=r;rw [bH,Bool.and_eq_true] at f;rcases List.mem_cons.mp h with rfl|h
  ·rw [yN a];exact Ca n a rx f.1 fx hu
  ·exact mh rx fx hu b f.2 u h
def we(M:Mem)(x y:D):Option Bool:=match aT M y with
 |some xs=>if bo 60 (dv M x)=true/\bH 60 xs=true then some (xs.any fun d=>aC d (dv M x)) else none
 |none=>match y with
  |.ref a=>match nh M a x with
   |some o=>some o.isSome
   |none=>none
  |_=>none
def Br:dA:=fun x y M Q=>match we M x y with
 |some k=>Q (.bl k) M
 |none=>False
theorem ya(hu:X.A.units+64<cLine):bU X (compareOp .In) (liftR2 X Br):=by
 intro pins s σ H x y v u Q I rx ry h;obtain ⟨d1,d2,M,QQ,rh,r1,r2,h,up⟩:=h;unfold Br at h
 split at h
 ·rename_i k e
  have fin:=up _ M h _ H rh Frm.refl rfl;unfold we at e
  split at e
  ·rename_i xs ex
   split at e
   ·rename_i f
    cases e;obtain ⟨p,vs,rfl,hq,r⟩:=iK rh r2 ex;cases ry;have hx:=pH I rh f.1 r1 rx;rcases hq with hq|hq
    ·obtain ⟨its,rv,pl,_⟩:=I.list hq
     have hs:=gR I f.2 r rv;refine SeqAt.in_listAt (zq s.heap (dv M d1)) pl.isList (fun w hw=>mh hx f.1 (by show X.A.units+1+60<cLine;lia) hs f.2 w (by simpa using hw)) ⟨.bl _,H,I,rfl,?_⟩
     rw [show its.toArray.any (zq s.heap (dv M d1))=its.any (zq s.heap (dv M d1)) by simp,mz hs]
     exact fin
    ·obtain ⟨its,rv,pl,_⟩:=I.tuple hq
     have hs:=gR I f.2 r rv;refine SeqAt.in_tupleAt (zq s.heap (dv M d1)) pl (fun w hw=>mh hx f.1 (by show X.A.units+1+60<cLine;lia) hs f.2 w (by simpa using hw)) ⟨.bl _,H,I,rfl,?_⟩
     rw [show its.toArray.any (zq s.heap (dv M d1))=its.any (zq s.heap (dv M d1)) by simp,mz hs]
     exact fin
   ·cases e
  ·split at e
   ·split at e
    ·rename_i o eo
     cases e;cases r2;cases ry;rcases m9 rh r1 eo with ⟨rfl,g⟩|⟨d,w,rfl,g,_⟩
     ·exact Ga (by lia) I g rx fun s' I'=>⟨.bl _,H,I',rfl,fin⟩
     ·exact Ga (by lia) I g rx fun s' I'=>⟨.bl _,H,I',rfl,fin⟩
    ·cases e
   ·cases e
 ·exact h.elim
end
end L3
namespace L3
open PySem L2
structure DEnds where
 nx:Dl->Mem->Prop
 rt:DK
 bk:Dl->Mem->Prop:=fun _ _=>False
 ct:Dl->Mem->Prop:=fun _ _=>False
abbrev au:=DEnds->Dl->Mem->Prop
def UpN(X:Cx)(B:Bd)(M:Mem)(H:Hp)(QQ:Dl->Mem->Prop)(Q:L2.St->Hp->Prop):Prop:=∀δ M',QQ δ M'->∀σ H',Frm M H M' H'->SR X B δ M' σ H'->Q σ H'
theorem UpN.go{X:Cx}{B:Bd}{M M1:Mem}{H H1:Hp}{QQ:Dl->Mem->Prop}{Q:L2.St->Hp->Prop}(u:UpN X B M H QQ Q)(i:Frm M H M1 H1):UpN X B M1 H1 QQ Q:=fun δ M q σ H' a b=>u δ M q σ H' (i.trans a) b
structure UpD(X:Cx)(B:Bd)(M:Mem)(H:Hp)(DD:DEnds)(D:Ends):Prop where
 nx:UpN X B M H DD.nx D.nx
 rt:Up X.K M H DD.rt D.rt
 bk:UpN X B M H DD.bk D.bk
 ct:UpN X B M H DD.ct D.ct
theorem UpD.go{X:Cx}{B:Bd}{M M1:Mem}{H H1:Hp}{DD:DEnds}{D:Ends}(u:UpD X B M H DD D)(i:Frm M H M1 H1):UpD X B M1 H1 DD D:=⟨u.nx.go i,u.rt.go i,u.bk.go i,u.ct.go i⟩
inductive liftS(X:Cx)(B:Bd)(T:au)(D:Ends)(σ:St)(H:Hp):Prop
 |mk (δ:Dl) (M:Mem) (DD:DEnds) (s:SR X B δ M σ H) (h:T DD δ M) (u:UpD X B M H DD D):liftS X B T D σ H
def DS(X:Cx)(B:Bd)(st:Stmt)(T:au):Prop:=PS X st (liftS X B T)
def tB(X:Cx)(B:Bd)(st:List Stmt)(T:au):Prop:=sg X st (liftS X B T)
section
variable {X:Cx}{B:Bd}{st:Stmt}{rest:List Stmt}{t u:au}{e:Expr}{te:aZ}{pos:Pos}
def aE:au:=fun D δ M=>D.nx δ M
def ah(t u:au):au:=fun D δ M=>t { D with nx:=u D } δ M
theorem Bt:tB X B [] aE:=kg Bm fun D σ H ⟨δ,M,DD,s,h,up⟩=>up.nx δ M h σ H Frm.refl s
theorem dg(h1:DS X B st t)(h2:tB X B rest u):tB X B (st::rest) (ah t u):=by
 refine kg (xp h1 h2) ?_
 rintro D σ H ⟨δ,M,DD,s,h,up⟩
 exact ⟨δ,M,{ DD with nx:=u DD },s,h,⟨fun δ' M' q σ' H' i s'=>⟨δ',M',DD,s',q,up.go i⟩,up.rt,up.bk,up.ct⟩⟩
theorem eB(h1:DS X B st t):tB X B [st] t:=Bq h1
def ba(te:aZ):au:=fun D δ M=>te δ M fun _ M1=>D.nx δ M1
theorem zW(he:DE X B e te)(hs:swapsWith e none pos.line X.env=pure false:=by rfl):DS X B (.Expr e pos) (ba te):=by
 refine bt (AE he hs) ?_
 rintro D σ H ⟨δ,M,DD,s,h,up⟩
 exact ⟨δ,M,_,s,h,fun d M' q v H' rh i r=>up.nx δ M' q σ H' i (s.go rh i)⟩
def ax(te:aZ):au:=fun D δ M=>te δ M D.rt
theorem Dj(he:DE X B e te):DS X B (.Return (some e) pos) (ax te):=by
 refine bt (CU he) ?_
 rintro D σ H ⟨δ,M,DD,s,h,up⟩
 exact ⟨δ,M,_,s,h,up.rt⟩
def aS(c:dz)(t u:au):au:=fun D δ M=>c δ M fun b M1=>if b=true then t D δ M1 else u D δ M1
theorem HF{c:Expr}{a b:List Stmt}{tc:dz}(hc:DT X B c tc)(ha:tB X B a t)(hb:tB X B b u):DS X B (.If c a b pos) (aS tc t u):=by
 refine bt (GO hc ha hb) ?_
 rintro D σ H ⟨δ,M,DD,s,h,up⟩
 refine ⟨δ,M,_,s,h,fun c M' q H' rh i=>?_⟩;cases c with
 |true=>rw [if_pos rfl] at q ⊢;exact ⟨δ,M',DD,s.go rh i,q,up.go i⟩
 |false=>rw [if_neg Bool.false_ne_true] at q ⊢;exact ⟨δ,M',DD,s.go rh i,q,up.go i⟩
abbrev ii:=D->Dl->Mem->(Dl->Mem->Prop)->Prop
abbrev oq:=List D->Dl->Mem->(Dl->Mem->Prop)->Prop
inductive liftG(X:Cx)(B:Bd)(g:ii)(v:V)(σ:St)(H:Hp)(Q:St->Hp->Prop):Prop
 |mk (d:L3.D) (δ:Dl) (M:Mem) (QQ:Dl->Mem->Prop) (s:SR X B δ M σ H) (r:Rp X.K H d v) (h:g d δ M QQ) (u:UpN X B M H QQ Q):liftG X B g v σ H Q
inductive liftGs(X:Cx)(B:Bd)(g:oq)(vs:List V)(σ:St)(H:Hp)(Q:St->Hp->Prop):Prop
 |mk (ds:List L3.D) (δ:Dl) (M:Mem) (QQ:Dl->Mem->Prop) (s:SR X B δ M σ H) (r:Rps X.K H ds vs) (h:g ds δ M QQ) (u:UpN X B M H QQ Q):liftGs X B g vs σ H Q
def DG(X:Cx)(B:Bd)(tg:Expr)(g:ii):Prop:=PG X tg (liftG X B g)
def DGs(X:Cx)(B:Bd)(tgs:List Expr)(g:oq):Prop:=Fj X tgs (liftGs X B g)
theorem iJ{tg:Expr}{t t':TG}(h:PG X tg t)(w:∀v σ H Q,t' v σ H Q->t v σ H Q):PG X tg t':=fun pins s σ H v u Q I r q=>h pins s σ H v u Q I r (w v σ H Q q)
theorem oK{tg:List Expr}{t t':Cu}(h:Fj X tg t)(w:∀v σ H Q,t' v σ H Q->t v σ H Q):Fj X tg t':=fun pins s σ H v u Q I r q=>h pins s σ H v u Q I r (w v σ H Q q)
theorem SR.set{δ:Dl}{M:Mem}{σ:L2.St}{H:Hp}{i:Nat}{d:D}{v:V}(s:SR X B δ M σ H)(r:Rp X.K H d v):SR X B (δ.set i (some d)) M (σ.set i (some v)) H:=⟨s.i0,s.rh,s.rs.set r⟩
def ag(i:Nat):ii:=fun d δ M Q=>Q (δ.set i (some d)) M
theorem Az{i:Nat}{x:Str}(hN:X.N.Nodup)(hi:X.N[i]?=some x)(hx:wj X.env.scope x)(hf:X.fn x=true\/X.env.scope.names.lookup x=some .local:=by first|exact .inl rfl|exact .inr rfl|assumption):DG X B (.Name x pos) (ag i):=by
 refine iJ (AR hN hi hx hf) ?_
 rintro v σ H Q ⟨d,δ,M,QQ,s,r,h,u⟩
 exact u _ M h _ H Frm.refl (s.set r)
def o8:oq:=fun ds δ M Q=>match ds with
 |[]=>Q δ M
 |_=>False
def cO(t:ii)(u:oq):oq:=fun ds δ M Q=>match ds with
 |d::r=>t d δ M fun δ' M'=>u r δ' M' Q
 |[]=>False
theorem B8:DGs X B [] o8:=by
 refine oK AO ?_
 rintro v σ H Q ⟨ds,δ,M,QQ,s,r,h,u⟩
 cases ds with
 |nil=>exact ⟨r,u δ M h σ H Frm.refl s⟩
 |cons _ _=>exact (show False from h).elim
theorem yd{e:Expr}{es:List Expr}{t:ii}{u:oq}(h1:DG X B e t)(h2:DGs X B es u)
  (hs:(assignEach (e::es) X.env).map (·.2)=assign e X.env::(assignEach es X.env).map (·.2):=by rfl):DGs X B (e::es) (cO t u):=by
 refine oK (yi h1 h2 hs) ?_
 rintro v σ H Q ⟨ds,δ,M,QQ,s,r,h,up⟩
 cases ds with
 |nil=>exact (show False from h).elim
 |cons d ds=>
  obtain ⟨v1,vr,rfl,r1,r2⟩:=r;refine ⟨v1,vr,rfl,d,δ,M,_,s,r1,h,fun δ' M' q σ' H' i s'=>?_⟩;exact ⟨ds,δ',M',QQ,s',r2.mf s.rh i,q,up.go i⟩
def oS(n:Nat)(t:oq):ii:=fun d δ M Q=>match d with
 |.tup xs=>xs.length=n/\t xs δ M Q
 |_=>False
theorem Ex{es:List Expr}{k:Nat}{t:oq}{n:Nat}(hc:X.calm=true)(h:DGs X B es t)
  (hn:(assignEach es X.env).length=n:=by rfl) (hst:(assignEach es X.env).findIdx? (·.1)=none:=by rfl):DG X B (.Tuple es k pos) (oS n t):=by
 refine iJ (Di hc h hn hst) ?_
 rintro v σ H Q ⟨d,δ,M,QQ,s,r,h,up⟩
 cases d with
 |tup xs=>
  obtain ⟨p,vs,rfl,ht,r⟩:=r;exact ⟨p,vs,rfl,ht.sq,by rw [<- r.length];exact h.1,xs,δ,M,QQ,s,r,h.2,up⟩
 |_=>exact (show False from h).elim
def ar(te:aZ)(g:ii):au:=fun D δ M=>te δ M fun x M1=>g x δ M1 D.nx
theorem Dx{tg e:Expr}{te:aZ}{g:ii}(he:DE X B e te)(hg:DG X B tg g)(hs:swapsWithSole [tg] e pos.line X.env=pure false:=by rfl)(hw:swappedStores [tg] e X.env=pure none:=by rfl)
  (h1:(assignEach [tg] X.env).map (·.2)=[assign tg X.env]:=by rfl):DS X B (.Assign [tg] e pos) (ar te g):=by
 refine bt (CW he hg hs hw h1) ?_
 rintro D σ H ⟨δ,M,DD,s,h,up⟩
 refine ⟨δ,M,_,s,h,fun d M' q v H' rh i r=>?_⟩;exact ⟨d,δ,M',DD.nx,s.go rh i,r,q,up.nx.go i⟩
theorem Ee{i:Nat}{x:Str}{e:Expr}{te:aZ}{pos':Pos}(hN:X.N.Nodup)(hi:X.N[i]?=some x)(hx:wj X.env.scope x)(he:DE X B e te)(hs:swapsWith e (some (.Name x pos')) pos.line X.env=pure false:=by rfl)(hf:X.fn x=true\/X.env.scope.names.lookup x=some .local:=by first|exact .inl rfl|exact .inr rfl|assumption):
  DS X B (.Assign [.Name x pos'] e pos) (ar te (ag i)):=by
 refine bt (D1 hN hi hx he hs hf) ?_
 rintro D σ H ⟨δ,M,DD,s,h,up⟩
 refine ⟨δ,M,_,s,h,fun d M' q v H' rh i r=>?_⟩;exact up.nx _ M' q _ H' i ((s.go rh i).set r)
def yE(i:Nat)(te:aZ)(r:dA):au:=fun D δ M=>match δ[i]? with
 |some (some x)=>te δ M fun y M1=>r x y M1 fun z M2=>D.nx (δ.set i (some z)) M2
 |_=>False
theorem Fs{i:Nat}{x:Str}{e:Expr}{te:aZ}{op:Operator}{r:dA}{pos':Pos}(hN:X.N.Nodup)(hi:X.N[i]?=some x)(hx:wj X.env.scope x)(he:DE X B e te)(ho:xG X op (liftR2 X r))(hf:X.fn x=true\/X.env.scope.names.lookup x=some .local:=by first|exact .inl rfl|exact .inr rfl|assumption):
  DS X B (.AugAssign (.Name x pos') op e pos) (yE i te r):=by
 refine bt (Fo hN hi hx he ho hf) ?_
 rintro D σ H ⟨δ,M,DD,s,h,up⟩
 unfold yE at h
 split at h
 ·rename_i x' ex
  obtain ⟨v,hv,rv⟩:=s.rs.get i x' ex;refine ⟨v,hv,δ,M,_,s,h,fun y M1 h1 w H1 rh1 i1 r1=>?_⟩;refine ⟨x',y,M1,_,rh1,rv.mf s.rh i1,r1,h1,fun z M2 h2 w2 H2 rh2 i2 r2=>?_⟩;exact up.nx _ M2 h2 _ H2 (i1.trans i2) ((s.go rh2 (i1.trans i2)).set r2)
 ·exact h.elim
theorem Cw{op:Operator}{g:Int->Int->Int}(h:xG X op (ipI g)):xG X op (liftR2 X (gr fun i j=>.int (g i j))):=by
 intro pins s σ H x y v u Q I rx ry hq;obtain ⟨d1,d2,M,QQ,rh,r1,r2,hq,up⟩:=hq;unfold gr at hq
 split at hq
 ·cases r1;cases r2
  exact h pins s σ H _ _ v u Q I rx ry ⟨_,_,rfl,rfl,up _ M hq _ H rh Frm.refl rfl⟩
 ·exact hq.elim
abbrev k_:dA:=gr fun i j=>.int (i+j)
theorem rM:xG X .Add (liftR2 X k_):=Cw E6
theorem AJ:xG X .Sub (liftR2 X kO):=Cw FP
def qJ(o i v:D)(M:Mem)(Q:Mem->Prop):Prop:=match o with
 |.ref a=>match M a,i with
  |some (.lst xs),.int k=>match nP xs.length k with
   |some j=>Q (M.upd a (.lst (xs.set j v)))
   |none=>False
  |some (.dK kvs),y=>match bW y with
   |some k=>kvs.length<sizeLine/\Q (M.upd a (.dK (cT kvs k v)))
   |none=>False
  |some (.dT kvs),y=>match CS y with
   |some k=>kvs.length<sizeLine/\Q (M.upd a (.dT (cT kvs k v)))
   |none=>False
  |_,_=>False
 |_=>False
inductive liftSet(X:Cx)(o i v:V)(H:Hp)(Q:Hp->Prop):Prop
 |mk (d1 d2 d3:L3.D) (M:Mem) (QQ:Mem->Prop) (rh:RepH X.K H M) (r1:Rp X.K H d1 o) (r2:Rp X.K H d2 i) (r3:Rp X.K H d3 v) (h:qJ d1 d2 d3 M QQ) (u:∀M',QQ M'->∀H',RepH X.K H' M'->Frm M H M' H'->Q H'):liftSet X o i v H Q
theorem t6(hu:X.A.units+1<cLine):Ak X (liftSet X):=by
 intro pins s σ H o i v ov iv u Q I ro ri rv h;obtain ⟨d1,d2,d3,M,QQ,rh,r1,r2,r3,h,up⟩:=h;unfold qJ at h
 split at h
 ·rename_i a
  cases r1;cases ro
  split at h
  ·rename_i xs k hM
   cases r2;obtain ⟨vs,h1,h2⟩:=rh _ _ hM
   split at h
   ·rename_i j ej
    refine yY pins s σ H (.ref a) _ v _ iv u Q I rfl ri rv ⟨a,vs,k,j,rfl,rfl,h1,by rw [<- h2.length];exact ej,?_⟩
    have i2:Imm H (upd H a (.lst (vs.set j v))):=Imm.upd (by rw [h1];trivial)
    exact up _ h _ (rh.put (by rw [h1];trivial) ⟨_,upd_same,(h2.set r3 j).mono i2⟩) (Frm.put (.inr ⟨_,hM⟩))
   ·exact h.elim
  ·rename_i kvs hM
   obtain ⟨ws,h1,h2⟩:=rh _ _ hM
   split at h
   ·rename_i k ek
    have ev:=eE r2 ek;subst ev;have i2:Imm H (upd H a (.dK (ca ws k v))):=Imm.upd (by rw [h1];trivial)
    refine lT hu I (DPut.k h1 (by rw [<- h2.length];exact h.1)) ri rv fun s' I'=>⟨_,I',?_⟩
    exact up _ h.2 _ (rh.put (by rw [h1];trivial) ⟨_,upd_same,(h2.put k r3).mono i2⟩) (Frm.put (.inr ⟨_,hM⟩))
   ·exact h.elim
  ·rename_i kvs hM
   obtain ⟨ws,h1,h2⟩:=rh _ _ hM
   split at h
   ·rename_i k ek
    obtain ⟨b,rfl,hb⟩:=pF r2 ek;have i2:Imm H (upd H a (.dT (ca ws k v))):=Imm.upd (by rw [h1];trivial)
    refine lT hu I (FQ h1 hb (by rw [<- h2.length];exact h.1)) ri rv fun s' I'=>⟨_,I',?_⟩
    exact up _ h.2 _ (rh.put (by rw [h1];trivial) ⟨_,upd_same,(h2.put k r3).mono i2⟩) (Frm.put (.inr ⟨_,hM⟩))
   ·exact h.elim
  ·exact h.elim
 ·exact h.elim
def gT(to ti:aZ):ii:=fun v δ M Q=>to δ M fun o M1=>ti δ M1 fun i M2=>qJ o i v M2 fun M3=>Q δ M3
theorem E5{o i:Expr}{to ti:aZ}(hu:X.A.units+1<cLine)(ho:DE X B o to)(hi:DE X B i ti)
  (ha:∀v,assign (.Subscript o i pos) X.env v=(do
   let ov <- holding [v] (eval o X.env)
   let iv <- holding [v,ov] (eval i X.env)
   standAt pos
   holding [v,ov,iv] (setItem ov iv v)
   release [v,ov,iv] []):=by intro _;rfl):DG X B (.Subscript o i pos) (gT to ti):=by
 refine iJ (F0 ho hi (t6 hu) ha) ?_
 rintro v σ H Q ⟨d,δ,M,QQ,s,r,h,up⟩
 refine ⟨δ,M,_,s,h,fun x M1 h1 v1 H1 rh1 i1 r1=>?_⟩;refine ⟨δ,M1,_,s.go rh1 i1,h1,fun y M2 h2 v2 H2 rh2 i2 r2=>?_⟩;exact ⟨x,y,d,M2,_,rh2,r1.mf rh1 i2,r2,r.mf s.rh (i1.trans i2),h2,fun M3 h3 H3 rh3 i3=>up δ M3 h3 σ H3 ((i1.trans i2).trans i3) (s.go rh3 ((i1.trans i2).trans i3))⟩
end
end L3
namespace L3
open PySem L2
section
variable {X:Cx}{B:Bd}{o e value:Expr}{f:Str}{pos pos' tpos:Pos}{ta tv te:aZ}{C:Addr}
def bj(f:Str)(v:D):List (Str×D)->List (Str×D)
 |[]=>[(f,v)]
 |(g,w)::r=>if g=f then (g,v)::r else (g,w)::bj f v r
theorem Rkv.lookup{K:W.Frag}{H:Hp}{fs:List (Str×D)}{ws:List (Str×V)}(h:Rkv K H fs ws)(f:Str):(fs.lookup f=none/\ws.lookup f=none)\/∃d v,fs.lookup f=some d/\ws.lookup f=some v/\Rp K H d v:=by
 induction h with
 |nil=>exact .inl ⟨rfl,rfl⟩
 |@cons p q ps qs r t ih=>
  obtain ⟨k1,d⟩:=p;obtain ⟨k2,v⟩:=q;obtain ⟨e,r⟩:=r;dsimp only at e r;subst e;rw [List.lookup_cons,List.lookup_cons];cases hk:f==k1 with
  |true=>exact .inr ⟨d,v,rfl,rfl,r⟩
  |false=>exact ih
theorem zw(f:Str)(v:V):∀ws:List (Str×V),cj f v ws=(match ws with|[]=>[(f,v)]|(g,w)::r=>if g=f then (g,v)::r else (g,w)::cj f v r)
 |[]=>rfl
 |(g,w)::r=>by rw [cj]
theorem gn{K:W.Frag}{H:Hp}{f:Str}{d:D}{v:V}(rd:Rp K H d v):∀{fs:List (Str×D)} {ws:List (Str×V)},Rkv K H fs ws->Rkv K H (bj f d fs) (L2.cj f v ws)
 |_,_,.nil=>.cons ⟨rfl,rd⟩ .nil
 |(k1,d1)::fs,(k2,v1)::ws,.cons r t=>by
  obtain ⟨e,r⟩:=r;dsimp only at e r;subst e;rw [zw];show Rkv K H (if k1=f then (k1,d)::fs else (k1,d1)::bj f d fs) (if k1=f then (k1,v)::ws else (k1,v1)::L2.cj f v ws)
  split
  ·exact .cons ⟨rfl,rd⟩ t
  ·exact .cons ⟨rfl,r⟩ (gn rd t)
def aO(C:Addr)(ta:aZ)(f:Str):aZ:=fun δ M Q=>ta δ M fun x M1=>match x with
 |.ref a=>match M1 a with
  |some (.ins C' fs)=>C'=C/\match fs.lookup f with
   |some d=>Q d M1
   |none=>False
  |_=>False
 |_=>False
theorem EA(c:Cls X.K C)(n:NoAttr X.K C f)(he:DE X B e ta)(hb:attributeBase e f X.env (eval e X.env)=eval e X.env:=by rfl):DE X B (.Attribute e f pos) (aO C ta f):=by
 refine aI (EZ he hb) ?_
 rintro σ H Q ⟨δ,M,QQ,s,h,u⟩
 refine ⟨δ,M,_,s,h,fun x M1 h1 v1 H1 rh1 i1 r1=>?_⟩
 split at h1
 ·rename_i a
  cases r1
  split at h1
  ·rename_i C' fs hM
   obtain ⟨rfl,h1⟩:=h1;obtain ⟨dx,ws,e1,e2⟩:=rh1 _ _ hM
   split at h1
   ·rename_i d ed
    rcases e2.lookup f with ⟨z,_⟩|⟨d',v,z1,z2,z3⟩
    ·rw [ed] at z;cases z
    ·rw [ed] at z1;cases z1
     exact ⟨a,_,dx,ws,v,rfl,e1,c,n,z2,u _ M1 h1 _ H1 rh1 i1 z3⟩
   ·exact h1.elim
  ·exact h1.elim
 ·exact h1.elim
def bM(C:Addr)(ta tv:aZ)(f:Str):au:=fun D δ M=>tv δ M fun y M1=>ta δ M1 fun x M2=>match x with
 |.ref a=>match M2 a with
  |some (.ins C' fs)=>C'=C/\fs.length<1000/\D.nx δ (M2.upd a (.ins C (bj f y fs)))
  |_=>False
 |_=>False
theorem Fe(c:Cls X.K C)(n:NoAttr X.K C f)(ha:DE X B o ta)(hv:DE X B value tv)(hs:swapsWith value (some (.Attribute o f pos')) pos.line X.env=pure false:=by rfl):DS X B (.Assign [.Attribute o f pos'] value pos) (bM C ta tv f):=by
 refine bt (DN ha hv hs) ?_
 rintro D σ H ⟨δ,M,DD,s,h,up⟩
 refine ⟨δ,M,_,s,h,fun y M1 h1 v1 H1 rh1 i1 r1=>?_⟩;refine ⟨δ,M1,_,s.go rh1 i1,h1,fun x M2 h2 v2 H2 rh2 i2 r2=>?_⟩
 split at h2
 ·rename_i a
  cases r2
  split at h2
  ·rename_i C' fs hM
   obtain ⟨rfl,hl,h2⟩:=h2;obtain ⟨dx,ws,e1,e2⟩:=rh2 _ _ hM;have i3:Frm M2 H2 (M2.upd a (.ins C' (bj f y fs))) (upd H2 a (.ins C' dx (L2.cj f v1 ws))):=Frm.put (.inr ⟨_,hM⟩);refine ⟨a,C',dx,ws,rfl,e1,c,n,by rw [<- e2.length];exact hl,up.nx _ _ h2 σ _ ((i1.trans i2).trans i3) (s.go (rh2.put (by rw [e1];trivial) ⟨dx,_,upd_same,?_⟩) ((i1.trans i2).trans i3))⟩
   exact (gn (r1.mf rh1 i2) e2).mono (i3.imm rh2)
  ·exact h2.elim
 ·exact h2.elim
structure BxW(c:dz)(tb:au)(D:DEnds):Type
structure BxF(g:ii)(tb:au)(D:DEnds)(ok:Mem->Prop):Type
def bz(c:dz)(tb:au)(D:DEnds)(bx:BxW c tb D):Nat->Dl->Mem->Prop
 |0,_,_=>False
 |n+1,δ,M=>c δ M fun b M1=>if b=true then tb { D with nx:=bz c tb D bx n,ct:=bz c tb D bx n,bk:=D.nx } δ M1 else D.nx δ M1
def cE(c:dz)(tb:au):au:=fun D δ M=>∃n,bz c tb D ⟨⟩ n δ M
theorem yB{c:Expr}{body:List Stmt}{tc:dz}{tb:au}(hp:PassesOwn (model X.prog X.w) X.A X.env X.xe)(hc:DT X B c tc)(hb:tB X B body tb):DS X B (.While c body [] pos) (cE tc tb):=by
 refine bt (xl hp hc hb) ?_
 rintro D σ H ⟨δ,M,DD,s,⟨n,h⟩,up⟩
 refine ⟨fun m σ' H'=>∃δ' M',SR X B δ' M' σ' H'/\Frm M H M' H'/\bz tc tb DD ⟨⟩ m δ' M',⟨n,δ,M,s,Frm.refl,h⟩,?_⟩
 rintro m σ1 H1 ⟨δ1,M1,s1,i1,h1⟩
 cases m with
 |zero=>exact (show False from h1).elim
 |succ m=>
  refine ⟨δ1,M1,_,s1,h1,fun b M2 q H2 rh2 i2=>?_⟩;cases b with
  |false=>rw [if_neg Bool.false_ne_true] at q ⊢;exact up.nx _ _ q σ1 H2 (i1.trans i2) (s1.go rh2 i2)
  |true=>
   rw [if_pos rfl] at q ⊢;refine ⟨fun σ' H'=>∃δ' M',SR X B δ' M' σ' H'/\Frm M H M' H'/\bz tc tb DD ⟨⟩ m δ' M',fun σ' H' z=>⟨m,Nat.lt_succ_self _,z⟩,?_⟩;refine ⟨δ1,M2,_,s1.go rh2 i2,q,⟨?_,(up.go (i1.trans i2)).rt,(up.go (i1.trans i2)).nx,?_⟩⟩
   ·exact fun δ3 M3 q3 σ3 H3 i3 s3=>⟨δ3,M3,s3,(i1.trans i2).trans i3,q3⟩
   ·exact fun δ3 M3 q3 σ3 H3 i3 s3=>⟨δ3,M3,s3,(i1.trans i2).trans i3,q3⟩
structure DIt where
 items:List D
 src:List (Addr×List D)
def DIt.ok(I:DIt)(M:Mem):Prop:=∀p∈I.src,M p.1=some (.lst p.2)
abbrev vc:=Dl->Mem->(DIt->Mem->Prop)->Prop
def HY(K:W.Frag)(H0:Hp)(it:DIt)(J:It):Prop:=∀(i:Nat) (H:Hp) (M:Mem),Imm H0 H->RepH K H M->it.ok M->
 (∀d,it.items[i]?=some d->J.go i H/\∀x H',J.yld i H x H'->Frm M H M H'/\RepH K H' M/\Rp K H' d x)/\(it.items.length<=i->J.stop i H)
inductive liftI(X:Cx)(B:Bd)(T:vc)(σ:St)(H:Hp)(R:It->Hp->Prop):Prop
 |mk (δ:Dl) (M:Mem) (RR:DIt->Mem->Prop) (s:SR X B δ M σ H) (h:T δ M RR) (u:∀it M',RR it M'->∀J H',RepH X.K H' M'->Frm M H M' H'->HY X.K H' it J->R J H'):liftI X B T σ H R
def DI(X:Cx)(B:Bd)(tg iter:Expr)(T:vc):Prop:=PI X tg iter (liftI X B T)
theorem fT{tg iter:Expr}{t t':TI}(h:PI X tg iter t)(w:∀σ H Q,t' σ H Q->t σ H Q):PI X tg iter t':=fun pins s σ H Q I q=>h pins s σ H Q I (w σ H Q q)
def fO(g:ii)(tb:au)(DD:DEnds)(ok:Mem->Prop)(b:BxF g tb DD ok):List D->Dl->Mem->Prop
 |[],δ,M=>ok M/\DD.nx δ M
 |x::xs,δ,M=>ok M/\g x δ M fun δ2 M2=>tb { DD with nx:=fO g tb DD ok b xs,ct:=fO g tb DD ok b xs,bk:=DD.nx } δ2 M2
def eV(wi:vc)(g:ii)(tb:au):au:=fun D δ M=>wi δ M fun it M1=>fO g tb D it.ok ⟨⟩ it.items δ M1
theorem A9{g:ii}{tb:au}{DD:DEnds}{ok:Mem->Prop}{b:BxF g tb DD ok}{xs:List D}{δ:Dl}{M:Mem}(h:fO g tb DD ok b xs δ M):ok M:=by
 cases xs with
 |nil=>exact h.1
 |cons _ _=>exact h.1
theorem Ej{tg iter:Expr}{body:List Stmt}{wi:vc}{g:ii}{tb:au}(hp:PassesOwn (model X.prog X.w) X.A X.env X.xe)(hc:X.calm=true)(hi:DI X B tg iter wi)(hg:DG X B tg g)(hb:tB X B body tb)
  (hs:∀x,foldedSetIterable iter X.env x=pure x:=by intro _;rfl):DS X B (.For tg iter body [] pos) (eV wi g tb):=by
 refine bt (EQ hp hc hi hg hb hs) ?_
 rintro D σ H ⟨δ,M,DD,s,h,up⟩
 refine ⟨δ,M,_,s,h,fun it M1 h1 J H1 rh1 i1 hJ=>?_⟩;refine ⟨fun i m σ' H'=>m=it.items.length-i/\i<=it.items.length/\∃δ' M',SR X B δ' M' σ' H'/\Frm M1 H1 M' H'/\fO g tb DD it.ok ⟨⟩ (it.items.drop i) δ' M',⟨_,rfl,Nat.zero_le _,δ,M1,s.go rh1 i1,Frm.refl,h1⟩,?_⟩
 rintro i m σ2 H2 ⟨rfl,hi',δ2,M2,s2,i2,h2⟩
 have hok:=A9 h2;obtain ⟨hgo,hstop⟩:=hJ i H2 M2 (i2.imm rh1) s2.rh hok
 by_cases hlt:i<it.items.length
 ·rw [List.drop_eq_getElem_cons hlt] at h2
  obtain ⟨go,hy⟩:=hgo _ (List.getElem?_eq_getElem hlt);refine .inr ⟨go,fun σ' H'=>∃δ' M',SR X B δ' M' σ' H'/\Frm M1 H1 M' H'/\fO g tb DD it.ok ⟨⟩ (it.items.drop (i+1)) δ' M',fun σ' H' z=>⟨it.items.length-(i+1),by omega,rfl,hlt,z⟩,fun x H3 hx=>?_⟩
  obtain ⟨i3,rh3,rx⟩:=hy x H3 hx;refine ⟨_,δ2,M2,_,s2.go rh3 i3,rx,h2.2,fun δ4 M4 h4 σ4 H4 i4 s4=>?_⟩;have i14:=(i2.trans i3).trans i4;refine ⟨δ4,M4,_,s4,h4,⟨?_,(up.go (i1.trans i14)).rt,(up.go (i1.trans i14)).nx,?_⟩⟩
  ·exact fun δ5 M5 q5 σ5 H5 i5 s5=>⟨δ5,M5,s5,i14.trans i5,q5⟩
  ·exact fun δ5 M5 q5 σ5 H5 i5 s5=>⟨δ5,M5,s5,i14.trans i5,q5⟩
 ·rw [List.drop_eq_nil_of_le (by omega)] at h2
  exact .inl ⟨hstop (by omega),up.nx _ _ h2.2 σ2 H2 (i1.trans i2) s2⟩
end
end L3
namespace L2
open PySem PySem.Spec PyProof.Rows
section
variable {X:Cx}{B:Bd}{tg:Expr}
def GJ(K:W.Frag)(tl:TE):TI:=fun σ H R=>tl σ H fun x H1=>∃a b xs,x=.ref a/\lV K b H1 a xs/\R (if b=true then Itl K a else Itt K a) H1
theorem By{l:Expr}{tl:TE}(hl:PE X l tl):PI X tg l (GJ X.K tl):=by
 intro pins s σ H R I h;refine a_ (hl pins s σ H _ I h) fun v s1 ⟨x,H1,I1,r1,q1⟩=>?_;obtain ⟨a,b,xs,e,hq,q⟩:=q1;subst e;cases r1;cases b with
 |true=>
  obtain ⟨its,rv,p,hz⟩:=I1.list (show SqL X.K H1 a xs from hq);refine wpAny_pyIter_list p.isList ?_;refine ⟨s1.heap.objs.size,[s1.heap.objs.size],_,_,H1,rfl,I1.kept (t':=s1.toks) fun b o e=>Heap.get?_push_of_some _ e,vd a _,⟨_,Heap.get?_push_size _ rfl,rfl,rfl⟩,fun b hb=>?_,q⟩;have e:b=s1.heap.objs.size:=by simpa using hb
  subst e;exact I1.fpOk (Nat.le_refl _) (I1.hok.fresh (Nat.le_refl _))
 |false=>
  obtain ⟨its,rv,p,hz⟩:=I1.tuple (show fE X.K H1 a xs from hq);refine wpAny_pyIter_tuple (show s1.heap.IsTuple a its.toArray from p) ?_;refine ⟨s1.heap.objs.size,[s1.heap.objs.size],_,_,H1,rfl,I1.kept (t':=s1.toks) fun b o e=>Heap.get?_push_of_some _ e,ql a _,⟨_,Heap.get?_push_size _ rfl,rfl,rfl⟩,fun b hb=>?_,q⟩;have e:b=s1.heap.objs.size:=by simpa using hb
  subst e;exact I1.fpOk (Nat.le_refl _) (I1.hok.fresh (Nat.le_refl _))
def Gd(K:W.Frag)(t:TA):TI:=fun σ H R=>t σ H fun vs H1=>∃b1 b2 l1 l2 xs ys,vs=[.ref l1,.ref l2]/\lV K b1 H1 l1 xs/\lV K b2 H1 l2 ys/\R (Itz K b1 b2 l1 l2) H1
theorem Ap{a b:Expr}{elts:List Expr}{x1:Nat}{tp:Pos}{ta:TA}{p pos:Pos}(hg:Gl X "zip")(hm:X.mg "zip"=none)(ha:PA X [a,b] ta)
  (hs:starEach [a,b] X.env=[(false,eval a X.env),(false,eval b X.env)]:=by rfl) (hs2:starEach [b] X.env=[(false,eval b X.env)]:=by rfl):
  PI X (.Tuple elts x1 tp) (.Call (.Name "zip" p) [a,b] [] pos) (Gd X.K ta):=by
 intro pins s σ H R I h;refine Call_ (cA I hg hm (by decide +kernel:bootBuiltins "zip"=some (.type "zip")) (PyProof.Rows.callWith_type1 (a_ (ha pos pins s σ H _ I h) fun us s1 ⟨vs,H1,I1,r1,q1⟩=>?_) (by rw [hs,hs2]) (by rw [hs2];rfl)))
 obtain ⟨b1,b2,l1,l2,xs,ys,e,q1,q2,q⟩:=q1;subst e;obtain ⟨u1,u2,rfl,ru1,ru2⟩:=r1.two;cases ru1;cases ru2;obtain ⟨its1,rv1,sq1,z1⟩:=I1.src q1;obtain ⟨its2,rv2,sq2,z2⟩:=I1.src q2;refine nU sq1 sq2 fun h' hz hTI hTO h1 h2 hsz hk=>?_;have I2:Inv X pins σ H1 { s1 with heap:=h' }:=I1.kept (t':=s1.toks) hk;refine wpAny_pyIter_zip (s:={ s1 with heap:=h' }) hz ?_;have D:ZApart (s1.heap.objs.size+4) (s1.heap.objs.size+2) (s1.heap.objs.size+3) s1.heap.objs.size (s1.heap.objs.size+1):=by constructor<;>exact (show (_:Nat)≠(_:Nat) by lia)
 refine ⟨s1.heap.objs.size+4,[s1.heap.objs.size+4,s1.heap.objs.size+2,s1.heap.objs.size+3,s1.heap.objs.size,s1.heap.objs.size+1],_,_,H1,rfl,I2,yJ b1 b2 l1 l2 _ _ _ _ _ D,⟨hz,hTI,⟨_,_,hTO⟩,h1,h2⟩,fun b hb=>?_,q⟩;have hb':s1.heap.objs.size<=b:=by
  have hb2:b=s1.heap.objs.size+4\/b=s1.heap.objs.size+2\/b=s1.heap.objs.size+3\/b=s1.heap.objs.size\/b=s1.heap.objs.size+1:=by simpa using hb
  rcases hb2 with e|e|e|e|e<;>rw [e]<;>first|exact Nat.le_add_right _ _|exact Nat.le_refl _
 exact I1.fpOk (H':=H1) hb' (I1.hok.fresh hb')
def Dh(K:W.Frag)(t:TA):TI:=fun σ H R=>t σ H fun vs H1=>∃b l xs,vs=[.ref l]/\lV K b H1 l xs/\R (Ite K b l) H1
theorem z8{a:Expr}{elts:List Expr}{x1:Nat}{tp:Pos}{ta:TA}{p pos:Pos}(hg:Gl X "enumerate")(hm:X.mg "enumerate"=none)(ha:PA X [a] ta)(hs:starEach [a] X.env=[(false,eval a X.env)]:=by rfl):
  PI X (.Tuple elts x1 tp) (.Call (.Name "enumerate" p) [a] [] pos) (Dh X.K ta):=by
 intro pins s σ H R I h;refine Call_ (cA I hg hm (by decide +kernel:bootBuiltins "enumerate"=some (.type "enumerate")) (PyProof.Rows.callWith_type1 (a_ (ha pos pins s σ H _ I h) fun us s1 ⟨vs,H1,I1,r1,q1⟩=>?_) hs rfl))
 obtain ⟨b,l,xs,e,q1,q⟩:=q1;subst e;obtain ⟨u1,rfl,ru1⟩:=r1.one;cases ru1;obtain ⟨its,rv,sq,z⟩:=I1.src q1;refine vH sq fun h' he h1 hsz hk=>?_;have I2:Inv X pins σ H1 { s1 with heap:=h' }:=I1.kept (t':=s1.toks) hk;refine wpAny_pyIter_enum (s:={ s1 with heap:=h' }) he ?_;refine ⟨s1.heap.objs.size+1,[s1.heap.objs.size+1,s1.heap.objs.size],_,_,H1,rfl,I2,vK b l _ _ (show (_:Nat)≠(_:Nat) by lia),⟨⟨_,he⟩,h1⟩,fun c hc=>?_,q⟩
 have hc':s1.heap.objs.size<=c:=by
  have hc2:c=s1.heap.objs.size+1\/c=s1.heap.objs.size:=by simpa using hc
  rcases hc2 with e|e<;>rw [e]<;>first|exact Nat.le_add_right _ _|exact Nat.le_refl _
 exact I1.fpOk (H':=H1) hc' (I1.hok.fresh hc')
end
end L2
namespace L3
open PySem L2
section
variable {X:Cx}{B:Bd}{tg:Expr}{K:W.Frag}{H:Hp}{M:Mem}
def bv(d:D)(xs:List D):List (Addr×List D):=match d with
 |.ref a=>[(a,xs)]
 |_=>[]
theorem nk{d:D}{v:V}{xs:List D}(rh:RepH K H M)(r:Rp K H d v)(e:aT M d=some xs):∃p b,v=.ref p/\∀H' M',Imm H H'->RepH K H' M'->(∀q∈bv d xs,M' q.1=some (.lst q.2))->∃vs,lV K b H' p vs/\Rps K H' xs vs:=by
 cases d with
 |tup ys=>
  cases e;obtain ⟨p,vs,rfl,h,r⟩:=r;exact ⟨p,false,rfl,fun H' M' i _ _=>⟨vs,(h.mono i).sq,r.mono i⟩⟩
 |lst ys=>
  cases e;obtain ⟨p,vs,rfl,h,r⟩:=r;exact ⟨p,true,rfl,fun H' M' i _ _=>⟨vs,(h.mono i).sq,r.mono i⟩⟩
 |mt ys=>
  cases e;obtain ⟨p,vs,rfl,h,r⟩:=r;exact ⟨p,false,rfl,fun H' M' i _ _=>⟨vs,h.sq,r.mono i⟩⟩
 |ml ys=>
  cases e;obtain ⟨p,vs,rfl,h,r⟩:=r;exact ⟨p,true,rfl,fun H' M' i _ _=>⟨vs,(h.mono i).sq,r.mono i⟩⟩
 |ref a=>
  refine ⟨a,true,r,fun H' M' i rh' hs=>?_⟩;obtain ⟨vs,h1,h2⟩:=rh' _ _ (hs (a,xs) (by simp [bv]))
  exact ⟨vs,SqL.of h1,h2⟩
 |_=>cases e
theorem nN{d:D}{xs:List D}(e:aT M d=some xs):∀q∈bv d xs,M q.1=some (.lst q.2):=by
 cases d with
 |ref a=>
  intro q hq;have:q=(a,xs):=by simpa [bv] using hq
  subst this;simp only [aT] at e
  split at e
  ·rename_i ys h;cases e;exact h
  ·cases e
 |_=>intro q hq;simp [bv] at hq
def bN(te:aZ):vc:=fun δ M R=>te δ M fun d M1=>match aT M1 d with
 |some xs=>R ⟨xs,bv d xs⟩ M1
 |none=>False
theorem Fx{l:Expr}{tl:aZ}(hl:DE X B l tl):DI X B tg l (bN tl):=by
 refine fT (By hl) ?_
 rintro σ H R ⟨δ,M,RR,s,h,up⟩
 refine ⟨δ,M,_,s,h,fun d M1 h1 v H1 rh1 i1 r1=>?_⟩
 split at h1
 ·rename_i xs e
  obtain ⟨p,b,rfl,hsrc⟩:=nk rh1 r1 e;obtain ⟨vs,hq,_⟩:=hsrc H1 M1 Imm.refl rh1 (nN e);refine ⟨p,b,vs,rfl,hq,up _ M1 h1 _ H1 rh1 i1 fun i H2 M2 i2 rh2 ok2=>?_⟩;obtain ⟨vs2,hq2,r2⟩:=hsrc H2 M2 i2 rh2 ok2;have hl:=r2.length;cases b with
  |true=>
   refine ⟨fun d hd=>?_,fun hle=>⟨vs2,hq2,by rw [<- hl];exact hle⟩⟩
   obtain ⟨w,hw,rw'⟩:=r2.get hd;refine ⟨⟨vs2,w,hq2,hw⟩,?_⟩
   rintro x H3 ⟨rfl,hx⟩
   have:=hx vs2 hq2;rw [hw] at this;cases this;exact ⟨Frm.refl,rh2,rw'⟩
  |false=>
   refine ⟨fun d hd=>?_,fun hle=>⟨vs2,hq2,by rw [<- hl];exact hle⟩⟩
   obtain ⟨w,hw,rw'⟩:=r2.get hd;refine ⟨⟨vs2,w,hq2,hw⟩,?_⟩
   rintro x H3 ⟨rfl,hx⟩
   have:=hx vs2 hq2;rw [hw] at this;cases this;exact ⟨Frm.refl,rh2,rw'⟩
 ·exact h1.elim
def cW(lo:Int)(n:Nat):List D:=(List.range n).map fun (i:Nat)=>D.int (lo+i)
def jt(t:dm):vc:=fun δ M R=>t δ M fun ds M1=>match ds with
 |[.int j]=>-(2 ^ 62)<=j/\j<2 ^ 62/\R ⟨cW 0 j.toNat,[]⟩ M1
 |_=>False
theorem Fl{lo:Int}{n:Nat}:HY K H ⟨cW lo n,[]⟩ (Itr lo n):=fun i H2 M2 i2 rh2 _=>by
 have hlen:(cW lo n).length=n:=by simp [cW]
 refine ⟨fun d hd=>?_,fun hle=>by rw [hlen] at hle;exact hle⟩
 have hi:i<n:=by
  rcases Nat.lt_or_ge i n with h|h
  ·exact h
  ·rw [List.getElem?_eq_none (by rw [hlen];exact h)] at hd;cases hd
 have ed:d=.int (lo+i):=by
  simp only [cW,List.getElem?_map,List.getElem?_range hi] at hd;exact (Option.some.inj hd).symm
 subst ed;refine ⟨hi,?_⟩
 rintro x H3 ⟨rfl,rfl⟩
 exact ⟨Frm.refl,rh2,rfl⟩
theorem w6{a:Expr}{ta:dm}{p pos:Pos}(hg:Gl X "range")(hm:X.mg "range"=none)(ha:DA X B [a] ta)(hs:starEach [a] X.env=[(false,eval a X.env)]:=by rfl):DI X B tg (.Call (.Name "range" p) [a] [] pos) (jt ta):=by
 refine fT (vG hg hm ha hs) ?_
 rintro σ H R ⟨δ,M,RR,s,h,up⟩
 refine ⟨δ,M,_,s,h,fun ds M1 h1 vs H1 rh1 i1 r1=>?_⟩
 split at h1
 ·obtain ⟨v,rfl,rv⟩:=fw (ds:=[]) r1
  cases rv;exact ⟨_,rfl,h1.1,h1.2.1,up _ M1 h1.2.2 _ H1 rh1 i1 Fl⟩
 ·exact h1.elim
def oH(xs:List D):List D:=(xs.zipIdx).map fun p=>D.tup [.int (p.2:Nat),p.1]
theorem vp{xs:List D}{i:Nat}:(oH xs)[i]?=(xs[i]?).map fun d=>D.tup [.int (i:Nat),d]:=by
 simp [oH,List.getElem?_map,List.getElem?_zipIdx];cases xs[i]?<;>simp
def lS(t:dm):vc:=fun δ M R=>t δ M fun ds M1=>match ds with
 |[d]=>match aT M1 d with
  |some xs=>R ⟨oH xs,bv d xs⟩ M1
  |none=>False
 |_=>False
theorem Ai{a:Expr}{elts:List Expr}{x1:Nat}{tp:Pos}{ta:dm}{p pos:Pos}(hg:Gl X "enumerate")(hm:X.mg "enumerate"=none)(ha:DA X B [a] ta)(hs:starEach [a] X.env=[(false,eval a X.env)]:=by rfl):
  DI X B (.Tuple elts x1 tp) (.Call (.Name "enumerate" p) [a] [] pos) (lS ta):=by
 refine fT (z8 hg hm ha hs) ?_
 rintro σ H R ⟨δ,M,RR,s,h,up⟩
 refine ⟨δ,M,_,s,h,fun ds M1 h1 vs H1 rh1 i1 r1=>?_⟩
 split at h1
 ·obtain ⟨v,rfl,rv⟩:=fw (ds:=[]) r1
  split at h1
  ·rename_i xs e
   obtain ⟨p,b,rfl,hsrc⟩:=nk rh1 rv e;obtain ⟨vs,hq,_⟩:=hsrc H1 M1 Imm.refl rh1 (nN e);refine ⟨b,p,vs,rfl,hq,up _ M1 h1 _ H1 rh1 i1 fun i H2 M2 i2 rh2 ok2=>?_⟩;obtain ⟨vs2,hq2,r2⟩:=hsrc H2 M2 i2 rh2 ok2;have hl:=r2.length;refine ⟨fun d hd=>?_,fun hle=>⟨vs2,hq2,by rw [<- hl];simpa [oH] using hle⟩⟩
   rw [vp] at hd;obtain ⟨d0,hd0,rfl⟩:=Option.map_eq_some_iff.mp hd;obtain ⟨w,hw,rw'⟩:=r2.get hd0;refine ⟨⟨vs2,w,hq2,hw⟩,?_⟩
   rintro x H3 ⟨T,x',hT,rfl,rfl,hx⟩
   have:=hx vs2 hq2;rw [hw] at this;cases this;have i3:Imm H2 (upd H2 T (.tup [.int i,w])):=Imm.new hT;exact ⟨Frm.new hT,rh2.new hT,T,_,rfl,upd_same,.cons rfl (.cons (rw'.mono i3) .nil)⟩
  ·exact h1.elim
 ·exact h1.elim
def qo(xs ys:List D):List D:=(xs.zip ys).map fun p=>D.tup [p.1,p.2]
theorem yp{xs ys:List D}{i:Nat}{d:D}(h:(qo xs ys)[i]?=some d):∃x y,xs[i]?=some x/\ys[i]?=some y/\d=.tup [x,y]:=by
 simp only [qo,List.getElem?_map,Option.map_eq_some_iff] at h;obtain ⟨⟨x,y⟩,h1,rfl⟩:=h;rw [List.getElem?_zip_eq_some] at h1;exact ⟨x,y,h1.1,h1.2,rfl⟩
def Gw(t:dm):vc:=fun δ M R=>t δ M fun ds M1=>match ds with
 |[d,e]=>match aT M1 d,aT M1 e with
  |some xs,some ys=>R ⟨qo xs ys,bv d xs++bv e ys⟩ M1
  |_,_=>False
 |_=>False
theorem F2{a b:Expr}{elts:List Expr}{x1:Nat}{tp:Pos}{ta:dm}{p pos:Pos}(hg:Gl X "zip")(hm:X.mg "zip"=none)(ha:DA X B [a,b] ta)
  (hs:starEach [a,b] X.env=[(false,eval a X.env),(false,eval b X.env)]:=by rfl) (hs2:starEach [b] X.env=[(false,eval b X.env)]:=by rfl):
  DI X B (.Tuple elts x1 tp) (.Call (.Name "zip" p) [a,b] [] pos) (Gw ta):=by
 refine fT (Ap hg hm ha hs hs2) ?_
 rintro σ H R ⟨δ,M,RR,s,h,up⟩
 refine ⟨δ,M,_,s,h,fun ds M1 h1 vs H1 rh1 i1 r1=>?_⟩
 split at h1
 ·obtain ⟨v,w,rfl,rv,rw'⟩:=Df r1
  split at h1
  ·rename_i xs ys e1 e2
   obtain ⟨p,b,rfl,hsrc⟩:=nk rh1 rv e1;obtain ⟨p',b',rfl,hsrc'⟩:=nk rh1 rw' e2;obtain ⟨vs,hq,_⟩:=hsrc H1 M1 Imm.refl rh1 (nN e1);obtain ⟨vs',hq',_⟩:=hsrc' H1 M1 Imm.refl rh1 (nN e2);refine ⟨b,b',p,p',vs,vs',rfl,hq,hq',up _ M1 h1 _ H1 rh1 i1 fun i H2 M2 i2 rh2 ok2=>?_⟩;obtain ⟨vs2,hq2,r2⟩:=hsrc H2 M2 i2 rh2 fun q hq=>ok2 q (List.mem_append_left _ hq);obtain ⟨vs2',hq2',r2'⟩:=hsrc' H2 M2 i2 rh2 fun q hq=>ok2 q (List.mem_append_right _ hq);have hl:=r2.length;have hl':=r2'.length;refine ⟨fun d hd=>?_,fun hle=>⟨vs2,vs2',hq2,hq2',?_⟩⟩
   ·obtain ⟨x,y,hx,hy,rfl⟩:=yp hd
    obtain ⟨w1,hw1,rw1⟩:=r2.get hx;obtain ⟨w2,hw2,rw2⟩:=r2'.get hy;refine ⟨⟨vs2,vs2',w1,w2,hq2,hq2',hw1,hw2⟩,?_⟩
    rintro x H3 ⟨T,x',y',hT,rfl,rfl,hx1,hx2⟩
    have q1:=hx1 vs2 hq2;have q2:=hx2 vs2' hq2';rw [hw1] at q1;rw [hw2] at q2;cases q1;cases q2;have i3:Imm H2 (upd H2 T (.tup [w1,w2])):=Imm.new hT;exact ⟨Frm.new hT,rh2.new hT,T,_,rfl,upd_same,.cons (rw1.mono i3) (.cons (rw2.mono i3) .nil)⟩
   ·have:(qo xs ys).length=min xs.length ys.length:=by simp [qo]
    rw [this] at hle;lia
  ·exact h1.elim
 ·exact h1.elim
end
end L3
namespace L3
open PySem L2
def nQ:Bd:=⟨fun _ _=>True,fun _ _=>trivial⟩
section
variable {X:Cx}{B:Bd}{K:W.Frag}{H H':Hp}{M M':Mem}
inductive liftE0(K:W.Frag)(T:aZ)(σ:L2.St)(H:Hp)(Q:VK):Prop
 |mk (δ:Dl) (M:Mem) (QQ:DK) (rh:RepH K H M) (rs:RepS K H δ σ) (h:T δ M QQ) (u:Up K M H QQ Q):liftE0 K T σ H Q
inductive liftT0(K:W.Frag)(T:dz)(σ:L2.St)(H:Hp)(Q:Bool->Hp->Prop):Prop
 |mk (δ:Dl) (M:Mem) (QQ:Bool->Mem->Prop) (rh:RepH K H M) (rs:RepS K H δ σ) (h:T δ M QQ) (u:UpT K M H QQ Q):liftT0 K T σ H Q
inductive liftG0(K:W.Frag)(g:ii)(v:V)(σ:L2.St)(H:Hp)(Q:L2.St->Hp->Prop):Prop
 |mk (d:D) (δ:Dl) (M:Mem) (QQ:Dl->Mem->Prop) (rh:RepH K H M) (rs:RepS K H δ σ) (r:Rp K H d v) (h:g d δ M QQ) (u:∀δ' M',QQ δ' M'->∀σ' H',Frm M H M' H'->RepH K H' M'->RepS K H' δ' σ'->Q σ' H'):liftG0 K g v σ H Q
theorem qK{e:Expr}{T:aZ}(h:DE X nQ e T):PE X e (liftE0 X.K T):=aI h fun σ H Q ⟨δ,M,QQ,rh,rs,h,u⟩=>⟨δ,M,QQ,⟨trivial,rh,rs⟩,h,u⟩
theorem qX{e:Expr}{g:ii}(h:DG X nQ e g):PG X e (liftG0 X.K g):=iJ h fun v σ H Q ⟨d,δ,M,QQ,rh,rs,r,h,u⟩=>⟨d,δ,M,QQ,⟨trivial,rh,rs⟩,r,h,fun δ' M' q σ' H' f s=>u δ' M' q σ' H' f s.rh s.rs⟩
theorem RepH.add{a:Addr}{o:MO}(r:RepH K H M)(n:RepO K H a o):RepH K H (M.upd a o):=fun b p e=>by
 by_cases hb:b=a
 ·subst hb;rw [Mem.upd_same] at e;cases e;exact n
 ·rw [ae hb] at e;exact r b p e
def bq(ls:List Str)(js:List Nat)(δ:Dl):Dl:=ls.map (fun _=>none)++js.map fun j=>(δ[j]?).join
theorem RepS.start{δ:Dl}{σ:L2.St}(r:RepS K H δ σ)(ls:List Str)(js:List Nat):RepS K H (bq ls js δ) (bp ls js σ):=by
 refine ⟨by simp [bq,bp],fun i d e=>?_⟩
 unfold bq at e;unfold bp
 by_cases hi:i<ls.length
 ·rw [List.getElem?_append_left (by simpa using hi),List.getElem?_map,List.getElem?_eq_getElem hi] at e
  cases e
 ·rw [List.getElem?_append_right (by simpa using hi),List.length_map,List.getElem?_map] at e
  rw [List.getElem?_append_right (by simpa using hi),List.length_map,List.getElem?_map]
  cases hj:js[i-ls.length]? with
  |none=>rw [hj] at e;cases e
  |some j=>
   rw [hj] at e;have q:(δ[j]?).join=some d:=by simpa using e
   have q2:δ[j]?=some (some d):=by
    cases z:δ[j]? with
    |none=>rw [z] at q;cases q
    |some o=>rw [z] at q;have q':o=some d:=q;rw [q']
   obtain ⟨v,h1,h2⟩:=r.get j d q2;exact ⟨v,by simp [h1],h2⟩
structure BxC(g:ii)(tt:dz)(te:aZ)(ok:Mem->Prop)(Q:List D->Mem->Prop):Type
def ce(g:ii)(tt:dz)(te:aZ)(ok:Mem->Prop)(Q:List D->Mem->Prop)(b:BxC g tt te ok Q):List D->List D->Dl->Mem->Prop
 |[],acc,_,M=>ok M/\Q acc M
 |x::xs,acc,δ,M=>ok M/\g x δ M fun δ2 M2=>tt δ2 M2 fun c M3=>if c=true then te δ2 M3 fun y M4=>acc.length<sizeLine/\ce g tt te ok Q b xs (acc++[y]) δ2 M4 else ce g tt te ok Q b xs acc δ2 M3
def aV(wi:vc)(ls:List Str)(js:List Nat)(g:ii)(tt:dz)(te:aZ):aZ:=fun δ M Q=>wi δ M fun it M1=>ce g tt te it.ok (fun acc M'=>∀p,M' p=none->Q (.ref p) (M'.upd p (.lst acc))) ⟨⟩ it.items [] (bq ls js δ) M1
theorem xO{g:ii}{tt:dz}{te:aZ}{ok:Mem->Prop}{xs acc:List D}{δ:Dl}{Q:List D->Mem->Prop}{b:BxC g tt te ok Q}(h:ce g tt te ok Q b xs acc δ M):ok M:=by
 cases xs with
 |nil=>exact h.1
 |cons _ _=>exact h.1
variable {tg iter elt:Expr}{ifs:List Expr}{scope:Scope}{cl:List (Str×Addr)}{pos:Pos}{ls fs:List Str}{js:List Nat}{wi:vc}{g:ii}{tt:dz}{te:aZ}
theorem gE{σ:L2.St}{Q:VK}(h:liftE X B (aV wi ls js g tt te) σ H Q):sZ (liftI X B wi) ls js (liftG0 X.K g) (liftT0 X.K tt) (liftE0 X.K te) σ H Q:=by
 obtain ⟨δ,M,QQ,s,h,u⟩:=h;refine ⟨δ,M,_,s,h,fun it M1 h1 J H1 rh1 f1 hJ p hp=>?_⟩;have hMp:M1 p=none:=rh1.fresh hp
 refine ⟨fun i m σ' H'=>m=it.items.length-i/\i<=it.items.length/\∃δ' M' acc ys,RepH X.K H' M'/\RepS X.K H' δ' σ'/\H' p=some (.lst ys)/\Rps X.K H' acc ys/\M' p=none/\Frm M1 H1 M' H'/\
   ce g tt te it.ok (fun acc M'=>∀p,M' p=none->QQ (.ref p) (M'.upd p (.lst acc))) ⟨⟩ (it.items.drop i) acc δ' M',
  ⟨_,rfl,Nat.zero_le _,bq ls js δ,M1,[],[],rh1.new hp,((s.rs.mono (f1.imm s.rh)).mono (Imm.new hp)).start ls js,upd_same,.nil,hMp,Frm.new hp,h1⟩,?_⟩
 rintro i m σ2 H2 ⟨rfl,hi,δ2,M2,acc,ys,rh2,rs2,hp2,ra2,hm2,f2,h2⟩
 have hok:=xO h2;obtain ⟨hgo,hstop⟩:=hJ i H2 M2 (f2.imm rh1) rh2 hok
 by_cases hlt:i<it.items.length
 ·rw [List.drop_eq_getElem_cons hlt] at h2
  obtain ⟨go,hy⟩:=hgo _ (List.getElem?_eq_getElem hlt)
  refine .inr ⟨go,fun σ' H'=>∃δ' M' acc ys,RepH X.K H' M'/\RepS X.K H' δ' σ'/\H' p=some (.lst ys)/\Rps X.K H' acc ys/\M' p=none/\Frm M1 H1 M' H'/\
   ce g tt te it.ok (fun acc M'=>∀p,M' p=none->QQ (.ref p) (M'.upd p (.lst acc))) ⟨⟩ (it.items.drop (i+1)) acc δ' M',fun σ' H' z=>⟨it.items.length-(i+1),by omega,rfl,hlt,z⟩,fun x H3 hx=>?_⟩
  obtain ⟨f3,rh3,rx⟩:=hy x H3 hx;refine ⟨_,δ2,M2,_,rh3,rs2.mono (f3.imm rh2),rx,h2.2,fun δ4 M4 h4 σ4 H4 f4 rh4 rs4=>?_⟩;refine ⟨δ4,M4,_,rh4,rs4,h4,fun c M5 h5 H5 rh5 f5=>?_⟩;have f35:=(f3.trans f4).trans f5;obtain ⟨hp5,hm5⟩:=f35.keep p _ hp2 hm2;cases c with
  |false=>
   try dsimp only
   rw [if_neg Bool.false_ne_true] at h5 ⊢;exact ⟨δ4,M5,acc,ys,rh5,rs4.mono (f5.imm rh4),hp5,ra2.mf rh2 f35,hm5,f2.trans f35,h5⟩
  |true=>
   try dsimp only
   rw [if_pos rfl] at h5 ⊢;refine ⟨δ4,M5,_,rh5,rs4.mono (f5.imm rh4),h5,fun y M6 h6 v6 H6 rh6 f6 r6=>?_⟩;obtain ⟨hp6,hm6⟩:=f6.keep p _ hp5 hm5;have f26:=f35.trans f6;have ra6:=ra2.mf rh2 f26;refine ⟨ys,hp6,by rw [<- ra6.length];exact h6.1,?_⟩
   have im:Imm H6 (upd H6 p (.lst (ys++[v6]))):=Imm.upd (by rw [hp6];trivial)
   refine ⟨δ4,M6,acc++[y],ys++[v6],rh6.keep im fun b o hb=>av (Mem.ne hb hm6),((rs4.mono (f5.imm rh4)).mono (f6.imm rh5)).mono im,upd_same,(ra6.append (.cons r6 .nil)).mono im,hm6,?_,h6.2⟩;refine ⟨fun b w e n=>?_⟩;obtain ⟨e2,n2⟩:=(f2.trans f26).keep b w e n;exact ⟨by rw [av (aW e hp)];exact e2,n2⟩
 ·rw [List.drop_eq_nil_of_le (by omega)] at h2
  refine .inl ⟨hstop (by omega),u _ _ (h2.2 p hm2) _ H2 (rh2.add ⟨ys,hp2,ra2⟩) ?_ rfl⟩
  refine ⟨fun b w e n=>?_⟩;obtain ⟨e1,n1⟩:=f1.keep b w e n;obtain ⟨e2,n2⟩:=f2.keep b w e1 n1;exact ⟨e2,by rw [ae (aW e1 hp)];exact n2⟩
def BN(X:Cx)(B:Bd)(ifs:List Expr)(T:dz):Prop:=AC X ifs (liftT X B T)
def dw:dz:=fun _ M Q=>Q true M
theorem Bh:BN X B [] dw:=fun pins s σ H Q I zz=>by obtain ⟨δ,M,QQ,sr,h,u⟩:=zz;exact A4 pins s σ H Q I (u true M h H sr.rh Frm.refl)
theorem B7{c:Expr}{t:dz}(h:DT X B c t):BN X B [c] t:=zH h
theorem mZ{es:List Expr}{T:dz}(h:BN X nQ es T):AC X es (liftT0 X.K T):=fun pins s σ H Q I zz=>by obtain ⟨δ,M,QQ,rh,rs,hT,u⟩:=zz;exact h pins s σ H Q I ⟨δ,M,QQ,⟨trivial,rh,rs⟩,hT,u⟩
theorem Bv(hc:X.calm=true)(co:CompOk X scope cl ls fs js)(hi:DI X B tg iter wi)
  (hY:∀(C:Addr) (s₀:Shared) (H₀:Hp) (fp:List Addr) (pl:List (Addr×Obj)),DG (aU X (ls++fs) scope cl C s₀ H₀ fp pl) nQ tg g/\BN (aU X (ls++fs) scope cl C s₀ H₀ fp pl) nQ ifs tt/\DE (aU X (ls++fs) scope cl C s₀ H₀ fp pl) nQ elt te)
  (hs:∀x,foldedSetIterable iter X.env x=pure x:=by intro _;rfl):DE X B (.ListComp elt [⟨tg,iter,ifs,0⟩] scope pos) (aV wi ls js g tt te):=
 aI (B1 (g:=liftG0 X.K g) (tt:=liftT0 X.K tt) (te:=liftE0 X.K te) hc co hi (fun C s₀ H₀ fp pl=>⟨qX (hY C s₀ H₀ fp pl).1,mZ (hY C s₀ H₀ fp pl).2.1,qK (hY C s₀ H₀ fp pl).2.2⟩) hs) fun _ _ _ h=>gE h
def eh(i:Nat)(t:aZ):au:=fun D δ M=>t δ M fun d M1=>D.nx (δ.set i (some d)) M1
theorem A6{i:Nat}{x:Str}{px spos:Pos}(hN:X.N.Nodup)(hix:X.N[i]?=some x)(hx:wj X.env.scope x)(hc:X.calm=true)(co:CompOk X scope cl ls fs js)(hi:DI X B tg iter wi)
  (hY:∀(C:Addr) (s₀:Shared) (H₀:Hp) (fp:List Addr) (pl:List (Addr×Obj)),DG (aU X (ls++fs) scope cl C s₀ H₀ fp pl) nQ tg g/\BN (aU X (ls++fs) scope cl C s₀ H₀ fp pl) nQ ifs tt/\DE (aU X (ls++fs) scope cl C s₀ H₀ fp pl) nQ elt te)
  (hsw:swapsWith (.ListComp elt [⟨tg,iter,ifs,0⟩] scope pos) (some (.Name x px)) spos.line X.env=pure true:=by rfl)
  (hs:∀x,foldedSetIterable iter X.env x=pure x:=by intro _;rfl) (hf:X.fn x=true\/X.env.scope.names.lookup x=some .local:=by first|exact .inl rfl|exact .inr rfl|assumption):
  DS X B (.Assign [.Name x px] (.ListComp elt [⟨tg,iter,ifs,0⟩] scope pos) spos) (eh i (aV wi ls js g tt te)):=by
 refine bt (Ae (g:=liftG0 X.K g) (tt:=liftT0 X.K tt) (te:=liftE0 X.K te) hN hix hx hc co hi (fun C s₀ H₀ fp pl=>⟨qX (hY C s₀ H₀ fp pl).1,mZ (hY C s₀ H₀ fp pl).2.1,qK (hY C s₀ H₀ fp pl).2.2⟩) hsw hs hf) ?_
 rintro D σ H ⟨δ,M,DD,s,h,up⟩
 refine gE ⟨δ,M,_,s,h,fun d M' q v H' rh f r=>?_⟩;exact up.nx _ M' q _ H' f ((s.go rh f).set r)
def gh(i:Nat)(δ:Dl)(M:Mem)(Q:Dl->Mem->Prop):Prop:=match δ[i]? with
 |some (some (.ref a))=>match M a with
  |some (.lst xs)=>Q (δ.set i (some (.lst xs))) (M.del a)
  |_=>Q δ M
 |_=>Q δ M
def dL(t:au)(i:Nat):au:=fun D δ M=>t { D with nx:=fun δ' M'=>gh i δ' M' D.nx } δ M
theorem nX{α:Type}:∀{l:List α} {i:Nat} {x:α},l[i]?=some x->l.set i x=l
 |[],_,_,h=>by simp at h
 |_::_,0,_,h=>by simp at h;subst h;rfl
 |_::_,i+1,_,h=>by rw [List.set_cons_succ,nX (by simpa using h)]
theorem DZ{st:Stmt}{t:au}(i:Nat)(h:DS X B st t):DS X B st (dL t i):=by
 intro pins s σ H D I ⟨δ,M,DD,sr,hT,up⟩;refine a_ (h pins s σ H { D with nx:=fun σ' H'=>∃δ' M',gh i δ' M' DD.nx/\Frm M H M' H'/\SR X B δ' M' σ' H' } I ⟨δ,M,_,sr,hT,⟨fun δ' M' q σ' H' f s'=>⟨δ',M',q,f,s'⟩,up.rt,up.bk,up.ct⟩⟩) fun f s' q=>?_;cases f with
 |next=>
  obtain ⟨σ',H',I',δ',M',q,f,s'⟩:=q;unfold gh at q
  split at q
  ·rename_i a ea
   split at q
   ·rename_i xs e
    obtain ⟨vs,h1,h2⟩:=s'.rh _ _ e;obtain ⟨o,I2⟩:=Inv.freeze I' h1;have im:Imm H' (upd H' a (.frz o (.lst vs))):=Imm.upd (by rw [h1];trivial)
    obtain ⟨v,hv,rv⟩:=s'.rs.get i _ ea;cases rv;refine ⟨σ',_,I2,up.nx _ _ q σ' _ (f.trans (Frm.del ⟨_,e⟩)) ⟨B.go s'.i0 (Frm.del ⟨_,e⟩),s'.rh.freeze h1,?_⟩⟩;have:=(s'.rs.mono im).set (i:=i) (d:=.lst xs) (v:=.ref a) ⟨a,vs,rfl,⟨o,upd_same⟩,h2.mono im⟩
    rwa [nX hv] at this
   ·exact ⟨σ',H',I',up.nx _ _ q σ' H' f s'⟩
  ·exact ⟨σ',H',I',up.nx _ _ q σ' H' f s'⟩
 |brk=>exact q
 |cont=>exact q
 |ret u=>exact q
end
end L3
namespace L3
open PySem L2
abbrev DX:=Addr->Mem->Prop
abbrev Sd:=List D->Mem->DK->DX->Prop
def lU(P:Program)(w:World):kF:=fun outer H s E e s'=>∃C,pR P w C outer H s E e s'
def UpX(K:W.Frag)(M:Mem)(H:Hp)(EE:DX)(E:XK):Prop:=∀C M',EE C M'->∀H',RepH K H' M'->Frm M H M' H'->E (.ref C) none H'
def ph(K:W.Frag)(B:Bd)(EE:DX)(E:XK):Prop:=∀C M',EE C M'->∀H',RepH K H' M'->B.p M' H'->E (.ref C) none H'
theorem UpX.go{K:W.Frag}{M M1:Mem}{H H1:Hp}{EE:DX}{E:XK}(u:UpX K M H EE E)(i:Frm M H M1 H1):UpX K M1 H1 EE E:=fun C M' q H' a b=>u C M' q H' a (i.trans b)
def bi(K:W.Frag)(n:Nat)(T:Sd):Sp:=fun vs H Q E=>vs.length=n/\∃ds M QQ EE,RepH K H M/\Rps K H ds vs/\T ds M QQ EE/\Up K M H QQ Q/\UpX K M H EE E
def startN(N:List Str)(ds:List D):Dl:=ds.map some++List.replicate (N.length-ds.length) none
theorem RepS.startN{K:W.Frag}{H:Hp}{ds:List D}{vs:List V}(N:List Str)(r:Rps K H ds vs):RepS K H (L3.startN N ds) (L2.start N vs):=by
 have hl:=r.length;refine ⟨by simp [L3.startN,L2.start,hl],fun i d e=>?_⟩
 unfold L3.startN at e;unfold L2.start
 by_cases hi:i<ds.length
 ·rw [List.getElem?_append_left (by simpa using hi),List.getElem?_map,List.getElem?_eq_getElem hi] at e
  have e':ds[i]=d:=by simpa using e
  obtain ⟨v,h1,h2⟩:=r.get (i:=i) (d:=d) (by rw [List.getElem?_eq_getElem hi,e'])
  refine ⟨v,?_,h2⟩;rw [List.getElem?_append_left (by simp;lia),List.getElem?_map,h1]
  rfl
 ·rw [List.getElem?_append_right (by simpa using hi),List.getElem?_replicate] at e
  split at e<;>cases e
section
variable {P:Program}{w:World}{K:W.Frag}{mg:Str->Option Value}{base:Heap}{f:Addr}{fd:FuncData}
def drp(Q:DK)(d:D)(M':Mem):Prop:=∃M'',(∀b o,M'' b=some o->M' b=some o)/\Q d M''
def ay(EE:DX)(C:Addr)(M':Mem):Prop:=∃M'',(∀b o,M'' b=some o->M' b=some o)/\EE C M''
theorem aj{Q:DK}{d:D}{M':Mem}(h:Q d M'):drp Q d M':=⟨M',fun _ _ e=>e,h⟩
theorem cP{EE:DX}{C:Addr}{M':Mem}(h:EE C M'):ay EE C M':=⟨M',fun _ _ e=>e,h⟩
theorem Frm.less{M M' M'':Mem}{H H':Hp}(f:Frm M H M' H')(s:∀b o,M'' b=some o->M' b=some o):Frm M H M'' H':=⟨fun b u e n=>by
 obtain ⟨e',n'⟩:=f.keep b u e n;refine ⟨e',?_⟩;cases q:M'' b with
 |none=>rfl
 |some o=>rw [s b o q] at n';cases n'⟩
theorem Up.drp{M:Mem}{H:Hp}{Q:DK}{QV:VK}(u:Up K M H Q QV):Up K M H (L3.drp Q) QV:=fun d M' ⟨M'',s,q⟩ v H' rh f r=>u d M'' q v H' (fun b o e=>rh b o (s b o e)) (f.less s) r
theorem UpX.drp{M:Mem}{H:Hp}{EE:DX}{E:XK}(u:UpX K M H EE E):UpX K M H (ay EE) E:=fun C M' ⟨M'',s,q⟩ H' rh f=>u C M'' q H' (fun b o e=>rh b o (s b o e)) (f.less s)
def aJ(N:List Str)(T:DX->au):Sd:=fun ds M Q EE=>T (ay EE) { nx:=fun _ M'=>drp Q .non M',rt:=drp Q } (startN N ds) M
theorem fnD{x qual:Str}{st:Stmt}{N ps:List Str}{k:Nat}{T:DX->au}(F:Fun K x qual st f fd)(S:FnScope N ps (aA st))
  (hb:∀(cdv:Value) (A:Around) (outer:List Env) (s:Shared) (H:Hp) (E:XK) (B:Bd) (EE:DX),Room k (A.deeper (PyProof.Rows.envOfC qual (aA st) s.heap.objs.size f cdv))->ph K B EE E->
   tB (cF (lU P w) P w K mg base N qual (aA st) f cdv A outer s H E) B (bf st) (T EE)):
  FnOk P w K mg base (lU P w) (k+1) f fd ps (bi K ps.length (aJ N T)):=by
 obtain ⟨oc,od,kV,doc,pm,an,cdv,ct,osl,rfl,lk,hcd⟩:=F.ex;refine CK lk hcd S (fun vs H Q E h=>h.1) fun A outer s H vs Q E hr hsp=>?_;obtain ⟨hl,ds,M,QQ,EE,rh,r,hT,u,ux⟩:=hsp;refine ⟨_,hb cdv A outer s H E (Bd.of M H) (ay EE) hr ux.drp,startN N ds,M,{ nx:=fun _ M'=>drp QQ .non M',rt:=drp QQ },⟨Frm.refl,rh,.startN N r⟩,hT,⟨?_,u.drp,?_,?_⟩⟩
 ·exact fun δ M' q σ H' f s'=>u.drp _ M' q _ H' s'.rh f rfl
 ·exact fun δ M' q=>(show False from q).elim
 ·exact fun δ M' q=>(show False from q).elim
theorem gB{ps:List Str}{k n:Nat}{CX:kF}:FnOk P w K mg base CX k f fd ps (bi K n fun _ _ _ _=>False):=
 ⟨fun vs H Q E h=>(by obtain ⟨_,_,_,_,_,_,_,h,_⟩:=h;exact h.elim),fun A outer s H args us vs Q E _ _ _ _ h=>(by obtain ⟨_,_,_,_,_,_,_,h,_⟩:=h;exact h.elim)⟩
theorem wP{N:List Str}{qual:Str}{scope:Scope}{cd:Value}{A:Around}{outer:List Env}{s0:Shared}{H0:Hp}{E:XK}:br (lU P w) (cF (lU P w) P w K mg base N qual scope f cd A outer s0 H0 E) E:=by
 intro pins σ H s e s' I ⟨C,hx⟩;have I':Inv (cF (pR P w C) P w K mg base N qual scope f cd A outer s0 H0 E) pins σ H s:=I.wish _;have:=FW pins σ H s e s' I' hx;exact wpAny_mono this (fun _ _ z=>⟨C,z⟩) fun _ _ z=>⟨C,z⟩
theorem wK{X:Cx}:br (lU P w) X E0:=fun pins σ H s e s' I ⟨C,hx⟩=>by
 obtain ⟨_,_,_,_,_,_,_,_,_,_,_,_,hE⟩:=hx;exact (show False from hE).elim
end
def Sub(M1 M:Mem):Prop:=∀b o,M1 b=some o->M b=some o
def Dis(M1 M M':Mem):Prop:=∀b o,M b=some o->M1 b=none->M' b=none
def plus(M' M1 M:Mem):Mem:=fun b=>match M' b with
 |some o=>some o
 |none=>match M1 b with
  |some _=>none
  |none=>M b
theorem ly{M' M:Mem}:plus M' M M=M':=by
 funext b;simp only [plus];cases h:M' b with
 |some o=>rfl
 |none=>cases h2:M b<;>rfl
structure BxQ(EE:DX)(Q:DK):Type
structure calls(T:Sd)(EE:DX)(ds:List D)(M:Mem)(Q:DK)(_:BxQ EE Q):Prop where
 go:∃M1,Sub M1 M/\T ds M1 (fun d M'=>Dis M1 M M'->Q d (plus M' M1 M)) (fun C M'=>Dis M1 M M'->EE C (plus M' M1 M))
section
variable {X:Cx}{B:Bd}{K:W.Frag}{H H':Hp}{M M1 M':Mem}
theorem RepH.sub(r:RepH K H M)(s:Sub M1 M):RepH K H M1:=fun b o e=>r b o (s b o e)
theorem RepH.dis(r:RepH K H M)(f:Frm M1 H M' H'):Dis M1 M M':=fun b o e n=>by
 obtain ⟨u,q⟩:=(r b o e).obj;exact (f.keep b u q n).2
theorem RepH.plus(r:RepH K H M)(s:Sub M1 M)(r':RepH K H' M')(f:Frm M1 H M' H'):RepH K H' (plus M' M1 M):=fun b o e=>by
 simp only [L3.plus] at e
 split at e
 ·rename_i o' q;cases e;exact r' b _ q
 ·split at e
  ·cases e
  ·rename_i q n
   obtain ⟨u,hu⟩:=(r b o e).obj;exact (r b o e).keep (f.imm (r.sub s)) ((f.keep b u hu n).1.trans hu.symm)
theorem Frm.plus(s:Sub M1 M)(f:Frm M1 H M' H'):Frm M H (plus M' M1 M) H':=⟨fun b u e n=>by
 have n1:M1 b=none:=by
  cases q:M1 b with
  |none=>rfl
  |some o=>rw [s b o q] at n;cases n
 obtain ⟨e',n'⟩:=f.keep b u e n1;exact ⟨e',by simp only [L3.plus,n',n1,n]⟩⟩
theorem bX{T:Sd}{EE:DX}{ds:List D}{vs:List V}{Q:DK}{n:Nat}{QV:VK}{E:XK}{b:BxQ EE Q}(h:calls T EE ds M Q b)(rh:RepH K H M)(r:Rps K H ds vs)(hl:vs.length=n)(u:Up K M H Q QV)(ux:UpX K M H EE E):bi K n T vs H QV E:=by
 obtain ⟨M1,s,h⟩:=h.go;refine ⟨hl,ds,M1,_,_,rh.sub s,r,h,fun d M' q v H' rh' f r'=>?_,fun C M' q H' rh' f=>?_⟩
 ·exact u d _ (q (rh.dis f)) v H' (rh.plus s rh' f) (f.plus s) r'
 ·exact ux C _ (q (rh.dis f)) H' (rh.plus s rh' f) (f.plus s)
theorem ao{T:Sd}{EE:DX}{ds:List D}{Q:DK}{b:BxQ EE Q}(hm:∀Q' E',(∀d M,Q d M->Q' d M)->(∀C M,EE C M->E' C M)->T ds M Q' E'):calls T EE ds M Q b:=
 ⟨M,fun _ _ e=>e,hm _ _ (fun d M' q _=>by rw [ly];exact q) fun C M' q _=>by rw [ly];exact q⟩
variable {CX:kF}{k n:Nat}{f C:Addr}{fd:FuncData}{ps:List Str}{T:Sd}{EE:DX}{E:XK}{x m:Str}{p pos apos:Pos}{e o:Expr}{es:List Expr}{ta:aZ}{t:dm}
def ak(T:Sd)(EE:DX)(n:Nat)(t:dm):aZ:=fun δ M Q=>t δ M fun ds M1=>ds.length=n/\calls T EE ds M1 Q ⟨⟩
theorem SR.ux{δ:Dl}{σ:L2.St}(s:SR X B δ M σ H)(ux:ph X.K B EE E):UpX X.K M H EE E:=fun C M' q H' a b=>ux C M' q H' a (B.go s.i0 b)
theorem nH(F:FnOk X.prog X.w X.K X.mg X.base CX k f fd ps (bi X.K n T))(hr:Room k X.A)(hg:Gl X x)(hm:X.mg x=some (.ref f))(hk:W.keepIn X.K (.ref f)=true)(hb:Binds X.K fd ps [])(hx:br CX X E)(ux:ph X.K B EE E)
  (ha:DA X B (e::es) t) (hdb:(x==("__debug__":Str))=false:=by decide) (he:starEach (e::es) X.env=(false,eval e X.env)::starEach es X.env:=by rfl) (hpl:(backTo pos (starEach es X.env)).any (·.1)=false:=by rfl):
  DE X B (.Call (.Name x p) (e::es) [] pos) (ak T EE n t):=by
 refine aI (sO F hr hg hm hk hb .nil hx ha hdb he hpl) ?_
 rintro σ H Q ⟨δ,M,QQ,s,h,u⟩
 refine ⟨δ,M,_,s,h,fun ds M1 h1 vs H1 rh1 i1 r1=>?_⟩
 try dsimp only
 rw [List.append_nil];exact bX h1.2 rh1 r1 (by rw [<- r1.length];exact h1.1) (u.go i1) ((s.ux ux).go i1)
def cg(C:Addr)(m:Str)(T:Sd)(EE:DX)(n:Nat)(ta:aZ)(t:dm):aZ:=fun δ M Q=>ta δ M fun x M1=>match x with
 |.ref a=>match M1 a with
  |some (.ins C' fs)=>C'=C/\fs.lookup m=none/\t δ M1 fun ds M2=>ds.length+1=n/\calls T EE (.ref a::ds) M2 Q ⟨⟩
  |_=>False
 |_=>False
theorem BG{pl:Sem Bool}(he:DE X B o ta)(c:Cls X.K C)(hm:Meth X.K C m f)(F:FnOk X.prog X.w X.K X.mg X.base CX k f fd ps (bi X.K n T))(hr:Room k X.A)(hb:Binds X.K fd ps [])(hx:br CX X E)(ux:ph X.K B EE E)(ha:DA X B (e::es) t)
  (hst:starEach (e::es) X.env=(false,eval e X.env)::starEach es X.env:=by rfl) (hpl:(backTo pos (starEach es X.env)).any (·.1)=false:=by rfl)
  (ht:eval (.Call (.Attribute o m apos) (e::es) [] pos) X.env=(do
   let ov <- eval o X.env
   standAt apos.atName
   let (f,first) <- holding [ov] (getMethod ov m pl)
   callWith pos f first (backTo pos (starEach (e::es) X.env)) (backToKw pos (keywordEach [] X.env))):=by rfl):
  DE X B (.Call (.Attribute o m apos) (e::es) [] pos) (cg C m T EE n ta t):=by
 refine aI (zS he c hm F hr hb .nil hx ha hst hpl ht) ?_
 rintro σ H Q ⟨δ,M,QQ,s,h,u⟩
 refine ⟨δ,M,_,s,h,fun x M1 h1 v H1 rh1 i1 r1=>?_⟩
 split at h1
 ·rename_i a
  cases r1
  split at h1
  ·rename_i C' fs hM
   obtain ⟨rfl,hl,h1⟩:=h1;obtain ⟨dx,ws,e1,e2⟩:=rh1 _ _ hM;have hl':ws.lookup m=none:=by
    rcases e2.lookup m with ⟨_,z⟩|⟨d,v,z,_⟩
    ·exact z
    ·rw [hl] at z;cases z
   refine ⟨a,dx,ws,rfl,e1,hl',δ,M1,_,s.go rh1 i1,h1,fun ds M2 h2 vs H2 rh2 i2 r2=>?_⟩
   try dsimp only
   rw [List.append_nil];exact bX (ds:=.ref a::ds) h2.2 rh2 (.cons rfl r2) (by rw [List.length_cons,<- r2.length];exact h2.1) (u.go (i1.trans i2)) ((s.ux ux).go (i1.trans i2))
  ·exact h1.elim
 ·exact h1.elim
theorem yt{pl:Sem Bool}(he:DE X B o ta)(c:Cls X.K C)(hm:Meth X.K C m f)(F:FnOk X.prog X.w X.K X.mg X.base CX k f fd ps (bi X.K n T))(hr:Room k X.A)(hb:Binds X.K fd ps [])(hx:br CX X E)(ux:ph X.K B EE E)
  (ht:eval (.Call (.Attribute o m apos) [] [] pos) X.env=(do
   let ov <- eval o X.env
   standAt apos.atName
   let (f,first) <- holding [ov] (getMethod ov m pl)
   callWith pos f first (backTo pos (starEach [] X.env)) (backToKw pos (keywordEach [] X.env))):=by rfl):
  DE X B (.Call (.Attribute o m apos) [] [] pos) (cg C m T EE n ta af):=by
 refine aI (xr he c hm F hr hb .nil hx ht) ?_
 rintro σ H Q ⟨δ,M,QQ,s,h,u⟩
 refine ⟨δ,M,_,s,h,fun x M1 h1 v H1 rh1 i1 r1=>?_⟩
 split at h1
 ·rename_i a
  cases r1
  split at h1
  ·rename_i C' fs hM
   obtain ⟨rfl,hl,h1⟩:=h1;obtain ⟨dx,ws,e1,e2⟩:=rh1 _ _ hM;have hl':ws.lookup m=none:=by
    rcases e2.lookup m with ⟨_,z⟩|⟨d,v,z,_⟩
    ·exact z
    ·rw [hl] at z;cases z
   refine ⟨a,dx,ws,rfl,e1,hl',?_⟩;exact bX (ds:=[.ref a]) h1.2 rh1 (.cons rfl .nil) h1.1 (u.go i1) ((s.ux ux).go i1)
  ·exact h1.elim
 ·exact h1.elim
def dP(C:Addr)(T:Sd)(EE:DX)(n:Nat)(t:dm):aZ:=fun δ M Q=>t δ M fun ds M1=>ds.length+1=n/\∀a,M1 a=none->calls T EE (.ref a::ds) (M1.upd a (.ins C [])) (fun d M2=>match d with
 |.non=>Q (.ref a) M2
 |_=>False) ⟨⟩
theorem AB(Mk':Mk X.K C f)(F:FnOk X.prog X.w X.K X.mg X.base CX k f fd ps (bi X.K n T))(hr:Room (k+1) X.A)(hg:Gl X x)(hm:X.mg x=some (.ref C))(hb:Binds X.K fd ps [])(hx:br CX X E)(ux:ph X.K B EE E)
  (ha:DA X B (e::es) t) (hdb:(x==("__debug__":Str))=false:=by decide) (he:starEach (e::es) X.env=(false,eval e X.env)::starEach es X.env:=by rfl) (hpl:(backTo pos (starEach es X.env)).any (·.1)=false:=by rfl):
  DE X B (.Call (.Name x p) (e::es) [] pos) (dP C T EE n t):=by
 refine aI (zB Mk' F hr hg hm hb .nil hx ha hdb he hpl) ?_
 rintro σ H Q ⟨δ,M,QQ,s,h,u⟩
 refine ⟨δ,M,_,s,h,fun ds M1 h1 vs H1 rh1 i1 r1 a dx na ndx nex=>?_⟩;rw [List.append_nil];have nx1:upd H1 dx (.own a) a=none:=by rw [av (Ne.symm nex)];exact na
 have im1:Imm H1 (upd H1 dx (.own a)):=Imm.new ndx;have im2:Imm (upd H1 dx (.own a)) (upd (upd H1 dx (.own a)) a (.ins C dx [])):=Imm.new nx1;have rh2:RepH X.K (upd (upd H1 dx (.own a)) a (.ins C dx [])) (M1.upd a (.ins C [])):=(rh1.new ndx).put (by rw [nx1];trivial) ⟨dx,[],upd_same,.nil⟩
 have f2:Frm M1 H1 (M1.upd a (.ins C [])) (upd (upd H1 dx (.own a)) a (.ins C dx [])):=(Frm.new ndx).trans (Frm.put (.inl nx1));refine bX (h1.2 a (rh1.fresh na)) rh2 (.cons rfl ((r1.mono im1).mono im2)) (by rw [List.length_cons,<- r1.length];exact h1.1) (fun d M2 h2 v H2 rh f r=>?_) ((s.ux ux).go (i1.trans f2))
 cases d with
 |non=>exact ⟨r,u _ M2 h2 _ H2 rh ((i1.trans f2).trans f) rfl⟩
 |_=>exact (show False from h2).elim
end
end L3
namespace L3
open PySem L2
section
variable {X:Cx}{B:Bd}{K:W.Frag}{H H':Hp}{M M1 M':Mem}{o e:Expr}{es:List Expr}{to:aZ}{t:dm}{name:Str}{apos cpos:Pos}{Ty id:String}
abbrev vU:=D->List D->Mem->DK->Prop
inductive liftM(X:Cx)(r:vU)(x:V)(xs:List V)(H:Hp)(Q:VK):Prop
 |mk (d:D) (ds:List D) (M:Mem) (QQ:DK) (rh:RepH X.K H M) (rx:Rp X.K H d x) (rs:Rps X.K H ds xs) (h:r d ds M QQ) (u:Up X.K M H QQ Q):liftM X r x xs H Q
def kC(Ty:String)(r:vU)(to:aZ)(t:dm):aZ:=fun δ M Q=>to δ M fun x M1=>cH M1 x=some Ty/\t δ M1 fun ds M2=>r x ds M2 Q
theorem wu{d:D}{v:V}(rh:RepH K H M)(r:Rp K H d v)(e:cH M d=some Ty)(h:Ty="list"\/Ty="str"\/Ty="int"\/Ty="dict"):tyV K Ty v H:=by
 cases d with
 |non=>cases e;rcases h with h|h|h|h<;>exact absurd h (by decide)
 |bl b=>cases e;rcases h with h|h|h|h<;>exact absurd h (by decide)
 |int i=>cases r;cases e;rfl
 |str x=>cases r;cases e;rfl
 |tup xs=>cases e;rcases h with h|h|h|h<;>exact absurd h (by decide)
 |lst xs=>
  cases e;obtain ⟨p,vs,rfl,hf,r⟩:=r;exact .inl ⟨rfl,vs,hf.sq⟩
 |ref a=>
  cases r;simp only [cH] at e
  split at e
  ·rename_i q;cases e;obtain ⟨ws,h1,h2⟩:=rh _ _ q;exact .inl ⟨rfl,ws,SqL.of h1⟩
  ·rename_i q;cases e;obtain ⟨ws,h1,h2⟩:=rh _ _ q;exact .inr (.inr (.inl ⟨rfl,.inl ⟨ws,h1⟩⟩))
  ·rename_i q;cases e;obtain ⟨ws,h1,h2⟩:=rh _ _ q;exact .inr (.inr (.inl ⟨rfl,.inr ⟨ws,h1⟩⟩))
  ·cases e
 |_=>cases e
theorem GR{r:vU}(hT:Ty="list"\/Ty="str"\/Ty="int"\/Ty="dict")(pa:PlainAttrs Ty)(slot:Slot Ty name id)(hty:typeOf (.builtin id)=pure (.type "method_descriptor"))(hm:tY X id (liftM X r))(ho:DE X B o to)(ha:DA X B (e::es) t)
  (hbase:attributeBase o name X.env (eval o X.env)=eval o X.env:=by rfl)
  (hfew:((backTo cpos (starEach (e::es) X.env)).all (fun x=>!x.1)&&(backToKw cpos (keywordEach [] X.env)).all (fun x=>x.1.isSome)
   && decide ((e::es).length+([]:List Keyword).length+(if ([]:List Keyword).isEmpty then 0 else 1)<30))=true:=by rfl)
  (hline:(apos.endLine==cpos.line)=true:=by rfl) (hs:starEach (e::es) X.env=(false,eval e X.env)::starEach es X.env:=by rfl) (hplain:(backTo cpos (starEach es X.env)).any (·.1)=false:=by rfl):
  DE X B (.Call (.Attribute o name apos) (e::es) [] cpos) (kC Ty r to t):=by
 refine aI (GD pa slot hty hm ho ha hbase hfew hline hs hplain) ?_
 rintro σ H Q ⟨δ,M,QQ,s,h,u⟩
 refine ⟨δ,M,_,s,h,fun x M1 h1 v H1 rh1 i1 r1=>⟨wu rh1 r1 h1.1 hT,δ,M1,_,s.go rh1 i1,h1.2,fun ds M2 h2 vs H2 rh2 i2 r2=>?_⟩⟩;exact ⟨x,ds,M2,QQ,rh2,r1.mf rh1 i2,r2,h2,u.go (i1.trans i2)⟩
theorem ED{r:vU}(hT:Ty="list"\/Ty="str"\/Ty="int"\/Ty="dict")(pa:PlainAttrs Ty)(slot:Slot Ty name id)(hty:typeOf (.builtin id)=pure (.type "method_descriptor"))(hm:tY X id (liftM X r))(ho:DE X B o to)
  (hbase:attributeBase o name X.env (eval o X.env)=eval o X.env:=by rfl) (hline:(apos.endLine==cpos.line)=true:=by rfl):DE X B (.Call (.Attribute o name apos) [] [] cpos) (kC Ty r to af):=by
 refine aI (EC pa slot hty hm ho hbase hline) ?_
 rintro σ H Q ⟨δ,M,QQ,s,h,u⟩
 refine ⟨δ,M,_,s,h,fun x M1 h1 v H1 rh1 i1 r1=>⟨wu rh1 r1 h1.1 hT,?_⟩⟩;exact ⟨x,[],M1,QQ,rh1,r1,.nil,h1.2,u.go i1⟩
def cb:vU:=fun x ds M Q=>match x,ds with
 |.ref a,[y]=>match M a with
  |some (.lst xs)=>xs.length<sizeLine/\Q .non (M.upd a (.lst (xs++[y])))
  |_=>False
 |_,_=>False
theorem rq:tY X "list.append" (liftM X cb):=by
 intro pins s σ H x vs v us Q I rx rv h;obtain ⟨d,ds,M,QQ,rh,r,rs,h,up⟩:=h;unfold cb at h
 split at h
 ·rename_i a y
  cases r;obtain ⟨w,rfl,rw'⟩:=fw (ds:=[]) rs
  split at h
  ·rename_i xs hM
   obtain ⟨ws,h1,h2⟩:=rh _ _ hM;have im:Imm H (upd H a (.lst (ws++[w]))):=Imm.upd (by rw [h1];trivial)
   exact vo pins s σ H _ _ v us Q I rx rv ⟨a,ws,w,rfl,rfl,h1,by rw [<- h2.length];exact h.1,up _ _ h.2 _ _ (rh.put (by rw [h1];trivial) ⟨_,upd_same,(h2.append (.cons rw' .nil)).mono im⟩) (Frm.put (.inr ⟨_,hM⟩)) rfl⟩
  ·exact h.elim
 ·exact h.elim
def oF:vU:=fun x ds M Q=>match x,ds with
 |.ref a,[]=>match M a with
  |some (.lst xs)=>match xs[xs.length-1]? with
   |some y=>Q y (M.upd a (.lst xs.dropLast))
   |none=>False
  |_=>False
 |.ref a,[.int i]=>match M a with
  |some (.lst xs)=>match nP xs.length i with
   |some k=>match xs[k]? with
    |some y=>Q y (M.upd a (.lst (xs.eraseIdx k)))
    |none=>False
   |none=>False
  |_=>False
 |_,_=>False
theorem t_:tY X "list.pop" (liftM X oF):=by
 intro pins s σ H x vs v us Q I rx rv h;obtain ⟨d,ds,M,QQ,rh,r,rs,h,up⟩:=h;unfold oF at h
 split at h
 ·rename_i a
  cases r;cases rs
  split at h
  ·rename_i xs hM
   split at h
   ·rename_i y ey
    obtain ⟨ws,h1,h2⟩:=rh _ _ hM;obtain ⟨w,hw,rw'⟩:=h2.get ey;have im:Imm H (upd H a (.lst ws.dropLast)):=Imm.upd (by rw [h1];trivial)
    exact Ef pins s σ H _ _ v us Q I rx rv ⟨a,ws,w,rfl,rfl,h1,by rw [<- h2.length];exact hw,up _ _ h _ _ (rh.put (by rw [h1];trivial) ⟨_,upd_same,h2.dropLast.mono im⟩) (Frm.put (.inr ⟨_,hM⟩)) (rw'.mono im)⟩
   ·exact h.elim
  ·exact h.elim
 ·rename_i a i
  cases r;obtain ⟨w0,rfl,rw0⟩:=fw (ds:=[]) rs;cases rw0
  split at h
  ·rename_i xs hM
   split at h
   ·rename_i k ek
    split at h
    ·rename_i y ey
     obtain ⟨ws,h1,h2⟩:=rh _ _ hM;obtain ⟨w,hw,rw'⟩:=h2.get ey;obtain ⟨j1,j2,j3,j4⟩:=mO ek;have hz:ws.length<=sizeLine:=(I.lstM h1).1;have hs:sizeLine=16777216:=rfl;have hl:=h2.length;have im:Imm H (upd H a (.lst (ws.eraseIdx k))):=Imm.upd (by rw [h1];trivial)
     exact z6 pins s σ H _ _ v us Q I rx rv ⟨a,ws,i,k,w,rfl,rfl,h1,by lia,by lia,by rw [<- hl];exact j1,hw,up _ _ h _ _ (rh.put (by rw [h1];trivial) ⟨_,upd_same,(h2.eraseIdx k).mono im⟩) (Frm.put (.inr ⟨_,hM⟩)) (rw'.mono im)⟩
    ·exact h.elim
   ·exact h.elim
  ·exact h.elim
 ·exact h.elim
def gL:List D->Option (List Str)
 |[]=>some []
 |.str x::ds=>match gL ds with
  |some xs=>some (x::xs)
  |none=>none
 |_=>none
theorem pk:∀{ds:List D} {vs:List V} {xs:List Str},Rps K H ds vs->gL ds=some xs->vs=xs.map V.str
 |[],vs,xs,r,e=>by cases e;exact r
 |d::ds,vs,xs,r,e=>by
  obtain ⟨v,r',rfl,a,b⟩:=r;cases d with
  |str c=>
   simp only [gL] at e
   split at e
   ·rename_i xs' e2
    cases e;cases a;rw [pk b e2];rfl
   ·cases e
  |_=>cases e
def n8:vU:=fun x ds M Q=>match x,ds with
 |.tup xs,[.str z]=>match gL xs with
  |some names=>names.length<=1000/\match names.findIdx? (fun y=>decide (y=z)) with
   |some j=>Q (.int (j:Nat)) M
   |none=>False
  |none=>False
 |_,_=>False
theorem qP:tY X "tuple.index" (liftM X n8):=by
 intro pins s σ H x vs v us Q I rx rv h;obtain ⟨d,ds,M,QQ,rh,r,rs,h,up⟩:=h;unfold n8 at h
 split at h
 ·rename_i xs z
  obtain ⟨p,ws,rfl,ht,r⟩:=r;obtain ⟨w,rfl,rw'⟩:=fw (ds:=[]) rs;cases rw'
  split at h
  ·rename_i names en
   obtain ⟨hl,h⟩:=h
   split at h
   ·rename_i j ej
    have:=pk r en;subst this;rw [List.findIdx?_eq_some_iff_getElem] at ej;obtain ⟨hj,e1,e2⟩:=ej;refine vV pins s σ H _ _ v us Q I rx rv ⟨p,names,z,j,rfl,rfl,ht,hl,?_,fun m hm=>?_,up _ M h _ H rh Frm.refl rfl⟩
    ·rw [List.getElem?_eq_getElem hj];simpa using e1
    ·have:=e2 m hm
     rw [List.getElem?_eq_getElem (by lia)]
     simpa using this
   ·exact h.elim
  ·exact h.elim
 ·exact h.elim
def dTM(r:vU)(to:aZ)(t:dm):aZ:=fun δ M Q=>to δ M fun x M1=>match x with
 |.tup xs=>t δ M1 fun ds M2=>r (.tup xs) ds M2 Q
 |_=>False
theorem Gp{r:vU}(slot:Slot "tuple" name id)(hty:typeOf (.builtin id)=pure (.type "method_descriptor"))(hm:tY X id (liftM X r))(ho:DE X B o to)(ha:DA X B (e::es) t)
  (hbase:attributeBase o name X.env (eval o X.env)=eval o X.env:=by rfl)
  (hfew:((backTo cpos (starEach (e::es) X.env)).all (fun x=>!x.1)&&(backToKw cpos (keywordEach [] X.env)).all (fun x=>x.1.isSome)
   && decide ((e::es).length+([]:List Keyword).length+(if ([]:List Keyword).isEmpty then 0 else 1)<30))=true:=by rfl)
  (hline:(apos.endLine==cpos.line)=true:=by rfl) (hs:starEach (e::es) X.env=(false,eval e X.env)::starEach es X.env:=by rfl) (hplain:(backTo cpos (starEach es X.env)).any (·.1)=false:=by rfl):
  DE X B (.Call (.Attribute o name apos) (e::es) [] cpos) (dTM r to t):=by
 refine aI (Hh slot hty hm ho ha hbase hfew hline hs hplain) ?_
 rintro σ H Q ⟨δ,M,QQ,s,h,u⟩
 refine ⟨δ,M,_,s,h,fun x M1 h1 v H1 rh1 i1 r1=>?_⟩;cases x with
 |tup xs=>
  have r1':=r1;obtain ⟨p,vs,rfl,ht,rr⟩:=r1';refine ⟨⟨p,vs,rfl,ht⟩,δ,M1,_,s.go rh1 i1,h1,fun ds M2 h2 vs H2 rh2 i2 r2=>?_⟩;exact ⟨_,ds,M2,QQ,rh2,r1.mf rh1 i2,r2,h2,u.go (i1.trans i2)⟩
 |_=>exact (show False from h1).elim
def wq(ks:List aw)(ys:List D):List (aw×D):=(ks.zip ys).foldl (fun a p=>cT a p.1 p.2) []
theorem pO:∀{ks:List aw} {ds:List D} {vs:List V} {a:List (aw×D)} {b:List (aw×V)},Rps K H ds vs->Rkv K H a b->
  Rkv K H ((ks.zip ds).foldl (fun a p=>cT a p.1 p.2) a) ((ks.zip vs).foldl (fun a p=>ca a p.1 p.2) b)
 |[],_,_,_,_,_,r=>r
 |_::_,[],_,_,_,h,r=>by cases h;exact r
 |k::ks,d::ds,_,_,_,h,r=>by
  obtain ⟨v,vs,rfl,a,b⟩:=h;exact pO (ks:=ks) b (r.put k a)
def fH(t:dm):aZ:=fun δ M Q=>t δ M fun ds M1=>match ds with
 |[.tup xs,.tup ys]=>match fC xs with
  |some ks=>ks.length=ys.length/\0<ks.length/\ks.length<=1000/\∀p,M1 p=none->Q (.ref p) (M1.upd p (.dK (wq ks ys)))
  |none=>False
 |_=>False
theorem qV{a b:Expr}{ta:dm}{p p2 pos pos2:Pos}(hc:X.calm=true)(hg:Gl X "zip")(hm:X.mg "zip"=none)(hg2:Gl X "dict")(hm2:X.mg "dict"=none)(ha:DA X B [a,b] ta)
  (hs:starEach [a,b] X.env=[(false,eval a X.env),(false,eval b X.env)]:=by rfl) (hs2:starEach [b] X.env=[(false,eval b X.env)]:=by rfl)
  (hs3:starEach [Expr.Call (.Name "zip" p2) [a,b] [] pos2] X.env=[(false,eval (.Call (.Name "zip" p2) [a,b] [] pos2) X.env)]:=by rfl):
  DE X B (.Call (.Name "dict" p) [.Call (.Name "zip" p2) [a,b] [] pos2] [] pos) (fH ta):=by
 refine aI (rj false false hc hg hm hg2 hm2 ha hs hs2 hs3) ?_
 rintro σ H Q ⟨δ,M,QQ,s,h,u⟩
 refine ⟨δ,M,_,s,h,fun ds M1 h1 vs H1 rh1 i1 r1=>?_⟩
 split at h1
 ·obtain ⟨v,w,rfl,rv,rw'⟩:=Df r1
  obtain ⟨l1,us,rfl,t1,ru⟩:=rv;obtain ⟨l2,ws,rfl,t2,rw2⟩:=rw'
  split at h1
  ·rename_i ks ek
   obtain ⟨e1,e2,e3,h1⟩:=h1;have hk:=ka ru ek;subst hk;refine ⟨l1,l2,ks,ws,rfl,t1.sq,t2.sq,by rw [<- rw2.length];exact e1,e2,e3,fun d hd=>?_⟩
   have im:Imm H1 (upd H1 d (.dK ((ks.zip ws).foldl (fun a p=>ca a p.1 p.2) []))):=Imm.new hd;exact u _ _ (h1 d (rh1.fresh hd)) _ _ (rh1.put (by rw [hd];trivial) ⟨_,upd_same,(pO rw2 .nil).mono im⟩) (i1.trans (Frm.put (.inl hd))) rfl
  ·exact h1.elim
 ·exact h1.elim
end
section
variable {P:Program}{w:World}{K:W.Frag}{mg:Str->Option Value}{base:Heap}{N:List Str}{qual:Str}{scope:Scope}{f C:Addr}{cd:Value}{A:Around}{outer:List Env}{s0:Shared}{H0:Hp}{E:XK}{B:Bd}
theorem Ax{X:Cx}{st:Stmt}{t:TS}{E':Value->Shared->Prop}(h:PS X st t)(k:∀e s,X.xe e s->E' e s):PS (X.wish E') st t:=fun pins s σ H D I q=>
 wpAny_mono (h pins s σ H D (I.unwish) q) (fun f s' z=>by
  cases f with
  |next=>obtain ⟨σ',H',I,q⟩:=z;exact ⟨σ',H',I.wish _,q⟩
  |brk=>obtain ⟨σ',H',I,q⟩:=z;exact ⟨σ',H',I.wish _,q⟩
  |cont=>obtain ⟨σ',H',I,q⟩:=z;exact ⟨σ',H',I.wish _,q⟩
  |ret u=>obtain ⟨v,σ',H',I,r,q⟩:=z;exact ⟨v,σ',H',I.wish _,r,q⟩) k
def gA(C:Addr)(EE:DX):au:=fun _ _ M=>EE C M
theorem yS{x msg:Str}{np cpos pos apos:Pos}{jj}{EE:DX}(X:ExcAt K C)(hm:mg x=some (.ref C))(ux:ph K B EE E)(hg:Gl (cF (lU P w) P w K mg base N qual scope f cd A outer s0 H0 E) x)
  (hd:(x==("__debug__":Str))=false:=by decide)
  (hs:starEach [.Constant (.str msg) jj apos] (cF (lU P w) P w K mg base N qual scope f cd A outer s0 H0 E).env=[(false,eval (.Constant (.str msg) jj apos) (cF (lU P w) P w K mg base N qual scope f cd A outer s0 H0 E).env)]:=by rfl):
  DS (cF (lU P w) P w K mg base N qual scope f cd A outer s0 H0 E) B (.Raise (some (.Call (.Name x np) [.Constant (.str msg) jj apos] [] cpos)) none pos) (gA C EE):=by
 have h1:PS (cF (pR P w C) P w K mg base N qual scope f cd A outer s0 H0 E) (.Raise (some (.Call (.Name x np) [.Constant (.str msg) jj apos] [] cpos)) none pos) (qb E C):=xb X hm hg hd hs;have h2:PS (cF (lU P w) P w K mg base N qual scope f cd A outer s0 H0 E) (.Raise (some (.Call (.Name x np) [.Constant (.str msg) jj apos] [] cpos)) none pos) (qb E C):=
  Ax h1 fun e s h=>wpAny_mono h (fun _ _ z=>⟨C,z⟩) fun _ _ z=>⟨C,z⟩
 refine bt h2 ?_
 rintro D σ H ⟨δ,M,DD,s,h,up⟩
 exact ux C M h H s.rh s.i0
end
section
variable {X:Cx}{B:Bd}
def Es(C:Addr)(T:Sd)(n:Nat)(ta:dm)(ts:au):au:=fun D δ M=>ta δ M fun ds M1=>ds.length=n/\calls T (fun C' M2=>C'=C/\ts D δ M2) ds M1 (fun _ M2=>D.nx δ M2) ⟨⟩
theorem SR.mark{δ:Dl}{M:Mem}{σ:L2.St}{H:Hp}{e:Value}(s:SR X B δ M σ H):SR (X.marked e) B δ M σ H:=⟨s.i0,s.rh,s.rs⟩
theorem SR.unmark{δ:Dl}{M:Mem}{σ:L2.St}{H:Hp}{e:Value}(s:SR (X.marked e) B δ M σ H):SR X B δ M σ H:=⟨s.i0,s.rh,s.rs⟩
theorem UpD.mark{M:Mem}{H:Hp}{DD:DEnds}{D:Ends}{e:Value}(u:UpD X B M H DD D):UpD (X.marked e) B M H DD D:=
 ⟨fun δ M q σ H' f s=>u.nx δ M q σ H' f s.unmark,u.rt,fun δ M q σ H' f s=>u.bk δ M q σ H' f s.unmark,fun δ M q σ H' f s=>u.ct δ M q σ H' f s.unmark⟩
theorem An{P:Program}{w:World}{K:W.Frag}{mg:Str->Option Value}{base:Heap}{k:Nat}{f C:Addr}{fd:FuncData}{ps:List Str}{sp:Sp}(F:FnOk P w K mg base (lU P w) k f fd ps sp):
  FnOk P w K mg base (pR P w C) k f fd ps (fun vs H Q E=>sp vs H Q fun Cv a H'=>Cv=.ref C/\E Cv a H'):=
 ⟨fun vs H Q E h=>F.len _ _ _ _ h,fun A outer s H args us vs Q E hr he hb hv hs=>codeAny_mono (F.run A outer s H args us vs Q _ hr he hb hv hs) fun r s' h=>by
  cases r with
  |ok fl=>cases fl<;>exact h
  |error e=>
   obtain ⟨C',ea,H',B,a0,e1,e2,e3,e4,e5,e6,e7,e8,e9,e10⟩:=h;have eC:C'=C:=by injection e9
   subst eC;exact ⟨ea,H',B,a0,e1,e2,e3,e4,e5,e6,e7,e8,e10⟩⟩
theorem qD{C f:Addr}{k n:Nat}{fd:FuncData}{ps:List Str}{T:Sd}{x cx:Str}{p cp ep np hpos pos:Pos}{e:Expr}{es:List Expr}{ta:dm}{b₀:Stmt}{suite:List Stmt}{ts:au}
  (hst:X.stack=X.env::X.outer) (hfL:X.env.frame=some X.env.locals) (F:FnOk X.prog X.w X.K X.mg X.base (lU X.prog X.w) k f fd ps (bi X.K n T)) (hr:Room k X.A) (hg:Gl X x) (hm:X.mg x=some (.ref f)) (hk:W.keepIn X.K (.ref f)=true) (hb:Binds X.K fd ps [])
  (ha:DA X.nox B (e::es) ta) (EX:ExcAt X.K C) (hgC:Gl X cx) (hmC:X.mg cx=some (.ref C)) (hsu:∀ea:Addr,tB (X.marked (.ref ea)) B (b₀::suite) ts)
  (hdb:(x==("__debug__":Str))=false:=by decide) (hdC:(cx==("__debug__":Str))=false:=by decide) (he:starEach (e::es) X.env=(false,eval e X.env)::starEach es X.env:=by rfl) (hpl:(backTo cp (starEach es X.env)).any (·.1)=false:=by rfl)
  (hsw:swapsWith (.Call (.Name x p) (e::es) [] cp) none ep.line X.env=pure false:=by rfl):
  DS X B (.Try [.Expr (.Call (.Name x p) (e::es) [] cp) ep] [.ExceptHandler (some (.Name cx np)) none (b₀::suite) hpos] [] [] pos) (Es C T n ta ts):=by
 have hsu':∀ea:Addr,sg (X.marked (.ref ea)) (b₀::suite) (liftS X B ts):=fun ea=>kg (hsu ea) fun D σ H ⟨δ,M,DD,s,h,u⟩=>⟨δ,M,DD,s.mark,h,u.mark⟩;refine bt (rm (C:=C) hst hfL (An F) hr hg hm hk hb .nil ha EX hgC hmC hsu' hdb hdC he hpl hsw) ?_
 rintro D σ H ⟨δ,M,DD,s,h,up⟩
 refine ⟨δ,M,_,⟨s.i0,s.rh,s.rs⟩,h,fun ds M1 h1 vs H1 rh1 i1 r1=>?_⟩
 try dsimp only
 rw [List.append_nil];refine bX h1.2 rh1 r1 (by rw [<- r1.length];exact h1.1) (fun d M2 h2 v H2 rh2 i2 r2=>?_) fun C' M2 h2 H2 rh2 i2=>?_
 ·exact up.nx _ _ h2 σ H2 (i1.trans i2) (s.go rh2 (i1.trans i2))
 ·obtain ⟨rfl,h2⟩:=h2
  exact ⟨rfl,δ,M2,DD,s.go rh2 (i1.trans i2),h2,up.go (i1.trans i2)⟩
end
end L3
namespace L2
open PySem PySem.Spec PyProof.Rows
theorem bP{scope:Scope}{env:Env}{x:Str}{k:NameKind}(h:(relabel scope env).names.lookup x=some k):∃k',(x,k')∈scope.names/\(k=k'\/(k'=.free/\k=.cell)):=by
 have hm:=PySem.mem_of_lookup h;obtain ⟨⟨n,kk⟩,h1,h2⟩:=List.mem_map.mp hm
 by_cases hc:(kk==NameKind.free&&env.scope.kind==.function&&env.kindOf n==some .cell)=true
 ·have h2':(n,NameKind.cell)=(x,k):=by rw [<- h2];show _=(if _ then _ else _);rw [if_pos hc]
  cases h2';have hf:kk=.free:=by
   simp only [Bool.and_eq_true] at hc;exact beq_iff_eq.mp hc.1.1
  exact ⟨kk,h1,.inr ⟨hf,rfl⟩⟩
 ·have h2':(n,kk)=(x,k):=by rw [<- h2];show _=(if _ then _ else _);rw [if_neg hc]
  cases h2';exact ⟨_,h1,.inl rfl⟩
theorem dJ{x:Str}:∀{fs:List Str} {cs:List Addr},fs.length=cs.length->x∈fs->∃c,(fs.zip cs).lookup x=some c
 |[],_,_,h=>by cases h
 |_::_,[],h,_=>by simp at h
 |y::fs,c::cs,hl,h=>by
  rw [List.zip_cons_cons,List.lookup_cons];cases e:x==y with
  |true=>exact ⟨c,rfl⟩
  |false=>
   have ne:¬x=y:=fun z=>by rw [z] at e;simp at e
   rcases List.mem_cons.mp h with z|z
   ·exact absurd z ne
   ·exact dJ (by simpa using hl) z
theorem Bk{X:Cx}{scope:Scope}{ls fs:List Str}{cs:List Addr}{js:List Nat}(hk:scope.kind=.function)(hn:∀y∈scope.names,y.2≠.cell/\(y.2=.free->y.1∈fs))(hl:∀x∈scope.names,x.2=.local->scope.names.lookup x.1=some .local)
  (hlen:fs.length=cs.length) (hcl:closureFor scope X.env=pure (fs.zip cs)) (hc:∀p∈fs.zip cs,X.env.cells.lookup p.1=some p.2) (hf:Frees X scope fs js):CompOk X scope (fs.zip cs) ls fs js where
 kind:=hk
 nocell:=fun y hy=>(hn y hy).1
 locs:=hl
 clos:=hcl
 cells:=fun y d h=>hc (y,d) (PySem.mem_of_lookup h)
 has:=fun y h=>by
  have hy:y∈fs:=by
   rcases h with h|h
   ·obtain ⟨k',h1,h2|⟨h2,_⟩⟩:=bP h
    ·exact absurd h2.symm (hn _ h1).1
    ·exact (hn _ h1).2 h2
   ·obtain ⟨k',h1,h2|⟨h2,_⟩⟩:=bP h
    ·exact (hn _ h1).2 h2.symm
    ·exact (hn _ h1).2 h2
  exact dJ hlen hy
 frees:=hf
theorem memZ{α:Type}{C:α->Prop}:∀p∈([]:List α),C p:=fun _ h=>by cases h
theorem memC{α:Type}{C:α->Prop}{a:α}{l:List α}(ha:C a)(hl:∀p∈l,C p):∀p∈a::l,C p:=fun p hp=>by
 rcases List.mem_cons.mp hp with rfl|z
 ·exact ha
 ·exact hl p z
end L2
namespace L3
open PySem L2
section
variable {X:Cx}{B:Bd}{pos:Pos}
theorem dnm(i:Nat){x:Str}{pos:Pos}(hN:X.N[i]?=some x:=by rfl)(hv:CQ X.env.scope x:=by first|exact Or.inl rfl|exact Or.inr (Or.inl rfl)|exact Or.inr (Or.inr rfl))(hd:(x==("__debug__":Str))=false:=by decide)
  (hcd:(x==("__classdict__":Str))=false:=by decide):DE X B (.Name x pos) (ac i):=Eg hN hv hd hcd
def pQ:DX:=fun _ _=>False
theorem uxN{K:W.Frag}{E:XK}:ph K B pQ E:=fun _ _ z=>z.elim
theorem jJ:bootBuiltins "list"=some (.type "list"):=by decide +kernel
theorem lN:bootBuiltins "tuple"=some (.type "tuple"):=by decide +kernel
theorem BC:bootBuiltins "all"=some (.builtin "all"):=by decide +kernel
theorem jN:bootBuiltins "isinstance"=some (.builtin "isinstance"):=by decide +kernel
theorem xj:bootBuiltins "bool"=some (.type "bool"):=by decide +kernel
theorem B4:bootBuiltins "int"=some (.type "int"):=by decide +kernel
theorem zE:bootBuiltins "str"=some (.type "str"):=by decide +kernel
theorem pi:bootBuiltins "dict"=some (.type "dict"):=by decide +kernel
theorem Bb:bootBuiltins "len"=some (.builtin "len"):=by decide +kernel
theorem Hq{x:Str}{T:String}(hg:Gl X x)(hm:X.mg x=none)(hv:bootBuiltins x=some (.type T))(hn:x≠"__name__":=by decide)(hd:(x==("__debug__":Str))=false:=by decide):DE X B (.Name x pos) (dC (.ty T)):=
 yH (BH (v:=.ty T) hg hm hv rfl hn hd) fun _=>rfl
def pX(t:aZ):aZ:=fun δ M Q=>t δ M fun x M1=>match x with
 |.int i=>Q (.int (-i)) M1
 |_=>False
theorem Fv{a:Expr}{ta:aZ}(ha:DE X B a ta):DE X B (.UnaryOp .USub a pos) (pX ta):=by
 refine aI (G0 F1 ha) ?_
 rintro σ H Q ⟨δ,M,QQ,s,h,u⟩
 refine ⟨δ,M,_,s,h,fun d M' q v H' rh i r=>?_⟩;cases d with
 |int j=>exact ⟨j,r,u _ M' q _ H' rh i rfl⟩
 |_=>exact (show False from q).elim
def frzs:List D->Mem->(List D->Mem->Prop)->Prop
 |[],M,Q=>Q [] M
 |d::ds,M,Q=>match d with
  |.ref a=>match M a with
   |some (.lst xs)=>frzs ds (M.del a) fun es M'=>Q (.lst xs::es) M'
   |_=>frzs ds M fun es M'=>Q (d::es) M'
  |_=>frzs ds M fun es M'=>Q (d::es) M'
theorem fR{pins:List (Addr×Obj)}{σ:L2.St}{s:Shared}:∀{ds:List D} {vs:List V} {M:Mem} {H:Hp} {Q:List D->Mem->Prop},Inv X pins σ H s->RepH X.K H M->Rps X.K H ds vs->frzs ds M Q->
  ∃H' es M',Inv X pins σ H' s/\RepH X.K H' M'/\Frm M H M' H'/\Rps X.K H' es vs/\Q es M'
 |[],vs,M,H,Q,I,rh,r,h=>⟨H,[],M,I,rh,Frm.refl,r,h⟩
 |d::ds,vs,M,H,Q,I,rh,r,h=>by
  obtain ⟨v,vs',rfl,a,b⟩:=r;unfold frzs at h
  split at h
  ·rename_i a'
   cases a
   split at h
   ·rename_i xs e
    obtain ⟨ws,h1,h2⟩:=rh _ _ e;obtain ⟨o,I2⟩:=Inv.freeze I h1;have im:Imm H (upd H a' (.frz o (.lst ws))):=Imm.upd (by rw [h1];trivial)
    obtain ⟨H',es,M',I',rh',f,r',q⟩:=fR I2 (rh.freeze h1) (b.mono im) h;refine ⟨H',_,M',I',rh',(Frm.del ⟨_,e⟩).trans f,.cons ?_ r',q⟩;have z:Rp X.K (upd H a' (.frz o (.lst ws))) (.lst xs) (.ref a'):=⟨a',ws,rfl,⟨o,upd_same⟩,h2.mono im⟩;exact z.mf (rh.freeze h1) f
   ·obtain ⟨H',es,M',I',rh',f,r',q⟩:=fR I rh b h
    exact ⟨H',_,M',I',rh',f,.cons (d:=.ref a') rfl r',q⟩
  ·obtain ⟨H',es,M',I',rh',f,r',q⟩:=fR I rh b h
   exact ⟨H',_,M',I',rh',f,.cons (a.mf rh f) r',q⟩
def wN(d:D)(M:Mem)(Q:DK):Prop:=match d with
 |.tup ds=>frzs ds M fun es M'=>Q (.tup es) M'
 |d=>Q d M
def C8(t:aZ):aZ:=fun δ M Q=>t δ M fun d M'=>wN d M' Q
theorem zO{e:Expr}{te:aZ}(h:DE X B e te):DE X B e (C8 te):=by
 intro pins s σ H Q I hq;obtain ⟨δ,M,QQ,sr,hT,u⟩:=hq;refine a_ (h pins s σ H (fun v H'=>∃d M',RepH X.K H' M'/\Frm M H M' H'/\Rp X.K H' d v/\wN d M' QQ) I ⟨δ,M,_,sr,hT,fun d M' q v H' rh i r=>⟨d,M',rh,i,r,q⟩⟩) ?_
 rintro w s' ⟨v,H',I',rv,d,M',rh,i,r,q⟩
 unfold wN at q
 split at q
 ·obtain ⟨p,vs,rfl,ht,r⟩:=r
  obtain ⟨H2,es,M2,I2,rh2,f2,r2,q2⟩:=fR I' rh r q;exact ⟨.ref p,H2,I2,rv,u _ _ q2 _ H2 rh2 (i.trans f2) ⟨p,vs,rfl,ht.mono (f2.imm rh),r2⟩⟩
 ·exact ⟨v,H',I',rv,u _ _ q v H' rh i r⟩
theorem DV{P:Program}{w:World}{K:W.Frag}{mg:Str->Option Value}{base:Heap}{k n:Nat}{f:Addr}{fd:FuncData}{ps:List Str}{T:Sd}(F:FnOk P w K mg base (lU P w) k f fd ps (bi K n T)):
  FnOk P w K mg base CX0 k f fd ps (fun vs H Q _=>bi K n T vs H Q E0):=
 ⟨fun vs H Q E h=>F.len _ _ _ _ h,fun A outer s H args us vs Q E hr he hb hv hs=>codeAny_mono (F.run A outer s H args us vs Q E0 hr he hb hv hs) fun r s' h=>by
  cases r with
  |ok fl=>cases fl<;>exact h
  |error e=>
   obtain ⟨C',ea,H',B,a0,e1,e2,e3,e4,e5,e6,e7,e8,e9⟩:=h;exact (show False from e9).elim⟩
theorem Ao{K:W.Frag}{T:Sd}{H:Hp}{a:Addr}{ns:List Int}{Q:VK}(hO:xK H)(hS:SqL K H a (ns.map V.int))(h:T [.ml (ns.map D.int)] (fun _=>none) (fun d _=>d=.bl true) pQ)(k:∀H',Q (.bl true) H'):bi K 1 T [.ref a] H Q E0:=by
 refine ⟨rfl,[.ml (ns.map D.int)],fun _=>none,_,_,fun b o e=>(by cases e),.cons ⟨a,_,rfl,?_,pP rfl⟩ .nil,h,fun d M' q v H' rh f r=>?_,fun _ _ z=>z.elim⟩
 ·rcases hS with (z|z)|z
  ·rcases hO a with e|⟨o,xs,e⟩
   ·rw [e] at z;cases z
   ·rw [e] at z;cases z
  ·exact .inl z
  ·exact .inr z
 ·subst q;cases r;exact k H'
end
theorem ic{K:W.Frag}{h h':Heap}{N:Addr}(X:K.In h)(X':K.In h')(e:W.nsOkIn K N=true):h'.nsMap N=h.nsMap N:=by
 unfold W.nsOkIn at e
 split at e
 ·rename_i ho
  funext x;unfold Heap.nsMap;rw [X _ _ ho,X' _ _ ho]
 ·cases e
theorem fm{K:W.Frag}{h:Heap}{C:Addr}(X:K.In h)(q:W.excIn K C [.type "ValueError",.type "Exception",.type "BaseException",.type "object"] "ValueError.__new__"=true):ExcAt K C:=by
 unfold W.excIn at q
 split at q
 ·rename_i dd cd sl ho
  split at q
  ·rename_i C' bm k0 k1 k2 k3 n k5 hm hs
   simp only [Bool.and_eq_true,beq_iff_eq,Bool.not_eq_true'] at q;obtain ⟨⟨⟨⟨⟨rfl,rfl⟩,hdel⟩,ht⟩,hok⟩,hni⟩:=q;obtain ⟨nm,bs,mro,ns,qn,hd,sn,sub,ab,col,del⟩:=cd;dsimp only at hm hdel hok hni;subst hm hdel;have hsl:sl=#[k0,k1,k2,k3,some (.builtin "ValueError.__new__"),k5]:=by
    obtain ⟨l⟩:=sl;simp only at hs;rw [hs]
   subst hsl;refine ⟨⟨nm,qn,ns,bs,bm,_,hd,sn,sub,ab,col,dd,k0,k1,k2,k3,k5,"ValueError.__new__","ValueError.__init__","ValueError",h.nsMap ns,fun h' X'=>⟨X' _ _ ho,?_,W.tail_of_in X' ht⟩,W.nsMap_none_of_in X hok hni,PySem.F.excBase_ValueError,by decide,(W.tail_of_in X ht).hasType (by decide)⟩⟩
   rw [<- ic X X' hok];exact .of_isNs (W.isNs_of_in X' hok)
  ·cases q
 ·cases q
end L3
namespace L2
open PySem
theorem zQ{elt:Expr}{gens:List Comprehension}{scope:Scope}{pos px:Pos}{x:Str}{line:Nat}{env:Env}(h1:env.blockKind=.function)(h2:env.scope.names.lookup x=some .local)(h3:px.line=pos.line)
  (h4:(scope.names.any fun (n,k)=>n==x&&(k==.local||k==.cell))=false):swapsWith (.ListComp elt gens scope pos) (some (.Name x px)) line env=pure true:=by
 have e:(Expr.ListComp elt gens scope pos).pos=pos:=rfl;have h2':env.kindOf x=some .local:=h2;unfold swapsWith
 try dsimp only
 rw [h1,h2',e,h3,h4];simp
end L2
namespace L3
open PySem L2
def xx:Expr->Bool
 |.Starred ..=>false
 |_=>true
theorem wc{e:Expr}{es:List Expr}{env:Env}(h:xx e=true):starEach (e::es) env=(false,eval e env)::starEach es env:=by
 cases e<;>first|rfl|exact Bool.noConfusion h
section
variable {X:Cx}{B:Bd}
theorem da_c{e:Expr}{es:List Expr}{te:aZ}{t:dm}(ha:DE X B e te)(hr:DA X B es t)(hp:xx e=true:=by rfl):DA X B (e::es) (aa te t):=Bx ha hr (wc hp)
end
end L3
namespace L3
open PySem L2
section
variable {X:Cx}{B:Bd}
end
end L3
namespace L3
open PySem L2
section
variable {X:Cx}{B:Bd}
end
end L3
namespace L3
open PySem L2
section
variable {X:Cx}{B:Bd}
end
end L3
namespace LS
open PySem
end LS
namespace LS
open PySem
section
variable {prog:Program}{w:World}{K:Type}[DecidableEq K]{A:Around}{E:Value->Shared->Prop}{s:Shared}
variable {knd:KeyKind prog w K}
end
end LS
namespace LS
open PySem
section
variable {prog:Program}{w:World}{K:Type}[DecidableEq K]{A:Around}{E:Value->Shared->Prop}{s:Shared}{knd:KeyKind prog w K}
end
end LS
namespace LS
open PySem
section
variable {M:Model}{A:Around}{E:Value->Shared->Prop}
end
end LS
namespace LS
open PySem
section
variable {prog:Program}{w:World}{A:Around}{E:Value->Shared->Prop}{s:Shared}{I a:Addr}{f:Value}{i n ep:Nat}{es:Array (Int×Value)}{t:SetTable}
end
end LS
namespace LS
open PySem
section
variable {prog:Program}{w:World}{A:Around}{E:Value->Shared->Prop}{s:Shared}{I a:Addr}{ep:Nat}{es:Array (Int×Value)}{t:SetTable}
end
end LS
namespace LS
open PySem PySem.W PySem.Calls PyProof.Rows PyProof.V PySem.Spec
section
variable {prog:Program}{w:World}{A:Around}{E:Value->Shared->Prop}{s:Shared}{a:Addr}{ep:Nat}{es:Array (Int×Value)}{t:SetTable}
end
end LS
namespace LS
open PySem
section
variable {prog:Program}{w:World}{A:Around}{E:Value->Shared->Prop}{s:Shared}{a:Addr}
end
end LS
namespace LS
open PySem
section
variable {K:Type}[DecidableEq K](o:Ord K)
end
end LS
namespace L3
open PySem L2 LS
section
variable {X:Cx}{B:Bd}
end
end L3
namespace LS
open PySem
section
variable {prog:Program}{w:World}{A:Around}{E:Value->Shared->Prop}{s:Shared}{a:Addr}
end
end LS
namespace L3
open PySem L2 LS
def gy:List D->Option (List Int)
 |[]=>some []
 |.int i::ds=>match gy ds with
  |some is=>some (i::is)
  |none=>none
 |_=>none
theorem o6{K:W.Frag}{H:Hp}:∀{ds:List D} {vs:List V} {xs:List Int},Rps K H ds vs->gy ds=some xs->vs=xs.map V.int
 |[],vs,xs,r,e=>by cases e;exact r
 |d::ds,vs,xs,r,e=>by
  obtain ⟨v,r',rfl,a,b⟩:=r;cases d with
  |int c=>
   simp only [gy] at e
   split at e
   ·rename_i xs' e2
    cases e;cases a;rw [o6 b e2];rfl
   ·cases e
  |_=>simp [gy] at e
section
variable {X:Cx}{B:Bd}
end
end L3
namespace L2
open PySem
section
variable {X:Cx}
end
end L2
namespace L3
open PySem L2 LS
section
variable {X:Cx}{B:Bd}
theorem vk:bootBuiltins "range"=some (.type "range"):=by decide +kernel
def fS(t:dm):aZ:=fun δ M Q=>t δ M fun ds M1=>match ds with
 |[.int j]=>(-(2 ^ 62)<=j/\j<=1000)/\∀p,M1 p=none->Q (.ref p) (M1.upd p (.lst (cW 0 j.toNat)))
 |_=>False
def qN(n:Nat):List V:=(List.range n).map fun (i:Nat)=>V.int (0+(i:Int))
theorem AD{K:W.Frag}{H:Hp}{n:Nat}:Rps K H (cW 0 n) (qN n):=by
 unfold cW qN;generalize List.range n=l
 induction l with
 |nil=>rfl
 |cons i l ih=>exact ⟨_,_,rfl,rfl,ih⟩
theorem yR{acc:Array Value}{n:Nat}(h:ItemsOf (fun i v=>∃t,v=.int (0+i*1) t) acc n):Vals (qN n) acc.toList:=by
 obtain ⟨h1,h2⟩:=h;have key:∀(l:List Value) (k m:Nat),l.length=m->(∀(j:Nat) (v:Value),l[j]?=some v->∃t,v=.int (0+((k+j:Nat):Int)) t)->Vals ((List.range' k m).map fun (i:Nat)=>V.int (0+(i:Int))) l:=by
  intro l
  induction l with
  |nil=>intro k m e _;subst e;exact .nil
  |cons x l ih=>
   intro k m e h;subst e;rw [List.length_cons,List.range'_succ,List.map_cons];refine .cons ?_ (ih (k+1) _ rfl fun j v q=>?_)
   ·obtain ⟨t,rfl⟩:=h 0 x (by simp)
    exact ⟨t,rfl⟩
   ·obtain ⟨t,e⟩:=h (j+1) v (by simpa using q)
    exact ⟨t,by rw [e];congr 2;lia⟩
 have:=key acc.toList 0 n (by simpa using h1) fun j v q=>by
  obtain ⟨t,e⟩:=h2 j v (by simpa using q)
  exact ⟨t,by rw [e,Int.mul_one,Nat.zero_add]⟩
 unfold qN;rw [List.range_eq_range'];exact this
def z9(t:TA):TE:=fun σ H Q=>t σ H fun vs H1=>∃j:Int,vs=[.int j]/\(-(2 ^ 62)<=j/\j<=1000)/\∀p,H1 p=none->Q (.ref p) (upd H1 p (.lst (qN j.toNat)))
theorem qE{e:Expr}{t:TA}{p p2 pos pos2:Pos}(hc:X.calm=true)(hg:Gl X "range")(hm:X.mg "range"=none)(hg2:Gl X "list")(hm2:X.mg "list"=none)(ha:PA X [e] t)
  (hs:starEach [e] X.env=[(false,eval e X.env)]:=by rfl) (hs3:starEach [Expr.Call (.Name "range" p2) [e] [] pos2] X.env=[(false,eval (.Call (.Name "range" p2) [e] [] pos2) X.env)]:=by rfl):
  PE X (.Call (.Name "list" p) [.Call (.Name "range" p2) [e] [] pos2] [] pos) (z9 t):=by
 intro pins s σ H Q I h;refine wpAny_Call_Name_kw (cA I hg2 hm2 jJ (PyProof.Rows.callWith_type1 ?_ hs3 rfl));rw [hs3];show wpAny _ _ (spliced ((false,_)::backTo pos [])) _ _ s;refine Calls.spliced_cons ?_;refine wpAny_Call_Name_kw (cA I hg hm vk (PyProof.Rows.callWith_type1 (a_ (ha pos2 pins s σ H _ I h) fun us s1 ⟨vs,H1,I1,r1,q1⟩=>?_) hs rfl));obtain ⟨j,rfl,⟨j0,j1⟩,q⟩:=q1;obtain ⟨u,rfl,ru⟩:=jV r1;obtain ⟨t',rfl⟩:=ru;refine call_range_1 ?_;refine Calls.spliced_nil ?_;have hh:=I1.ok.hd hc;refine call_list_range (n:=j.toNat) hh (IsRange.new ..) (small_one (by decide) (by decide) j0 (by lia)) (by rw [rangeSize_one];split<;>lia) (by lia) fun h' tk acc c' k1 hS hacc=>?_
 have hsz:(s1.heap.push { cls:=.type "range",data:=.fields #[.int 0 s1.toks,.int j t',.int 1 (s1.toks+1)] }).objs.size=s1.heap.objs.size+1:=Heap.size_push ..;have hn:H1 (s1.heap.objs.size+1)=none:=I1.hok.fresh (Nat.le_succ _);have hS':h'.get? (s1.heap.objs.size+1)=some { cls:=.type "list",dict:=none,data:=.seq acc c',slots:=#[] }:=by rw [<- hsz];exact hS
 refine ⟨.ref (s1.heap.objs.size+1),_,I1.laid (t':=tk) (o:=.lst (qN j.toNat)) (fun b o z=>k1 b o (Heap.get?_push_of_some _ z)) (Nat.le_succ _) (show ObjOk X.prog X.w _ _ _ (.lst _) from ⟨?_,acc.toList,c',yR hacc,by rw [Array.toArray_toList];exact hS'⟩),?_,q _ hn⟩
 ·simp only [qN,List.length_map,List.length_range]
  exact Nat.le_trans (by lia:j.toNat<=1000) (by decide)
 ·show Value.ref _=Value.ref _
  rw [<- hsz]
theorem qy{e:Expr}{t:dm}{p p2 pos pos2:Pos}(hc:X.calm=true)(hg:Gl X "range")(hm:X.mg "range"=none)(hg2:Gl X "list")(hm2:X.mg "list"=none)(ha:DA X B [e] t)
  (hs:starEach [e] X.env=[(false,eval e X.env)]:=by rfl) (hs3:starEach [Expr.Call (.Name "range" p2) [e] [] pos2] X.env=[(false,eval (.Call (.Name "range" p2) [e] [] pos2) X.env)]:=by rfl):
  DE X B (.Call (.Name "list" p) [.Call (.Name "range" p2) [e] [] pos2] [] pos) (fS t):=by
 refine aI (qE hc hg hm hg2 hm2 ha hs hs3) ?_
 rintro σ H Q ⟨δ,M,QQ,s,h,u⟩
 refine ⟨δ,M,_,s,h,fun ds M1 h1 vs H1 rh1 i1 r1=>?_⟩
 split at h1
 ·obtain ⟨v,rfl,rv⟩:=fw (ds:=[]) r1
  cases rv;refine ⟨_,rfl,h1.1,fun d hd=>?_⟩;exact u _ _ (h1.2 d (rh1.fresh hd)) _ _ (rh1.put (by rw [hd];trivial) ⟨_,upd_same,AD⟩) (i1.trans (Frm.put (.inl hd))) rfl
 ·exact h1.elim
end
end L3
namespace L3
open PySem L2 LS
section
variable {X:Cx}{B:Bd}{name:Str}{a:Addr}{tab:List (Str×D)}
end
end L3
namespace LS
open PySem
section
variable {prog:Program}{w:World}{K:Type}[DecidableEq K]{A:Around}{E:Value->Shared->Prop}{s:Shared}{knd:KeyKind prog w K}
end
end LS
namespace LS
open PySem
section
variable {prog:Program}{w:World}{K:Type}[DecidableEq K]{A:Around}{E:Value->Shared->Prop}{s:Shared}{knd:KeyKind prog w K}
end
end LS
namespace L2
open PySem PySem.Spec
section
variable {X:Cx}{tg:Expr}
end
end L2
namespace L3
open PySem L2 LS
section
variable {X:Cx}{B:Bd}{tg:Expr}{K:W.Frag}{H:Hp}{M:Mem}
end
end L3
namespace L3
open PySem L2
section
variable {X:Cx}{B:Bd}{pos:Pos}
end
end L3
namespace L3
open PySem L2
section
variable {X:Cx}{B:Bd}
end
end L3
namespace L3
open PySem L2 LS
section
variable {X:Cx}{B:Bd}
end
end L3
namespace LS
open PySem PySem.W PySem.Calls PyProof.Rows PyProof.V PySem.Spec
section
variable {prog:Program}{w:World}{K:Type}[DecidableEq K]{knd:KeyKind prog w K}{A:Around}{E:Value->Shared->Prop}{s:Shared}{v d:Addr}{ep:Nat}{kvs:List (K×Value)}
end
end LS
namespace L3
open PySem L2 LS
section
variable {X:Cx}{B:Bd}{pos:Pos}
end
end L3
namespace LX
open PySem PySem.W PySem.Spec PySem.Calls PyProof.Rows Builtin Builtin.ObjectAttr Builtin.Getset_descriptor
section
variable {K:Frag}{prog:Program}{w:World}{A:Around}{E:Value->Shared->Prop}{s:Shared}
end
end LX
namespace LX
open PySem PySem.W PySem.Spec PySem.Calls PyProof.Rows
end LX
namespace L2
open PySem PySem.Spec PyProof.Rows
section
variable {X:Cx}{pins:List (Addr×Obj)}{σ:St}{H:Hp}{s:Shared}{e:Value}
end
end L2
namespace L2
open PySem PySem.Spec PyProof.Rows
end L2
namespace L2
open PySem
end L2
namespace L3
open PySem L2
section
variable {X:Cx}{B:Bd}{K:W.Frag}{H H':Hp}{M M1 M':Mem}
end
section
variable {P:Program}{w:World}{K:W.Frag}{mg:Str->Option Value}{base:Heap}{f:Addr}{fd:FuncData}
end
section
variable {X:Cx}{B:Bd}{K:W.Frag}{H H':Hp}{M M1 M':Mem}
end
end L3
namespace L3
open PySem L2 LS
section
variable {X:Cx}{B:Bd}
end
end L3
namespace L3
open PySem L2
end L3
namespace L3
open PySem L2
section
variable {X:Cx}{B:Bd}
theorem Fi{bs:List Int}{its:List Value}(rv:Vals (bs.map V.int) its){i:Nat}{v:Value}(hv:its.toArray[i]?=some v):∃c t,bs[i]?=some c/\v=.int c t:=by
 have hv':its[i]?=some v:=by simpa using hv
 have hl:=rv.length;rw [List.length_map] at hl;have hi:i<bs.length:=by
  have:=(List.getElem?_eq_some_iff.mp hv').1;lia
 obtain ⟨w',h1,h2⟩:=rv.get (i:=i) (x:=.int bs[i]) (by rw [List.getElem?_map,List.getElem?_eq_getElem hi];rfl)
 rw [hv'] at h1;cases h1;obtain ⟨t,rfl⟩:=h2;exact ⟨bs[i],t,List.getElem?_eq_getElem hi,rfl⟩
theorem dW(bs:List Int):∀n,n<=bs.length->preSum (fun i=>bs.getD i 0) n=(bs.take n).sum
 |0,_=>by simp [preSum]
 |n+1,h=>by
  rw [preSum,dW bs n (by lia),List.take_succ_eq_append_getElem (by lia),List.getD_eq_getElem?_getD,List.getElem?_eq_getElem (by lia),List.sum_append,List.sum_singleton]
  rfl
theorem lh{b:Int}:∀l:List Int,(∀x∈l,-b<=x/\x<=b)->-(l.length*b)<=l.sum/\l.sum<=l.length*b
 |[],_=>by simp
 |x::l,h=>by
  have h1:=h x (List.mem_cons_self ..);have h2:=lh l fun y hy=>h y (List.mem_cons_of_mem _ hy);have e:((x::l).length:Int)*b=b+l.length*b:=by
   rw [List.length_cons];push_cast;rw [Int.add_mul];lia
  rw [List.sum_cons,e];lia
def tW:qm:=fun ds M Q=>match ds with
 |[d]=>match dk M d with
  |some xs=>match gy xs with
   |some ss=>(ss.length<=1000/\∀x∈ss,-1000000000000000<=x/\x<=1000000000000000)/\Q (.int ss.sum) M
   |none=>False
  |none=>False
 |_=>False
theorem vi(hc:X.calm=true):bI X (.builtin "sum") (liftC X tW):=by
 intro pins s σ H xs us Q I r h;obtain ⟨ds,M,QQ,rh,rp,h,up⟩:=h;unfold tW at h
 split at h
 ·obtain ⟨v,rfl,rv⟩:=fw (ds:=[]) rp
  split at h
  ·rename_i ys e
   obtain ⟨q,vs,rfl,hq,rr⟩:=eA rh rv e
   split at h
   ·rename_i ss es
    obtain ⟨⟨hl,hs⟩,h⟩:=h;have:=o6 rr es;subst this;obtain ⟨u,rfl,ru⟩:=jV r;cases ru;obtain ⟨its,r',p,hz⟩:=I.list (.inl hq);have hlen:=r'.length;rw [List.length_map] at hlen;have hli:q<s.heap.objs.size:=by obtain ⟨o,e,_⟩:=p.isList;exact Heap.lt_size e
    have hne:q≠s.heap.objs.size:=Nat.ne_of_lt hli;have hsz:its.toArray.size=ss.length:=by rw [List.size_toArray,<- hlen]
    refine call_sum_walk (wpAny_pyIter_list p.isList ⟨s.heap.objs.size,_,_,_,_,_,fun i=>ss.getD i 0,rfl,Walks.list (A:=X.A.in1) (I.ok.hd hc) s.heap.objs.size q hne its.toArray,⟨⟨_,Heap.get?_push_size _ rfl,rfl,rfl⟩,p.isList.push _⟩,?_,fun i v hv=>?_,fun j hj=>?_,fun h' tk t' hk=>?_⟩)
    ·intro b hb
     simp at hb;rcases hb with hb|hb
     ·show _<(s.heap.objs.push _).size;rw [Array.size_push,hb];exact Nat.lt_succ_self _
     ·show _<(s.heap.objs.push _).size;rw [Array.size_push,hb];exact Nat.lt_succ_of_lt hli
    ·obtain ⟨c,t,h1,rfl⟩:=Fi r' hv
     exact ⟨t,by show _=Value.int (ss.getD i 0) t;rw [List.getD_eq_getElem?_getD,h1];rfl⟩
    ·rw [hsz] at hj
     have b1:-1000000000000000<=ss.getD j 0/\ss.getD j 0<=1000000000000000:=by
      rw [List.getD_eq_getElem?_getD,List.getElem?_eq_getElem hj];exact hs _ (List.getElem_mem hj)
     have b2:=lh (b:=1000000000000000) (ss.take (j+1)) fun x hx=>hs x (List.mem_of_mem_take hx);have b3:((ss.take (j+1)).length:Int)<=1000:=by simp;lia
     rw [dW ss (j+1) (by lia)]
     show InLong (ss.getD j 0)/\_;unfold InLong;lia
    ·rw [hsz,dW ss _ (Nat.le_refl _),List.take_length]
     refine ⟨.int ss.sum,H,?_,⟨_,rfl⟩,up _ M h _ H rh Frm.refl rfl⟩;exact I.kept (t':=tk) fun b o hb=>hk b o (by simp;exact Nat.ne_of_lt (Heap.lt_size hb)) (Heap.get?_push_of_some _ hb)
   ·exact h.elim
  ·exact h.elim
 ·exact h.elim
end
theorem BE:bootBuiltins "sum"=some (.builtin "sum"):=PyProof.Rows.boot_sum
end L3
namespace L3
open PySem L2
section
variable {X:Cx}{B:Bd}
variable {C:Addr}{f:Str}{o value:Expr}{ta tv:aZ}{pos tpos:Pos}
def mD(C:Addr)(ta tv:aZ)(f:Str):au:=fun D δ M=>ta δ M fun x M1=>match x with
 |.ref a=>match M1 a with
  |some (.ins C' fs)=>C'=C/\fs.length<1000/\match fs.lookup f with
   |some (.int i)=>tv δ M1 fun y M2=>match y with
    |.int j=>M2 a=some (.ins C fs)/\D.nx δ (M2.upd a (.ins C (bj f (.int (i+j)) fs)))
    |_=>False
   |_=>False
  |_=>False
 |_=>False
theorem vF(c:Cls X.K C)(n:NoAttr X.K C f)(ha:DE X B o ta)(hv:DE X B value tv):DS X B (.AugAssign (.Attribute o f tpos) .Add value pos) (mD C ta tv f):=by
 refine bt (lq ha hv Dm) ?_
 rintro D σ H ⟨δ,M,DD,s,h,up⟩
 refine ⟨δ,M,_,s,h,fun x M1 h1 v1 H1 rh1 i1 r1=>?_⟩
 split at h1
 ·rename_i a
  cases r1
  split at h1
  ·rename_i C' fs hM
   obtain ⟨rfl,hl,h1⟩:=h1
   split at h1
   ·rename_i i hf
    obtain ⟨dx,ws,e1,e2⟩:=rh1 _ _ hM;obtain ⟨z,_⟩|⟨d,w,hd,hw,rw1⟩:=e2.lookup f
    ·rw [hf] at z;cases z
    rw [hf] at hd;cases hd;cases rw1;refine ⟨a,C',dx,ws,.int i,rfl,e1,c,n,hw,δ,M1,_,s.go rh1 i1,h1,fun y M2 h2 v2 H2 rh2 i2 r2=>?_⟩
    split at h2
    ·rename_i j
     cases r2;obtain ⟨hM2,h2⟩:=h2;obtain ⟨dx2,ws2,e3,e4⟩:=rh2 _ _ hM2;have i3:Frm M2 H2 (M2.upd a (.ins C' (bj f (.int (i+j)) fs))) (upd H2 a (.ins C' dx2 (L2.cj f (.int (i+j)) ws2))):=Frm.put (.inr ⟨_,hM2⟩);refine ⟨i,j,rfl,rfl,dx2,ws2,e3,by rw [<- e4.length];exact hl,up.nx _ _ h2 σ _ ((i1.trans i2).trans i3) (s.go (rh2.put (by rw [e3];trivial) ⟨dx2,_,upd_same,?_⟩) ((i1.trans i2).trans i3))⟩
     exact (gn (show Rp X.K H2 (.int (i+j)) (.int (i+j)) from rfl) e4).mono (i3.imm rh2)
    ·exact h2.elim
   ·exact h1.elim
  ·exact h1.elim
 ·exact h1.elim
end
section
variable {X:Cx}{B:Bd}{CX:kF}{k n:Nat}{f C:Addr}{fd:FuncData}{ps:List Str}{T:Sd}{E:XK}{EE:DX}{x:Str}{p pos:Pos}
end
end L3
namespace L3
open PySem L2
section
variable {X:Cx}{B:Bd}{K:W.Frag}{H H':Hp}{M M1 M':Mem}{pos:Pos}
end
end L3
namespace L3
open PySem L2
section
variable {X:Cx}{B:Bd}
end
end L3
namespace LS
open PySem PySem.W PySem.Calls PyProof.Rows PyProof.V PySem.Spec
section
variable {prog:Program}{w:World}{A:Around}{E:Value->Shared->Prop}{s:Shared}{it d:Addr}{i n ep:Nat}{ok ov:Value}{od:Obj}{es:Array DictEntry}
end
end LS
namespace L2
open PySem PySem.Spec PyProof.Rows LS
theorem Ir{X:Cx}{pins:List (Addr×Obj)}{σ:St}{H:Hp}{s:Shared}{d:Addr}{od:Obj}{kvs:List (List aw×V)}{es:Array DictEntry}{ep:Nat}(I:Inv X pins σ H s)(e:H d=some (.frz od (.dT kvs)))(hd:od.data=.dict es ep):
  s.heap.get? d=some od/\∃xs:List (List aw×Addr×Value),KT H kvs xs/\es.toList=xs.map (entryOfKey (tupleKind (aH X.prog X.w))):=by
 obtain ⟨h1,_,_,xs,r,o,es',ep',h2,_,h4,h5,_⟩:=(show ObjOk X.prog X.w H s.heap d (.frz od (.dT kvs)) from I.hok d _ e);rw [h1] at h2;cases h2;rw [hd] at h4;cases h4;exact ⟨h1,xs,r,h5⟩
end L2
namespace L3
open PySem L2 LS
section
variable {X:Cx}{B:Bd}
end
end L3
namespace LS
open PySem PySem.W PySem.Calls PyProof.Rows PyProof.V PySem.Spec L2
theorem di:entryFor table "list.__getattribute__"=some Builtin.«object.__getattribute__»:=entryFor_alias (id':="object.__getattribute__") (by kernel_rfl) (by decide +kernel) (by decide +kernel) (by kernel_rfl)
theorem g7:typeLookup (.type "list") "__getattr__"=pure none:=by rw [typeLookup_type];rw [builtinLookup_eq_fast];kernel_rfl
theorem mR:typeLookup (.type "list") "keys"=pure none:=by rw [typeLookup_type];rw [builtinLookup_eq_fast];kernel_rfl
abbrev AK(h:Heap)(a:Addr)(its:Array Value)(n:Nat):Prop:=h.get? a=some { cls:=.type "list",dict:=none,data:=.seq its n,slots:=#[] }
theorem ig(a:Addr)(its:Array Value)(n:Nat)(name:Str)(u:Tok)(hmiss:typeLookup (.type "list") name=pure none)(hname:(["__module__","__name__","__qualname__","__doc__","__annotations__"]:List Str).contains name=false)(hsz:name.length+100<=sizeLine):
  Meets (Builtin.«object.__getattribute__» ⟨[.ref a,.str name u],[]⟩) (fun A R s=>AK s.heap a its n/\raisesAttr (.ref a) name A R s):=
 Meets.of_wp fun prog w A R s hs=>by
  obtain ⟨hp,g,d,tk,os⟩:=s;obtain ⟨hx,hs⟩:=hs;have hT:(⟨hp,g,d,tk,os⟩:Shared).TypeIs (.ref a) "list":=⟨_,hx,rfl⟩;unfold Builtin.«object.__getattribute__»
  repeat (any_goals (first|assumption|wp_step))
  simp only [hname,Bool.false_eq_true,if_false]
  repeat (any_goals (first|assumption|wp_step))
  exact wpAny_raiseAttrError hs.1 hs.2 (attrMsg_fits (by decide +kernel) hsz)
section
variable {prog:Program}{w:World}{A:Around}{E:Value->Shared->Prop}{s:Shared}
theorem jy{a:Addr}{its:Array Value}{n:Nat}{Q:Option Value->Shared->Prop}(hx:AK s.heap a its n)(hA:A.handled=none)
  (h:∀h' tk,(∀b o,s.heap.get? b=some o->h'.get? b=some o)->Q none { s with heap:=h',toks:=tk }):wpAny (model prog w) A (getAttr? (.ref a) "keys") Q E s:=by
 obtain ⟨hp,g,d,tk,os⟩:=s;have hT:∀tk',(⟨hp,g,d,tk',os⟩:Shared).TypeIs (.ref a) "list":=fun _=>⟨_,hx,rfl⟩;have f1':=sub_AttributeError;have f3:=PySem.F.slot_list_getattribute.lookup;have f4:=PySem.F.slot_list_getattribute.bind (.ref a);have f5:=g7;unfold getAttr? getAttrBy? getAttrBy
 repeat (any_goals (first|assumption|exact hT _|((with_reducible show wpAny _ _ (call (Value.builtin "list.__getattribute__") _ _) _ _ _);refine call_meets PySem.F.slot_list_getattribute (hT _) di (PySem.F.args_list_getattribute_2 _ _) (ig a its n "keys" _ mR (by decide +kernel) (by decide +kernel)) ⟨hx,hA,fun h' tk' e hx'=>?_⟩)|wp_step))
 obtain ⟨t',u',he⟩:=hx'.there;show wpAny _ _ (getattributeRaised _ _ _ _ _ _ _) _ _ _;unfold getattributeRaised
 repeat (any_goals (first|assumption|wp_step))
 exact h _ _ hx'.keeps
end
def A5(h:Heap)(T:Addr)(k v:Value):Prop:=∃o n,h.get? T=some o/\o.cls=.type "tuple"/\o.data=.seq #[k,v] n
theorem ve{prog:Program}{w:World}{A:Around}{R:Result->Shared->Prop}{l it d:Addr}{ps:List (Value×Value)}{Ts:List Addr}(hh:A.handled=none)(P:Nat->Heap->Prop)
  (stay:∀i h h',P i h->(∀b o,b≠it->h.get? b=some o->h'.get? b=some o)->P i h')
  (step:∀(i:Nat) (hi:i<ps.length) (s:Shared) (Q:Unit->Shared->Prop) (E:Value->Shared->Prop),P i s.heap->(∀h' tk,P (i+1) h'->Heap.SameBut d s.heap h'->Q () { s with heap:=h',toks:=tk })->wpAny (model prog w) A.in1 (dictSet d ps[i].1 ps[i].2) Q E s)
  (hl:Ts.length=ps.length) (n1:l≠it) (n2:d≠it) (n3:l≠d) (nT:∀T∈Ts,T≠it/\T≠d):
  ∀(n i:Nat) (s:Shared),n=ps.length-i->i<=ps.length->s.heap.IsListIter it l i->s.heap.IsList l (Ts.map Value.ref).toArray->(∀(i:Nat) (h1:i<Ts.length) (h2:i<ps.length),A5 s.heap Ts[i] ps[i].1 ps[i].2)->P i s.heap->
   (∀s':Shared,s'.os=s.os->s'.gens=s.gens->s'.drawn=s.drawn->P ps.length s'.heap->(∀c o,c≠it->c≠d->s.heap.get? c=some o->s'.heap.get? c=some o)->R (.ok (.ret .none)) s')->
   ∀tk:Nat,codeAny (model prog w) A (.builtin "dict.update.loop" ⟨[.ref d,.ref it,rawInt tk,.none],[]⟩) R s:=by
 intro n
 induction n with
 |zero=>
  intro i s hn hi hit hls _ hP hR tk;have hin:i=ps.length:=by lia
  refine codeAny_builtin bg ?_;rw [Around.under_plainId aD _];show wpAny _ A.in1 (pyNext (.ref it) >>= _) _ _ s;refine wpAny_bind (wpAny_pyNext_list_end (A:=A.in1) hh hit hls (by simp;lia) fun h' hk'=>?_)
  refine wpAny_bind (m:=Builtin.Dict.addKeywords d []) (wpAny_pure (wpAny_pure (hR _ rfl rfl rfl ?_ fun c o c1 c2 e=>hk' c o c1 e)));rw [<- hin];exact stay i _ _ hP fun b o hb e=>hk' b o hb e
 |succ n ih=>
  intro i s hn hi hit hls hpr hP hR tk;have hlt:i<ps.length:=by lia
  have hlT:i<Ts.length:=by lia
  refine codeAny_builtin bg ?_;rw [Around.under_plainId aD _];show wpAny _ A.in1 (pyNext (.ref it) >>= _) _ _ s;refine wpAny_bind (wpAny_pyNext_list_item (x:=.ref Ts[i]) hit hls (by simp [hlT]) fun h' hit' sb=>?_)
  obtain ⟨nTi,nTd⟩:=nT Ts[i] (List.getElem_mem hlT);have k1:∀b o,b≠it->s.heap.get? b=some o->h'.get? b=some o:=fun b o hb e=>sb.extBut b o hb e;obtain ⟨oT,m,e1,e2,e3⟩:=hpr i hlT hlt;have e1':=k1 _ _ nTi e1;have hTy:({ s with heap:=h' }:Shared).TypeIs (.ref Ts[i]) "tuple":=⟨_,e1',e2⟩;refine wpAny_bind (wpAny_holding (wpAny_bind (wpAny_tryCatch ?_)));unfold Builtin.Dict.pairItems;refine wpAny_bind (wpAny_typeOf hTy ?_);rw [if_pos (by decide)]
  refine wpAny_bind (wpAny_seqItems (s:={ s with heap:=h' }) e1' e3 (wpAny_pure ?_));show wpAny _ _ (holding [ps[i].1,ps[i].2] (dictSet d ps[i].1 ps[i].2)) _ _ _;refine wpAny_holding (step i hlt { s with heap:=h' } _ _ (stay i _ _ hP k1) fun h'' tk2 hP' hs''=>?_);have k2:∀b o,b≠it->b≠d->s.heap.get? b=some o->h''.get? b=some o:=fun b o hb hd e=>hs''.extBut b o hd (k1 b o hb e);refine wpAny_pure ⟨plainId_quiet aD _,?_⟩;refine ih (i+1) { s with heap:=h'',toks:=tk2 } (by lia) hlt (hit'.at fun o e=>hs''.extBut _ o n2.symm e) ?_ (fun j h1 h2=>?_) hP' (fun s' q1 q2 q3 q4 q5=>hR s' q1 q2 q3 q4 fun c o c1 c2 e=>q5 c o c1 c2 (k2 c o c1 c2 e)) (tk+1)
  ·obtain ⟨o,z1,z2⟩:=hls
   exact ⟨o,k2 _ _ n1 n3 z1,z2⟩
  ·obtain ⟨o,m,z1,z2⟩:=hpr j h1 h2
   obtain ⟨q1,q2⟩:=nT Ts[j] (List.getElem_mem h1);exact ⟨o,m,k2 _ _ q1 q2 z1,z2⟩
theorem vO{prog:Program}{w:World}{A:Around}{E:Value->Shared->Prop}{s:Shared}{l:Addr}{m:Nat}{ps:List (Value×Value)}{Ts:List Addr}{Q:Value->Shared->Prop}(hh:A.handled=none)(P:Nat->Heap->Prop)
  (h0:∀h',(∀b o,s.heap.get? b=some o->h'.get? b=some o)->h'.get? s.heap.objs.size=some { cls:=.type "dict",data:=.dict #[] }->P 0 h')
  (stay:∀i h h',P i h->(∀b o,b<=s.heap.objs.size->h.get? b=some o->h'.get? b=some o)->P i h')
  (step:∀(i:Nat) (hi:i<ps.length) (s':Shared) (Q:Unit->Shared->Prop) (E:Value->Shared->Prop),P i s'.heap->(∀h' tk,P (i+1) h'->Heap.SameBut s.heap.objs.size s'.heap h'->Q () { s' with heap:=h',toks:=tk })->wpAny (model prog w) A.in1.in1 (dictSet s.heap.objs.size ps[i].1 ps[i].2) Q E s')
  (hl:Ts.length=ps.length) (hls:AK s.heap l (Ts.map Value.ref).toArray m) (hpr:∀(i:Nat) (h1:i<Ts.length) (h2:i<ps.length),A5 s.heap Ts[i] ps[i].1 ps[i].2)
  (h:∀s':Shared,s'.os=s.os->s'.gens=s.gens->s'.drawn=s.drawn->P ps.length s'.heap->(∀c o,s.heap.get? c=some o->s'.heap.get? c=some o)->Q (.ref s.heap.objs.size) s'):
  wpAny (model prog w) A (call (.type "dict") [.ref l]) Q E s:=by
 refine callType_codes (Q₁:=fun obj s₁=>obj=.ref s.heap.objs.size/\s₁={ s with heap:=s.heap.push { cls:=.type "dict",data:=.dict #[] } }) L2.F.called_dict (L2.F.typeCall_dict_1 _) PySem.F.entry_dict_init (eY _ ⟨rfl,rfl⟩) ?_
 rintro obj s₁ ⟨rfl,rfl⟩
 have up:∀c o,s.heap.get? c=some o->(s.heap.push { cls:=.type "dict",data:=.dict #[] }).get? c=some o:=fun c o e=>Heap.get?_push_of_some _ e;have lt:∀{c o},s.heap.get? c=some o->c<s.heap.objs.size:=fun e=>Heap.lt_size e;have hnew:(s.heap.push { cls:=.type "dict",data:=.dict #[] }).get? s.heap.objs.size=some { cls:=.type "dict",data:=.dict #[] }:=Heap.get?_push_size _ rfl;have hTd:({ s with heap:=s.heap.push { cls:=.type "dict",data:=.dict #[] } }:Shared).TypeIs (.ref s.heap.objs.size) "dict":=⟨_,hnew,rfl⟩;refine ⟨hTd,PySem.F.args_dict_init_2 _ _,?_⟩;unfold Builtin.«dict.__init__» Builtin.Dict.selfAndRest;refine wpAny_bind (wpAny_bind (wpAny_notOrdered_dict hTd (wpAny_pure ?_)));show wpAny _ _ (Builtin.Dict.updateFrom "dict.__init__" s.heap.objs.size (.ref l) [] .none) _ _ _;unfold Builtin.Dict.updateFrom;refine wpAny_bind (wpAny_typeOf (T:="list") ⟨_,up _ _ hls,rfl⟩ ?_);rw [if_pos (by decide)]
 refine wpAny_bind (jy (s:={ s with heap:=s.heap.push { cls:=.type "dict",data:=.dict #[] } }) (up _ _ hls) hh fun h₁ tk₁ hk₁=>?_);rw [if_pos (show (none:Option Value).isNone=true from rfl)];have up1:∀c o,s.heap.get? c=some o->h₁.get? c=some o:=fun c o e=>hk₁ c o (up c o e);have isl:h₁.IsList l (Ts.map Value.ref).toArray:=⟨_,up1 _ _ hls,rfl,m,rfl⟩;refine wpAny_bind (wpAny_rule (wpAny_bind (wpAny_pyIter_list (s:={ s with heap:=h₁,toks:=tk₁ }) isl (wpAny_pure ⟨plainId_quiet aD _,?_⟩))));have hd1:=hk₁ _ _ hnew;have dlt:s.heap.objs.size<h₁.objs.size:=Heap.lt_size hd1;have up2:∀c o,h₁.get? c=some o->(h₁.push { cls:=.type "list_iterator",data:=.fields #[.ref l,.int 0 0] }).get? c=some o:=fun c o e=>Heap.get?_push_of_some _ e;have ltn:∀{c o},s.heap.get? c=some o->c≠h₁.objs.size/\c≠s.heap.objs.size:=fun {c o} e=>⟨Nat.ne_of_lt (Nat.lt_trans (lt e) dlt),Nat.ne_of_lt (lt e)⟩;refine ve (A:=A.in1) (l:=l) (it:=h₁.objs.size) (d:=s.heap.objs.size) (ps:=ps) (Ts:=Ts) hh P (fun i h h' hP hk=>stay i h h' hP fun b o hb e=>hk b o (Nat.ne_of_lt (Nat.lt_of_le_of_lt hb dlt)) e) step hl (ltn hls).1 (Nat.ne_of_lt dlt) (ltn hls).2 (fun T hT=>?_) ps.length 0 { s with heap:=h₁.push { cls:=.type "list_iterator",data:=.fields #[.ref l,.int 0 0] },toks:=tk₁ } (by simp) (Nat.zero_le _) ⟨_,Heap.get?_push_size _ rfl,rfl,rfl⟩ ?_ (fun i h1 h2=>?_) (h0 _ (fun b o e=>up2 b o (up1 b o e)) (up2 _ _ hd1)) (fun s' q1 q2 q3 q4 q5=>?_) 0
 ·obtain ⟨i,hi,rfl⟩:=List.mem_iff_getElem.mp hT
  obtain ⟨o,n,e,_⟩:=hpr i hi (by lia)
  exact ltn e
 ·obtain ⟨o,z1,z2⟩:=isl
  exact ⟨o,up2 _ _ z1,z2⟩
 ·obtain ⟨o,n,e,r⟩:=hpr i h1 h2
  exact ⟨o,n,up2 _ _ (up1 _ _ e),r⟩
 ·exact ⟨rfl,h s' q1 q2 q3 q4 fun c o e=>q5 c o (ltn e).1 (ltn e).2 (up2 _ _ (up1 _ _ e))⟩
end LS
namespace L2
open PySem PySem.Spec PyProof.Rows LS
inductive PrK(H:Hp):List V->List (aw×V)->Prop
 |nil:PrK H [] []
 |cons {T:Addr} {k:aw} {x:V} {vs:List V} {kvs:List (aw×V)} (hT:H T=some (.tup [kV k,x])) (r:PrK H vs kvs):PrK H (.ref T::vs) ((k,x)::kvs)
section
variable {X:Cx}{pins:List (Addr×Obj)}{σ:St}{H:Hp}{s:Shared}
theorem Inv.pair{T:Addr}{y x:V}(I:Inv X pins σ H s)(h:H T=some (.tup [y,x])):∃k v,RelV y k/\RelV x v/\A5 s.heap T k v:=by
 obtain ⟨_,its,r,o,e,⟨c,n,d⟩,_⟩:=(show ObjOk X.prog X.w H s.heap T (.tup [y,x]) from I.hok T _ h);obtain ⟨k,v,rfl,r1,r2⟩:=r.two;exact ⟨k,v,r1,r2,o,n,e,c,d⟩
theorem Inv.prK(I:Inv X pins σ H s):∀{vs:List V} {kvs:List (aw×V)},PrK H vs kvs->∃(Ts:List Addr) (rs:List (aw×Value×Value)),vs=Ts.map V.ref/\KV kvs (rs.map fun r=>(r.1,r.2.2))/\Ts.length=rs.length/\(∀r∈rs,(aH X.prog X.w).is r.1 r.2.1=true)/\∀(i:Nat) (h1:i<Ts.length) (h2:i<rs.length),A5 s.heap Ts[i] rs[i].2.1 rs[i].2.2
 |_,_,.nil=>⟨[],[],rfl,.nil,rfl,by simp,fun i h=>absurd h (Nat.not_lt_zero _)⟩
 |_,_,.cons (T:=T) (k:=k) hT r=>by
  obtain ⟨Ts,rs,rfl,q,hl,hk,hp⟩:=I.prK r;obtain ⟨kk,v,r1,r2,p⟩:=I.pair hT;refine ⟨T::Ts,(k,kk,v)::rs,rfl,.cons ⟨rfl,r2⟩ q,by simp [hl],fun r hr=>?_,fun i h1 h2=>?_⟩
  ·rcases List.mem_cons.mp hr with rfl|hr
   ·exact ia r1
   ·exact hk r hr
  ·cases i with
   |zero=>exact p
   |succ i=>exact hp i (by simpa using h1) (by simpa using h2)
theorem qc{xs:List (aw×Value)}{k:aw}{u:Value}:(PySem.stored xs k u).length<=xs.length+1:=by
 unfold PySem.stored
 split
 ·rw [List.length_map];lia
 ·simp
theorem gu:∀(rs xs:List (aw×Value)),(rs.foldl (fun a r=>PySem.stored a r.1 r.2) xs).length<=xs.length+rs.length
 |[],xs=>by simp
 |r::rs,xs=>by
  have:=gu rs (PySem.stored xs r.1 r.2);have:=qc (xs:=xs) (k:=r.1) (u:=r.2);rw [List.foldl_cons,List.length_cons];lia
theorem vb:∀{kvs:List (aw×V)} {rs:List (aw×Value)},KV kvs rs->∀{a:List (aw×V)} {xs:List (aw×Value)},KV a xs->KV (kvs.foldl (fun a p=>ca a p.1 p.2) a) (rs.foldl (fun a r=>PySem.stored a r.1 r.2) xs)
 |_,_,.nil,a,xs,h=>h
 |_,_,.cons (a:=p) (b:=q) h t,a,xs,h0=>by
  rw [List.foldl_cons,List.foldl_cons];refine vb t ?_;rw [<- h.1];exact h0.put p.1 h.2
theorem Inv.ls{l:Addr}{vs:List V}(I:Inv X pins σ H s)(e:Rd H l (.lst vs)):∃its n,Vals vs its/\AK s.heap l its.toArray n:=by
 obtain ⟨_,its,n,r,q⟩:=(show ObjOk X.prog X.w H s.heap l (.lst vs) from e.ok I.hok);exact ⟨its,n,r,q⟩
theorem lW:∀{Ts:List Addr} {its:List Value},Vals (Ts.map V.ref) its->its=Ts.map Value.ref
 |[],_,h=>by cases h;rfl
 |T::Ts,_,h=>by
  cases h with
  |cons r t=>
   have r':_=Value.ref T:=r;rw [r',lW t];rfl
theorem qp(hc:X.calm=true):bI X (.type "dict") (fun xs H Q=>∃l vs kvs,xs=[.ref l]/\Rd H l (.lst vs)/\PrK H vs kvs/\kvs.length<=1000000/\∀p,H p=none->Q (.ref p) (upd H p (.dK (kvs.foldl (fun a p=>ca a p.1 p.2) [])))):=by
 intro pins s σ H xs us Q I r h;obtain ⟨l,vs,kvs,rfl,hl,pr,hz,q⟩:=h;obtain ⟨u,rfl,ru⟩:=r.one;cases ru;obtain ⟨Ts,rs,rfl,kv,hlen,hkeys,hpr⟩:=I.prK pr;obtain ⟨its,n,rv,hls⟩:=I.ls hl;have:=lW rv;subst this;have hrl:rs.length<=1000000:=by have:=Paired.length kv;rw [List.length_map] at this;lia
 refine vO (ps:=rs.map fun r=>(r.2.1,r.2.2)) (Ts:=Ts) (I.ok.hd hc) (fun i h=>h.DictOf (aH X.prog X.w) s.heap.objs.size (((rs.take i).map fun r=>(r.1,r.2.2)).foldl (fun a r=>PySem.stored a r.1 r.2) [])) ?_ ?_ ?_ (by simp [hlen]) hls (fun i h1 h2=>?_) ?_
 ·intro h' hk hd
  obtain ⟨o,es,ep,e1,r⟩:=Heap.DictOf.new (knd:=aH X.prog X.w) s.heap;rw [Heap.get?_push_size _ rfl] at e1;cases e1;exact ⟨_,es,ep,hd,r⟩
 ·rintro i h h' ⟨o,es,ep,e1,r⟩ hk'
  exact ⟨o,es,ep,hk' _ o (Nat.le_refl _) e1,r⟩
 ·rintro i hi s' Q' E' hd hQ
  have hi':i<rs.length:=by simpa using hi
  simp only [List.getElem_map];have hlen':(((rs.take i).map fun r=>(r.1,r.2.2)).foldl (fun a r=>PySem.stored a r.1 r.2) ([]:List (aw×Value))).length<=sizeLine:=by
   have:=gu ((rs.take i).map fun r=>(r.1,r.2.2)) [];have h2:(1000000:Nat)<=sizeLine:=by decide
   simp only [List.length_nil,List.length_map,List.length_take] at this;lia
  refine wpAny_dictSet_pairs (knd:=aH X.prog X.w) (k:=rs[i].1) (hkeys rs[i] (List.getElem_mem hi')) hd (fun h' hd' sb=>hQ h' _ ?_ sb) hlen';rw [List.take_succ_eq_append_getElem hi',List.map_append,List.foldl_append];exact hd'
 ·have h2':i<rs.length:=by simpa using h2
  simp only [List.getElem_map];exact hpr i h1 h2'
 ·rintro s' o1 o2 o3 hd hk
  simp only [List.length_map,List.take_length] at hd;have hbig:=I.big;have hn:H s.heap.objs.size=none:=I.hok.fresh (Nat.le_refl _);obtain ⟨hh',g',d',t',os'⟩:=s';obtain rfl:os'=s.os:=o1;obtain rfl:g'=s.gens:=o2;obtain rfl:d'=s.drawn:=o3;have kvf:=vb kv (a:=[]) (xs:=[]) .nil;refine ⟨.ref s.heap.objs.size,_,I.laid (a:=s.heap.objs.size) (o:=.dK (kvs.foldl (fun a p=>ca a p.1 p.2) [])) (t':=t') hk (Nat.le_refl _) (jT ?_ (beq_eq_false_iff_ne.mpr (Nat.ne_of_gt hbig)) kvf hd),rfl,q _ hn⟩;rw [Paired.length kvf];have:=gu (rs.map fun r=>(r.1,r.2.2)) [];have h2:(1000000:Nat)<=sizeLine:=by decide
  simp only [List.length_nil,List.length_map] at this;lia
end
end L2
namespace L3
open PySem L2 LS
section
variable {X:Cx}{B:Bd}{K:W.Frag}{H:Hp}
def og:List D->Option (List (aw×D))
 |[]=>some []
 |.tup [k,v]::ds=>match bW k,og ds with
  |some ks,some r=>some ((ks,v)::r)
  |_,_=>none
 |_=>none
theorem xA:∀{ds:List D} {vs:List V} {kvs:List (aw×D)},Rps K H ds vs->og ds=some kvs->∃ws,PrK H vs ws/\Rkv K H kvs ws
 |[],vs,kvs,r,e=>by cases e;cases r;exact ⟨[],.nil,.nil⟩
 |d::ds,vs,kvs,r,e=>by
  obtain ⟨v,r',rfl,a,b⟩:=r;unfold og at e
  split at e
  ·rename_i h;cases h
  ·rename_i k x ds' h
   cases h
   split at e
   ·rename_i ks q e1 e2
    cases e;obtain ⟨ws,h1,h2⟩:=xA b e2;obtain ⟨T,us,rfl,hT,ru⟩:=a;obtain ⟨u1,us',rfl,ru1,ru2⟩:=ru;obtain ⟨u2,us'',rfl,ru2,ru3⟩:=ru2;cases ru3;have:=eE ru1 e1;subst this;exact ⟨(ks,u2)::ws,.cons hT h1,.cons ⟨rfl,ru2⟩ h2⟩
   ·cases e
  ·cases e
theorem oO{κ:Type}[DecidableEq κ]:∀{a:List (κ×D)} {b:List (κ×V)},Rkv K H a b->∀{a0:List (κ×D)} {b0:List (κ×V)},Rkv K H a0 b0->Rkv K H (a.foldl (fun x p=>cT x p.1 p.2) a0) (b.foldl (fun x p=>ca x p.1 p.2) b0)
 |_,_,.nil,a0,b0,h=>h
 |_,_,.cons (a:=p) (b:=q) h t,a0,b0,h0=>by
  rw [List.foldl_cons,List.foldl_cons];refine oO t ?_;rw [<- h.1];exact h0.put p.1 h.2
theorem Bl{M:Mem}{d:D}{v:V}{xs:List D}(rh:RepH K H M)(r:Rp K H d v)(e:dk M d=some xs)(hm:∀ys,d≠.ml ys):∃l vs,v=.ref l/\Rd H l (.lst vs)/\Rps K H xs vs:=by
 cases d with
 |lst ys=>
  cases e;obtain ⟨p,vs,rfl,⟨o,h⟩,r⟩:=r;exact ⟨p,vs,rfl,.inr ⟨o,h⟩,r⟩
 |ml ys=>exact absurd rfl (hm ys)
 |ref a=>
  simp only [dk] at e
  split at e
  ·rename_i ys q
   cases e;cases r;obtain ⟨vs,h1,h2⟩:=rh _ _ q;exact ⟨a,vs,rfl,.inl h1,h2⟩
  ·cases e
 |_=>cases e
def xo:D->Bool
 |.ml _=>false
 |_=>true
theorem zy{d:D}(h:xo d=true):∀ys,d≠.ml ys:=fun ys e=>by subst e;cases h
def dM:qm:=fun ds M Q=>match ds with
 |[d]=>xo d=true/\match dk M d with
  |some xs=>match og xs with
   |some kvs=>kvs.length<=1000000/\∀p,M p=none->Q (.ref p) (M.upd p (.dK (kvs.foldl (fun a p=>cT a p.1 p.2) [])))
   |none=>False
  |none=>False
 |_=>False
theorem o_(hc:X.calm=true):bI X (.type "dict") (liftC X dM):=by
 intro pins s σ H xs us Q I r h;obtain ⟨ds,M,QQ,rh,rp,h,up⟩:=h;unfold dM at h
 split at h
 ·obtain ⟨v,rfl,rv⟩:=fw (ds:=[]) rp
  obtain ⟨hm,h⟩:=h
  split at h
  ·rename_i ys e
   split at h
   ·rename_i kvs e2
    obtain ⟨l,vs,rfl,hq,rr⟩:=Bl rh rv e (zy hm);obtain ⟨ws,h1,h2⟩:=xA rr e2;refine qp hc pins s σ H _ us Q I r ⟨l,vs,ws,rfl,hq,h1,by rw [<- h2.length];exact h.1,fun p hp=>?_⟩
    exact up _ _ (h.2 p (rh.fresh hp)) _ _ (rh.put (by rw [hp];trivial) ⟨_,upd_same,(oO h2 .nil).mono (Imm.new hp)⟩) (Frm.put (.inl hp)) rfl
   ·exact h.elim
  ·exact h.elim
 ·exact h.elim
end
end L3
namespace LS
open PySem PySem.W PySem.Calls PyProof.Rows PyProof.V PySem.Spec L2
end LS
namespace L3
open PySem L2 LS
section
variable {X:Cx}{B:Bd}
end
end L3
namespace L3
open PySem PySem.W PySem.Calls PyProof.Rows PyProof.V PySem.Spec L2
section
variable {X:Cx}{B:Bd}{pins:List (Addr×Obj)}{σ:L2.St}{H:Hp}{s:Shared}{M:Mem}
end
end L3
namespace L3
open PySem L2 LS
section
variable {X:Cx}{B:Bd}
end
end L3
namespace L2
open PySem PySem.Spec PyProof.Rows
section
variable {X:Cx}{e:Expr}{te:TE}{st:Expr}{ts:TO}{p2 pos:Pos}
end
end L2
namespace L3
open PySem L2
section
variable {X:Cx}{B:Bd}{K:W.Frag}{H:Hp}{M:Mem}{e:Expr}{te:aZ}{st:Expr}{ts:Ct}{pos p2:Pos}
end
end L3
namespace L2
open PySem PySem.Spec PyProof.Rows
section
variable {prog:Program}{w:World}{A:Around}{E:Value->Shared->Prop}{s:Shared}
end
end L2
namespace L2
open PySem PySem.Spec PyProof.Rows
section
variable {prog:Program}{w:World}{A:Around}{E:Value->Shared->Prop}{s:Shared}
end
section
variable {X:Cx}
end
end L2
namespace L3
open PySem L2
section
variable {X:Cx}{B:Bd}{K:W.Frag}{H:Hp}
end
end L3
namespace LS
open PySem PySem.W PyProof.Rows
section
variable {n:Nat}{ky:Nat->Nat}{cmp:Nat->Nat->(Bool->Shared->Prop)->Shared->Prop}{p:Array Nat}{s:Shared}
end
end LS
namespace LS
open PySem PySem.W PyProof.Rows
section
variable {prog:Program}{w:World}{A:Around}{s:Shared}{b:Bool}{Q:Bool->Shared->Prop}
end
end LS
namespace LS
open PySem PySem.W PyProof.Rows
section
variable {prog:Program}{w:World}{A:Around}{E:Value->Shared->Prop}{s:Shared}
end
end LS
namespace L3
open PySem L2 LS
section
variable {X:Cx}{B:Bd}
end
end L3
namespace HT
open PySem PyProof.Rows
section
variable {prog:Program}{w:World}{A:Around}{E:Value->Shared->Prop}{s:Shared}
end
end HT
namespace L2
open PySem PySem.Spec PyProof.Rows
section
variable {X:Cx}{e:Expr}{te:TE}{st:Expr}{ts:TO}{p2 pos:Pos}
end
end L2
namespace L3
open PySem L2
section
variable {X:Cx}{B:Bd}{e:Expr}{te:aZ}{st:Expr}{ts:Ct}{pos p2:Pos}
end
end L3
namespace L3
open PySem L2
structure GF(K:W.Frag)(mg:Str->Option Value)(x:Str)(st:Stmt)(f:Addr)(fd:FuncData)(ps:List Str):Prop where
 F:Fun K x x st f fd
 b:Binds K fd ps []
 k:W.keepIn K (.ref f)=true
 m:mg x=some (.ref f)
structure GA(K:W.Frag)(mg:Str->Option Value)(x y:Str)(st:Stmt)(f:Addr)(fd:FuncData)(ps:List Str):Prop where
 F:Fun K y y st f fd
 b:Binds K fd ps []
 k:W.keepIn K (.ref f)=true
 m:mg x=some (.ref f)
structure FunV(K:W.Frag)(x qual:Str)(st:Stmt)(f:Addr)(fd:FuncData):Prop where
 ex:∃(oc:Value) (od:Option Addr) (kV doc pm:Value) (an:Option Addr) (cdv ct:Value) (osl:Array (Option Value)) (T:Addr),
  fd=W.fnOf x qual (bG st) (bf st) (aA st) (.ref T) kV doc pm an cdv ct/\K.lookup f=some ⟨oc,od,.func fd,osl⟩/\W.codeIn K cdv qual=true
 kp:W.keepIn K (.ref f)=true
structure GV(K:W.Frag)(mg:Str->Option Value)(x:Str)(st:Stmt)(f:Addr)(fd:FuncData)(ps:List Str)(dv:Int):Prop where
 F:FunV K x x st f fd
 b:Binds K fd ps []
 d:∃t,Binds K fd ps [.int dv t]
 k:W.keepIn K (.ref f)=true
 m:mg x=some (.ref f)
inductive GC(K:W.Frag)(mg:Str->Option Value)(x:Str)(st:Stmt)(f:Addr)(fd:FuncData)(ps:List Str):Prop
 |g (h:GF K mg x st f fd ps):GC K mg x st f fd ps
 |a {y:Str} (h:GA K mg x y st f fd ps):GC K mg x st f fd ps
 |v {dv:Int} (h:GV K mg x st f fd ps dv):GC K mg x st f fd ps
structure GM(K:W.Frag)(C:Addr)(x qual:Str)(st:Stmt)(f:Addr)(fd:FuncData)(ps:List Str):Prop where
 F:Fun K x qual st f fd
 b:Binds K fd ps []
 m:Meth K C x f
structure GI(K:W.Frag)(C:Addr)(x qual:Str)(st:Stmt)(f:Addr)(fd:FuncData)(ps:List Str):Prop where
 F:Fun K x qual st f fd
 b:Binds K fd ps []
 m:Mk K C f
section
variable {X:Cx}{B:Bd}{CX:kF}{k n:Nat}{f C:Addr}{fd:FuncData}{N ps:List Str}{T:Sd}{EE:DX}{E:XK}{x qual:Str}{st:Stmt}{p pos apos:Pos}{o e:Expr}{es:List Expr}{ta:aZ}{t:dm}
theorem yo(h:GC X.K X.mg x st f fd ps)(F:FnOk X.prog X.w X.K X.mg X.base CX k f fd ps (bi X.K n T))(hr:Room k X.A)(hg:Gl X x)(hx:br CX X E)(ux:ph X.K B EE E)
  (ha:DA X B (e::es) t) (hdb:(x==("__debug__":Str))=false) (he:starEach (e::es) X.env=(false,eval e X.env)::starEach es X.env) (hpl:(backTo pos (starEach es X.env)).any (·.1)=false):
  DE X B (.Call (.Name x p) (e::es) [] pos) (ak T EE n t):=by
 cases h with
 |g h=>exact nH F hr hg h.m h.k h.b hx ux ha hdb he hpl
 |a h=>exact nH F hr hg h.m h.k h.b hx ux ha hdb he hpl
 |v h=>exact nH F hr hg h.m h.k h.b hx ux ha hdb he hpl
def F3(X:Cx)(B:Bd)(x:Str)(T:Sd)(EE:DX)(n:Nat):Prop:=∃(st:Stmt) (f:Addr) (fd:FuncData) (ps:List Str) (k:Nat) (CX:kF) (E:XK),GC X.K X.mg x st f fd ps/\FnOk X.prog X.w X.K X.mg X.base CX k f fd ps (bi X.K n T)/\Room k X.A/\br CX X E/\ph X.K B EE E
theorem yl(h:F3 X B x T EE n)(hg:Gl X x)(ha:DA X B (e::es) t)(hdb:(x==("__debug__":Str))=false)(he:starEach (e::es) X.env=(false,eval e X.env)::starEach es X.env)(hpl:(backTo pos (starEach es X.env)).any (·.1)=false):
  DE X B (.Call (.Name x p) (e::es) [] pos) (ak T EE n t):=by
 obtain ⟨_,_,_,_,_,_,_,h,F,hr,hx,ux⟩:=h;exact yo h F hr hg hx ux ha hdb he hpl
theorem yK(h:GI X.K C qual x st f fd ps)(F:FnOk X.prog X.w X.K X.mg X.base CX k f fd ps (bi X.K n T))(hr:Room (k+1) X.A){y:Str}(hg:Gl X y)(hm:X.mg y=some (.ref C))(hx:br CX X E)(ux:ph X.K B EE E)
  (ha:DA X B (e::es) t) (hdb:(y==("__debug__":Str))=false) (he:starEach (e::es) X.env=(false,eval e X.env)::starEach es X.env) (hpl:(backTo pos (starEach es X.env)).any (·.1)=false):
  DE X B (.Call (.Name y p) (e::es) [] pos) (dP C T EE n t):=AB h.m F hr hg hm h.b hx ux ha hdb he hpl
theorem wH{m:Str}{pl:Sem Bool}(he:DE X B o ta)(c:Cls X.K C)(h:GM X.K C m qual st f fd ps)(F:FnOk X.prog X.w X.K X.mg X.base CX k f fd ps (bi X.K n T))(hr:Room k X.A)(hx:br CX X E)(ux:ph X.K B EE E)(ha:DA X B (e::es) t)
  (hst:starEach (e::es) X.env=(false,eval e X.env)::starEach es X.env) (hpl:(backTo pos (starEach es X.env)).any (·.1)=false)
  (ht:eval (.Call (.Attribute o m apos) (e::es) [] pos) X.env=(do
   let ov <- eval o X.env
   standAt apos.atName
   let (f,first) <- holding [ov] (getMethod ov m pl)
   callWith pos f first (backTo pos (starEach (e::es) X.env)) (backToKw pos (keywordEach [] X.env)))):
  DE X B (.Call (.Attribute o m apos) (e::es) [] pos) (cg C m T EE n ta t):=BG he c h.m F hr h.b hx ux ha hst hpl ht
theorem vX{m:Str}{pl:Sem Bool}(he:DE X B o ta)(c:Cls X.K C)(h:GM X.K C m qual st f fd ps)(F:FnOk X.prog X.w X.K X.mg X.base CX k f fd ps (bi X.K n T))(hr:Room k X.A)(hx:br CX X E)(ux:ph X.K B EE E)
  (ht:eval (.Call (.Attribute o m apos) [] [] pos) X.env=(do
   let ov <- eval o X.env
   standAt apos.atName
   let (f,first) <- holding [ov] (getMethod ov m pl)
   callWith pos f first (backTo pos (starEach [] X.env)) (backToKw pos (keywordEach [] X.env)))):
  DE X B (.Call (.Attribute o m apos) [] [] pos) (cg C m T EE n ta af):=yt he c h.m F hr h.b hx ux ht
inductive FC(X:Cx)(scope:Scope):List Str->List Nat->List (Str×Addr)->Prop
 |nil:FC X scope [] [] []
 |cons {x:Str} {j:Nat} {c:Addr} {fs:List Str} {js:List Nat} {cl:List (Str×Addr)}:X.N[j]?=some x->X.env.cells.lookup x=some c->(X.env.kindOf x=some .cell\/X.env.kindOf x=some .free)->
   ((relabel scope X.env).names.lookup x=some .cell\/(relabel scope X.env).names.lookup x=some .free)->FC X scope fs js cl->FC X scope (x::fs) (j::js) ((x,c)::cl)
theorem FC.ok{scope:Scope}{fs:List Str}{js:List Nat}{cl:List (Str×Addr)}(h:FC X scope fs js cl):Frees X scope fs js/\∃cs:List Addr,fs.length=cs.length/\cl=fs.zip cs/\∀p∈cl,X.env.cells.lookup p.1=some p.2:=by
 induction h with
 |nil=>exact ⟨.nil,[],rfl,rfl,memZ⟩
 |cons a b c d _ ih=>
  obtain ⟨h1,cs,h2,h3,h4⟩:=ih;exact ⟨.cons a c d h1,_::cs,congrArg (·+1) h2,by rw [h3];rfl,memC b h4⟩
variable {scope:Scope}{cl:List (Str×Addr)}{ls fs:List Str}{js:List Nat}{tg iter elt:Expr}{ifs:List Expr}{wi:vc}{g:ii}{tt:dz}{te:aZ}{i:Nat}{px spos:Pos}
theorem nodC{s₀:Shared}{H₀:Hp}{fp:List Addr}{pl:List (Addr×Obj)}(h:N.Nodup):(aU X N scope cl C s₀ H₀ fp pl).N.Nodup:=h
theorem ua(h:FC X scope fs js cl)(hk:scope.kind=.function)(hn:∀y∈scope.names,y.2≠.cell/\(y.2=.free->y.1∈fs))(hl:∀x∈scope.names,x.2=.local->scope.names.lookup x.1=some .local)
  (hcl:closureFor scope X.env=pure cl):CompOk X scope cl ls fs js:=by
 obtain ⟨h1,cs,h2,h3,h4⟩:=h.ok;subst h3;exact Bk hk hn hl h2 hcl h4 h1
theorem yu(hc:X.calm=true)(h:FC X scope fs js cl)(hk:scope.kind=.function)(hn:∀y∈scope.names,y.2≠.cell/\(y.2=.free->y.1∈fs))(hl:∀x∈scope.names,x.2=.local->scope.names.lookup x.1=some .local)
  (hcl:closureFor scope X.env=pure cl) (hi:DI X B tg iter wi)
  (hG:∀(C:Addr) (s₀:Shared) (H₀:Hp) (fp:List Addr) (pl:List (Addr×Obj)),DG (aU X (ls++fs) scope cl C s₀ H₀ fp pl) nQ tg g)
  (hT:∀(C:Addr) (s₀:Shared) (H₀:Hp) (fp:List Addr) (pl:List (Addr×Obj)),BN (aU X (ls++fs) scope cl C s₀ H₀ fp pl) nQ ifs tt)
  (hE:∀(C:Addr) (s₀:Shared) (H₀:Hp) (fp:List Addr) (pl:List (Addr×Obj)),DE (aU X (ls++fs) scope cl C s₀ H₀ fp pl) nQ elt te)
  (hs:∀x,foldedSetIterable iter X.env x=pure x):DE X B (.ListComp elt [⟨tg,iter,ifs,0⟩] scope pos) (aV wi ls js g tt te):=
 Bv hc (ua h hk hn hl hcl) hi (fun a b c d e=>⟨hG a b c d e,hT a b c d e,hE a b c d e⟩) hs
theorem xy(hN:X.N.Nodup)(hix:X.N[i]?=some x)(hx:wj X.env.scope x)(hc:X.calm=true)(h:FC X scope fs js cl)(hk:scope.kind=.function)(hn:∀y∈scope.names,y.2≠.cell/\(y.2=.free->y.1∈fs))(hl:∀x∈scope.names,x.2=.local->scope.names.lookup x.1=some .local)
  (hcl:closureFor scope X.env=pure cl) (hi:DI X B tg iter wi)
  (hG:∀(C:Addr) (s₀:Shared) (H₀:Hp) (fp:List Addr) (pl:List (Addr×Obj)),DG (aU X (ls++fs) scope cl C s₀ H₀ fp pl) nQ tg g)
  (hT:∀(C:Addr) (s₀:Shared) (H₀:Hp) (fp:List Addr) (pl:List (Addr×Obj)),BN (aU X (ls++fs) scope cl C s₀ H₀ fp pl) nQ ifs tt)
  (hE:∀(C:Addr) (s₀:Shared) (H₀:Hp) (fp:List Addr) (pl:List (Addr×Obj)),DE (aU X (ls++fs) scope cl C s₀ H₀ fp pl) nQ elt te)
  (h1:X.env.blockKind=.function) (h2:X.env.scope.names.lookup x=some .local) (h3:px.line=pos.line) (h4:(scope.names.any fun (n,k)=>n==x&&(k==.local||k==.cell))=false) (hs:∀x,foldedSetIterable iter X.env x=pure x) (hf:X.fn x=true\/X.env.scope.names.lookup x=some .local):
  DS X B (.Assign [.Name x px] (.ListComp elt [⟨tg,iter,ifs,0⟩] scope pos) spos) (eh i (aV wi ls js g tt te)):=
 A6 hN hix hx hc (ua h hk hn hl hcl) hi (fun a b c d e=>⟨hG a b c d e,hT a b c d e,hE a b c d e⟩) (zQ h1 h2 h3 h4) hs hf
theorem B0{cx:Str}{cp ep np hpos:Pos}{b₀:Stmt}{suite:List Stmt}{ts:au}(h:GF X.K X.mg x st f fd ps)(F:FnOk X.prog X.w X.K X.mg X.base (lU X.prog X.w) k f fd ps (bi X.K n T))
  (hst:X.stack=X.env::X.outer) (hfL:X.env.frame=some X.env.locals) (hr:Room k X.A) (hg:Gl X x)
  (ha:DA X.nox B (e::es) t) (EX:ExcAt X.K C) (hgC:Gl X cx) (hmC:X.mg cx=some (.ref C)) (hsu:∀ea:Addr,tB (X.marked (.ref ea)) B (b₀::suite) ts)
  (hdb:(x==("__debug__":Str))=false) (hdC:(cx==("__debug__":Str))=false) (he:starEach (e::es) X.env=(false,eval e X.env)::starEach es X.env) (hpl:(backTo cp (starEach es X.env)).any (·.1)=false)
  (hsw:swapsWith (.Call (.Name x p) (e::es) [] cp) none ep.line X.env=pure false):
  DS X B (.Try [.Expr (.Call (.Name x p) (e::es) [] cp) ep] [.ExceptHandler (some (.Name cx np)) none (b₀::suite) hpos] [] [] pos) (Es C T n t ts):=qD hst hfL F hr hg h.m h.k h.b ha EX hgC hmC hsu hdb hdC he hpl hsw
end
section
variable {X:Cx}{B:Bd}{x:Str}{id T Ty:String}{p pos apos cpos:Pos}{o e:Expr}{es:List Expr}{to:aZ}{t:dm}{name:Str}
theorem eM{r:qm}(hc:bI X (.builtin id) (liftC X r))(hv:bootBuiltins x=some (.builtin id))(hg:Gl X x)(hm:X.mg x=none)(ha:DA X B (e::es) t)(hn:x≠"__name__")(hdb:(x==("__debug__":Str))=false)
  (he:starEach (e::es) X.env=(false,eval e X.env)::starEach es X.env) (hpl:(backTo pos (starEach es X.env)).any (·.1)=false):DE X B (.Call (.Name x p) (e::es) [] pos) (bQ r t):=wL hc hg hm hv ha hn hdb he hpl
theorem dr{r:qm}(hc:bI X (.type T) (liftC X r))(hv:bootBuiltins x=some (.type T))(hg:Gl X x)(hm:X.mg x=none)(ha:DA X B (e::es) t)(hn:x≠"__name__")(hdb:(x==("__debug__":Str))=false)
  (he:starEach (e::es) X.env=(false,eval e X.env)::starEach es X.env) (hpl:(backTo pos (starEach es X.env)).any (·.1)=false):DE X B (.Call (.Name x p) (e::es) [] pos) (bQ r t):=v_ hc hg hm hv ha hn hdb he hpl
theorem jx(hv:bootBuiltins x=some (.type T))(hg:Gl X x)(hm:X.mg x=none)(hn:x≠"__name__")(hd:(x==("__debug__":Str))=false):DE X B (.Name x pos) (dC (.ty T)):=Hq hg hm hv hn hd
theorem wG{r:vU}(pa:PlainAttrs Ty)(slot:Slot Ty name id)(hty:typeOf (.builtin id)=pure (.type "method_descriptor"))(hm:tY X id (liftM X r))(hT:Ty="list"\/Ty="str"\/Ty="int"\/Ty="dict")(ho:DE X B o to)(ha:DA X B (e::es) t)
  (hbase:attributeBase o name X.env (eval o X.env)=eval o X.env)
  (hfew:((backTo cpos (starEach (e::es) X.env)).all (fun x=>!x.1)&&(backToKw cpos (keywordEach [] X.env)).all (fun x=>x.1.isSome)
   && decide ((e::es).length+([]:List Keyword).length+(if ([]:List Keyword).isEmpty then 0 else 1)<30))=true)
  (hline:(apos.endLine==cpos.line)=true) (hs:starEach (e::es) X.env=(false,eval e X.env)::starEach es X.env) (hplain:(backTo cpos (starEach es X.env)).any (·.1)=false):
  DE X B (.Call (.Attribute o name apos) (e::es) [] cpos) (kC Ty r to t):=GR hT pa slot hty hm ho ha hbase hfew hline hs hplain
theorem tR{r:vU}(pa:PlainAttrs Ty)(slot:Slot Ty name id)(hty:typeOf (.builtin id)=pure (.type "method_descriptor"))(hm:tY X id (liftM X r))(hT:Ty="list"\/Ty="str"\/Ty="int"\/Ty="dict")(ho:DE X B o to)
  (hbase:attributeBase o name X.env (eval o X.env)=eval o X.env) (hline:(apos.endLine==cpos.line)=true):DE X B (.Call (.Attribute o name apos) [] [] cpos) (kC Ty r to af):=ED hT pa slot hty hm ho hbase hline
theorem FM{r:vU}(slot:Slot "tuple" name id)(hty:typeOf (.builtin id)=pure (.type "method_descriptor"))(hm:tY X id (liftM X r))(ho:DE X B o to)(ha:DA X B (e::es) t)
  (hbase:attributeBase o name X.env (eval o X.env)=eval o X.env)
  (hfew:((backTo cpos (starEach (e::es) X.env)).all (fun x=>!x.1)&&(backToKw cpos (keywordEach [] X.env)).all (fun x=>x.1.isSome)
   && decide ((e::es).length+([]:List Keyword).length+(if ([]:List Keyword).isEmpty then 0 else 1)<30))=true)
  (hline:(apos.endLine==cpos.line)=true) (hs:starEach (e::es) X.env=(false,eval e X.env)::starEach es X.env) (hplain:(backTo cpos (starEach es X.env)).any (·.1)=false):
  DE X B (.Call (.Attribute o name apos) (e::es) [] cpos) (dTM r to t):=Gp slot hty hm ho ha hbase hfew hline hs hplain
theorem Ac{i:Nat}{te:aZ}{op:Operator}{r:dA}{pos':Pos}(ho:xG X op (liftR2 X r))(hN:X.N.Nodup)(hi:X.N[i]?=some x)(hx:wj X.env.scope x)(he:DE X B e te)(hf:X.fn x=true\/X.env.scope.names.lookup x=some .local):
  DS X B (.AugAssign (.Name x pos') op e pos) (yE i te r):=Fs hN hi hx he ho hf
end
structure Nf(K:W.Frag)(x:Str)(st:Stmt)(f:Addr)(fd:FuncData):Prop where
 a:W.nsIn K mainGlobals x=some (some (.ref f))
 F:Fun K x x st f fd
structure Af(K:W.Frag)(x y:Str)(st:Stmt)(f:Addr)(fd:FuncData):Prop where
 a:W.nsIn K mainGlobals x=some (some (.ref f))
 F:Fun K y y st f fd
structure Mf(K:W.Frag)(C:Addr)(x q:Str)(st:Stmt)(f:Addr)(fd:FuncData):Prop where
 a:W.findIn K (.ref C) x=some (some (.ref f))
 i:W.isFn K (.ref f)=true
 F:Fun K x q st f fd
theorem us1{α:Type}{P:List α->Prop}(h:∀a0,P [a0]):∀us:List α,us.length=1->P us
 |[a0],_=>h a0
theorem us2{α:Type}{P:List α->Prop}(h:∀a0 a1,P [a0,a1]):∀us:List α,us.length=2->P us
 |[a0,a1],_=>h a0 a1
theorem us3{α:Type}{P:List α->Prop}(h:∀a0 a1 a2,P [a0,a1,a2]):∀us:List α,us.length=3->P us
 |[a0,a1,a2],_=>h a0 a1 a2
theorem us4{α:Type}{P:List α->Prop}(h:∀a0 a1 a2 a3,P [a0,a1,a2,a3]):∀us:List α,us.length=4->P us
 |[a0,a1,a2,a3],_=>h a0 a1 a2 a3
theorem us6{α:Type}{P:List α->Prop}(h:∀a0 a1 a2 a3 a4 a5,P [a0,a1,a2,a3,a4,a5]):∀us:List α,us.length=6->P us
 |[a0,a1,a2,a3,a4,a5],_=>h a0 a1 a2 a3 a4 a5
abbrev Bnd(ps:List Str)(x qual:Str)(st:Stmt):Prop:=∀(kV doc pm:Value) (an:Option Addr) (cdv ct:Value) (us:List Value),us.length=ps.length->bindArgs (W.fnOf x qual (bG st) (bf st) (aA st) .none kV doc pm an cdv ct) ⟨us,[]⟩=pure (ps.zip us)
section
variable {P:Program}{w:World}{K:W.Frag}{mg:Str->Option Value}{base h:Heap}{k n:Nat}{f C:Addr}{fd:FuncData}{N ps:List Str}{S:Sd}{T:DX->au}{x qual:Str}{st:Stmt}
theorem gf(X:K.In h)(G:h.Ns mainGlobals mg)(l:Nf K x st f fd)(hb:Bnd ps x x st:=by intro _ _ _ _ _ _;first|exact us1 fun _=>rfl|exact us2 fun _ _=>rfl|exact us3 fun _ _ _=>rfl|exact us4 fun _ _ _ _=>rfl|exact us5 fun _ _ _ _ _=>rfl|exact us6 fun _ _ _ _ _ _=>rfl|exact us7 fun _ _ _ _ _ _ _=>rfl|exact us8 fun _ _ _ _ _ _ _ _=>rfl):GF K mg x st f fd ps:=⟨l.F,l.F.binds hb,l.F.kp,W.mg_of X G l.a⟩
theorem ga{y:Str}(X:K.In h)(G:h.Ns mainGlobals mg)(l:Af K x y st f fd)(hb:Bnd ps y y st:=by intro _ _ _ _ _ _;first|exact us1 fun _=>rfl|exact us2 fun _ _=>rfl|exact us3 fun _ _ _=>rfl|exact us4 fun _ _ _ _=>rfl|exact us5 fun _ _ _ _ _=>rfl|exact us6 fun _ _ _ _ _ _=>rfl|exact us7 fun _ _ _ _ _ _ _=>rfl|exact us8 fun _ _ _ _ _ _ _ _=>rfl):GA K mg x y st f fd ps:=⟨l.F,l.F.binds hb,l.F.kp,W.mg_of X G l.a⟩
theorem gm(l:Mf K C x qual st f fd)(hb:Bnd ps x qual st:=by intro _ _ _ _ _ _;first|exact us1 fun _=>rfl|exact us2 fun _ _=>rfl|exact us3 fun _ _ _=>rfl|exact us4 fun _ _ _ _=>rfl|exact us5 fun _ _ _ _ _=>rfl|exact us6 fun _ _ _ _ _ _=>rfl|exact us7 fun _ _ _ _ _ _ _=>rfl|exact us8 fun _ _ _ _ _ _ _ _=>rfl):GM K C x qual st f fd ps:=⟨l.F,l.F.binds hb,l.a,l.i,l.F.kp⟩
theorem gi(mk:W.makesIn K C=true)(kc:W.keepIn K (.ref C)=true)(l:Mf K C "__init__" qual st f fd)(hb:Bnd ps "__init__" qual st:=by intro _ _ _ _ _ _;first|exact us1 fun _=>rfl|exact us2 fun _ _=>rfl|exact us3 fun _ _ _=>rfl|exact us4 fun _ _ _ _=>rfl|exact us5 fun _ _ _ _ _=>rfl|exact us6 fun _ _ _ _ _ _=>rfl|exact us7 fun _ _ _ _ _ _ _=>rfl|exact us8 fun _ _ _ _ _ _ _ _=>rfl):GI K C "__init__" qual st f fd ps:=⟨l.F,l.F.binds hb,mk,l.a,l.i,kc⟩
abbrev cN(P:Program)(w:World)(mg:Str->Option Value)(base:Heap)(_:Fun K x qual st f fd)(_:Binds K fd ps [])(k:Nat)(S:Sd):Prop:=FnOk P w K mg base (lU P w) k f fd ps (bi K ps.length S)
theorem fnS(hS:S=aJ N T)(F:Fun K x qual st f fd)(b:Binds K fd ps [])(sc:FnScope N ps (aA st))
  (hb:FnScope N ps (aA st)->∀(cdv:Value) (A:Around) (outer:List Env) (s:Shared) (H:Hp) (E:XK) (B:Bd) (EE:DX),Room k (A.deeper (PyProof.Rows.envOfC qual (aA st) s.heap.objs.size f cdv))->ph K B EE E->
   tB (cF (lU P w) P w K mg base N qual (aA st) f cdv A outer s H E) B (bf st) (T EE)):cN P w mg base F b (k+1) S:=by
 subst hS;exact fnD F sc (hb sc)
end
end L3
namespace LS
open PySem PySem.W PySem.Calls PyProof.Rows PyProof.V PySem.Spec
section
variable {prog:Program}{w:World}{A:Around}{E:Value->Shared->Prop}{s:Shared}{x:Str}{t:Tok}
end
end LS
namespace L3
open PySem L2 LS
section
variable {X:Cx}{B:Bd}{pos:Pos}
end
end L3
namespace L3
open PySem L2
section
variable {X:Cx}{B:Bd}{s:Shared}
end
end L3
namespace L3
open PySem L2
section
variable {X:Cx}{B:Bd}{x:Str}{pos p:Pos}{e:Expr}{es:List Expr}{t:dm}{a:Addr}{tab:List (Str×D)}
end
section
variable {P:Program}{w:World}{K:W.Frag}{mg:Str->Option Value}{base:Heap}{k:Nat}{f C:Addr}{fd:FuncData}{N ps:List Str}{S:Addr->Sd}{T:Addr->DX->au}{x qual:Str}{st:Stmt}
end
end L3
namespace L3
open PySem L2 LS
section
variable {X:Cx}{B:Bd}{K:W.Frag}{H:Hp}
def FR(M:Mem):D->Bool
 |.ref a=>match M a with
  |some (.dK _)=>true
  |_=>false
 |_=>false
def wS(td ty:aZ):aZ:=fun δ M Q=>td δ M fun x M1=>FR M1 x=true/\ty δ M1 fun y M2=>match x with
 |.ref a=>match M2 a,bW y with
  |some (.dK kvs),some k=>match b_ kvs k with
   |some v=>Q v (M2.upd a (.dK (lD kvs k)))
   |none=>False
  |_,_=>False
 |_=>False
def xC(td ty tx:aZ):aZ:=fun δ M Q=>td δ M fun x M1=>FR M1 x=true/\ty δ M1 fun y M2=>tx δ M2 fun z M3=>match x with
 |.ref a=>match M3 a,bW y with
  |some (.dK kvs),some k=>match b_ kvs k with
   |some v=>Q v (M3.upd a (.dK (lD kvs k)))
   |none=>Q z M3
  |_,_=>False
 |_=>False
theorem xZ{M:Mem}{x:D}{v:V}(rh:RepH K H M)(r:Rp K H x v)(e:FR M x=true):∃a,x=.ref a/\v=.ref a/\IsD H a:=by
 cases x with
 |ref a=>
  cases r;refine ⟨a,rfl,rfl,?_⟩;simp only [FR] at e
  split at e
  ·rename_i q;obtain ⟨ws,h1,_⟩:=rh _ _ q;exact .inl ⟨ws,.inl h1⟩
  ·cases e
 |_=>cases e
theorem A8{o e:Expr}{to te:aZ}{apos cpos:Pos}(ho:DE X B o to)(he:DE X B e te)(m:M1 X o "pop" apos e cpos):DE X B (.Call (.Attribute o "pop" apos) [e] [] cpos) (wS to te):=by
 refine aI (xi ho he m) ?_
 rintro σ H Q ⟨δ,M,QQ,s,h,u⟩
 refine ⟨δ,M,_,s,h,fun x M1 h1 v1 H1 rh1 i1 r1=>?_⟩;obtain ⟨a,rfl,rfl,hd⟩:=xZ rh1 r1 h1.1;refine ⟨a,rfl,hd,δ,M1,_,s.go rh1 i1,h1.2,fun y M2 h2 v2 H2 rh2 i2 r2=>?_⟩;dsimp only at h2
 split at h2
 ·rename_i kvs k hM ek
  obtain ⟨ws,g1,g2⟩:=rh2 _ _ hM;have ey:=eE r2 ek;have im:Imm H2 (upd H2 a (.dK (ff ws k))):=Imm.upd (by rw [g1];trivial)
  rcases g2.val k with ⟨q,_⟩|⟨d,w,q,qw,rw'⟩
  ·rw [q] at h2;exact h2.elim
  ·rw [q] at h2
   exact ⟨ws,k,w,g1,ey,qw,u _ _ h2 _ _ (rh2.put (by rw [g1];trivial) ⟨_,upd_same,(g2.drop k).mono im⟩) ((i1.trans i2).trans (Frm.put (.inr ⟨_,hM⟩))) (rw'.mono im)⟩
 ·exact h2.elim
theorem B3{o e f:Expr}{to te tf:aZ}{apos cpos:Pos}(ho:DE X B o to)(he:DE X B e te)(hf:DE X B f tf)(m:M2 X o "pop" apos e f cpos):DE X B (.Call (.Attribute o "pop" apos) [e,f] [] cpos) (xC to te tf):=by
 refine aI (zj ho he hf m) ?_
 rintro σ H Q ⟨δ,M,QQ,s,h,u⟩
 refine ⟨δ,M,_,s,h,fun x M1 h1 v1 H1 rh1 i1 r1=>?_⟩;obtain ⟨a,rfl,rfl,hd⟩:=xZ rh1 r1 h1.1;refine ⟨a,rfl,hd,δ,M1,_,s.go rh1 i1,h1.2,fun y M2 h2 v2 H2 rh2 i2 r2=>?_⟩;refine ⟨δ,M2,_,(s.go rh1 i1).go rh2 i2,h2,fun z M3 h3 v3 H3 rh3 i3 r3=>?_⟩;dsimp only at h3;have r2':=r2.mf rh2 i3
 split at h3
 ·rename_i kvs k hM ek
  obtain ⟨ws,g1,g2⟩:=rh3 _ _ hM;have ey:=eE r2' ek;have im:Imm H3 (upd H3 a (.dK (ff ws k))):=Imm.upd (by rw [g1];trivial)
  rcases g2.val k with ⟨q,qn⟩|⟨d,w,q,qw,rw'⟩
  ·rw [q] at h3
   exact ⟨ws,k,g1,ey,fun v ev=>(by rw [qn] at ev;cases ev),fun _=>u _ _ h3 _ _ rh3 ((i1.trans i2).trans i3) r3⟩
  ·rw [q] at h3
   refine ⟨ws,k,g1,ey,fun v ev=>?_,fun ev=>by rw [qw] at ev;cases ev⟩
   rw [qw] at ev;cases ev;exact u _ _ h3 _ _ (rh3.put (by rw [g1];trivial) ⟨_,upd_same,(g2.drop k).mono im⟩) (((i1.trans i2).trans i3).trans (Frm.put (.inr ⟨_,hM⟩))) (rw'.mono im)
 ·exact h3.elim
def ko:qm:=fun ds M Q=>match ds with
 |[.ref a]=>match M a with
  |some (.dK kvs)=>∀p,M p=none->Q (.ref p) (M.upd p (.dK kvs))
  |_=>False
 |_=>False
theorem oM:bI X (.type "dict") (liftC X ko):=by
 intro pins s σ H xs us Q I r h;obtain ⟨ds,M,QQ,rh,rp,h,up⟩:=h;unfold ko at h
 split at h
 ·rename_i a
  obtain ⟨v,rfl,rv⟩:=fw (ds:=[]) rp;cases rv
  split at h
  ·rename_i kvs e
   obtain ⟨u,rfl,ru⟩:=r.one;cases ru;obtain ⟨ws,h1,h2⟩:=rh _ _ e;refine wQ I (.inl h1) fun p s' hp I'=>⟨.ref p,_,I',rfl,?_⟩;exact up _ _ (h p (rh.fresh hp)) _ _ (rh.put (by rw [hp];trivial) ⟨_,upd_same,h2.mono (Imm.new hp)⟩) (Frm.put (.inl hp)) rfl
  ·exact h.elim
 ·exact h.elim
end
end L3
namespace L2
open PySem PySem.W PySem.Calls PyProof.Rows PyProof.V PySem.Spec
def isO:Option aw->Value->Bool
 |some k,v=>jB k v
 |none,.none=>true
 |none,_=>false
theorem cC{v:Value}(h:isO none v=true):v=.none:=by cases v<;>first|rfl|cases h
section
variable {prog:Program}{w:World}{A:Around}{E:Value->Shared->Prop}{s:Shared}
theorem oW{Q:Int->Shared->Prop}(h:Q 4238894112 { s with toks:=s.toks+1 }):wpAny (model prog w) A (pyHash .none) Q E s:=by
 have hT:s.TypeIs .none "NoneType":=rfl;unfold pyHash;refine wpAny_bind ?_;rw [cRoomFor,if_neg (by decide)];refine wpAny_pure ?_
 refine wpAny_bind (wpAny_specialOf hT PySem.F.slot_NoneType_hash.lookup ?_);show wpAny _ _ (if (some (Value.builtin "NoneType.__hash__")==some Value.none)=true then _ else _) Q E s
 rw [if_neg (by rw [beq_builtin_none];exact Bool.false_ne_true)]
 refine wpAny_bind (wpAny_specialOf hT PySem.F.slot_NoneType_hash.lookup ?_);show wpAny _ _ (callSpecialIfBoundUnlessNone? .none "__hash__" _ >>= _) Q E s
 refine wpAny_bind (wpAny_callSpecialIfBoundUnlessNone?_slot hT PySem.F.slot_NoneType_hash
  (wpAny_call_entry PySem.F.slot_NoneType_hash hT PySem.F.entry_NoneType_hash
   (show wpAny _ _ (do ret (<- mkInt 4238894112)) _ _ s from wpAny_ret_mkInt ?_) (PySem.F.args_NoneType_hash_1 _)))
 exact wpAny_pure h
theorem o7{Q:Bool->Shared->Prop}(h:Q true s):wpAny (model prog w) A (eqBool .none .none) Q E s:=by
 unfold eqBool;refine wpAny_holding ?_;rw [if_pos (by rfl)]
 exact wpAny_bind (wpAny_rule (wpAny_pure h))
end
def xM(prog:Program)(w:World):PySem.KeyKind prog w (Option aw) where
 is:=isO
 hash:=fun k=>match k with
  |some k=>F_ w k
  |none=>4238894112
 inj:=fun v a b ha hb=>by
  cases a with
  |some a=>
   cases b with
   |some b=>rw [(aH prog w).inj v a b ha hb]
   |none=>
    cases cC hb;rcases aP ha with ⟨i,t,_,e⟩|⟨x,t,_,e⟩<;>exact nomatch e
  |none=>
   cases cC ha;cases b with
   |some b=>rcases aP hb with ⟨i,t,_,e⟩|⟨x,t,_,e⟩<;>exact nomatch e
   |none=>rfl
 byValue:=fun k v h=>by
  cases k with
  |some k=>exact (aH prog w).byValue k v h
  |none=>cases cC h;rfl
 pyHash:=fun {A E s k v Q} hv h=>by
  cases k with
  |some k=>exact (aH prog w).pyHash hv h
  |none=>cases cC hv;exact oW h
 eqBool:=fun {A E s a b u v Q} hu hv h=>by
  cases a with
  |some a=>
   cases b with
   |some b=>
    refine (aH prog w).eqBool hu hv ?_;have:decide (some a=some b)=decide (a=b):=decide_eq_decide.mpr ⟨fun e=>by injection e,fun e=>by rw [e]⟩
    rw [this] at h;exact h
   |none=>
    cases cC hv;have e:decide (some a=none)=false:=decide_eq_false (fun z=>nomatch z);rw [e] at h;rcases aP hu with ⟨i,t,rfl,rfl⟩|⟨x,t,rfl,rfl⟩
    ·exact SeqAt.EqAt.int_none i t _ _ _ _ h
    ·exact SeqAt.EqAt.str_none x t _ _ _ _ h
  |none=>
   cases cC hu;cases b with
   |some b=>
    have e:decide (none=some b)=false:=decide_eq_false (fun z=>nomatch z);rw [e] at h;rcases aP hv with ⟨i,t,rfl,rfl⟩|⟨x,t,rfl,rfl⟩
    ·exact SeqAt.EqAt.none_int i t _ _ _ _ h
    ·exact SeqAt.EqAt.none_str x t _ _ _ _ h
   |none=>
    cases cC hv;exact o7 h
 «strs»:=fun k x t v h=>by
  cases k with
  |some k=>exact (aH prog w).strs k x t v h
  |none=>cases h
section
variable {X:Cx}{pins:List (Addr×Obj)}{σ:St}{H:Hp}{s:Shared}{a:Addr}{kvs:List (aw×V)}{A:Around}{E:Value->Shared->Prop}
theorem xc{prog:Program}{w:World}{h:Heap}{f:aw->Option Value}(m:h.MapOf (aH prog w) a f):h.MapOf (xM prog w) a (fun k=>match k with|some k=>f k|none=>none):=by
 obtain ⟨o,es,ep,h1,h2,h3,h4,h5⟩:=m;refine ⟨o,es,ep,h1,h2,h3,fun e he=>?_,fun k=>?_⟩
 ·obtain ⟨k,q1,q2⟩:=h4 e he
  exact ⟨some k,q1,q2⟩
 ·cases k with
  |some k=>exact h5 k
  |none=>
   have:∀e∈es,isO none e.key=false:=fun e he=>by
    obtain ⟨k,q1,_⟩:=h4 e he;rcases aP q1 with ⟨i,t,_,q⟩|⟨x,t,_,q⟩<;>rw [q]<;>rfl
   have e:es.find? (fun e=>(xM prog w).is none e.key)=none:=by
    rw [Array.find?_eq_none];intro x hx;exact Bool.eq_false_iff.mp (this x hx)
   unfold findBy;rw [e];rfl
theorem HW{Q:Value->Shared->Prop}(I:Inv X pins σ H s)(e:Rd H a (.dK kvs))(h:∀s',Inv X pins σ H s'->Q (.bool false) s'):wpAny (model X.prog X.w) A (compareOp .In .none (.ref a)) Q E s:=by
 obtain ⟨z,hd,vs,rel,dd⟩:=hZ I.hok e;refine wpAny_in_of (knd:=xM X.prog X.w) (k:=none) rfl hd (xc dd.mapOf) ?_;exact h _ (I.tok _)
end
end L2
namespace L3
open PySem L2 LS
section
variable {X:Cx}{B:Bd}
def uv(M:Mem)(x y:D):Option Bool:=match x,y with
 |.non,.ref a=>match M a with
  |some (.dK _)=>some false
  |_=>none
 |_,_=>we M x y
def wR:dA:=fun x y M Q=>match uv M x y with
 |some k=>Q (.bl k) M
 |none=>False
theorem Bg(hu:X.A.units+64<cLine):bU X (compareOp .In) (liftR2 X wR):=by
 intro pins s σ H x y v u Q I rx ry h;obtain ⟨d1,d2,M,QQ,rh,r1,r2,h,up⟩:=h;unfold wR at h
 split at h
 ·rename_i k e
  unfold uv at e
  split at e
  ·rename_i a
   cases r1;cases r2;cases rx;cases ry
   split at e
   ·rename_i kvs hM
    cases e;obtain ⟨ws,h1,h2⟩:=rh _ _ hM;exact HW I (.inl h1) fun s' I'=>⟨.bl false,H,I',rfl,up _ M h _ H rh Frm.refl rfl⟩
   ·cases e
  ·refine ya hu pins s σ H x y v u Q I rx ry ⟨d1,d2,M,QQ,rh,r1,r2,?_,up⟩
   unfold Br;rw [e];exact h
 ·exact h.elim
end
end L3
namespace L2
open PySem PySem.Spec PyProof.Rows
theorem kG:Slot "reversed" "__init__" "object.__init__":=
 .of (owner:="object") (n:="__init__") (by rw [typeLookup_type,builtinLookup_eq_fast];kernel_rfl) (by decide +kernel) (by decide +kernel) (by decide +kernel)
  (by first|exact .inl (by decide +kernel)|exact .inr (by decide +kernel)) (by rw [isSubtype_type];kernel_rfl)
theorem e_:Slot "reversed" "__iter__" "reversed.__iter__":=
 .of (owner:="reversed") (n:="__iter__") (by rw [typeLookup_type,builtinLookup_eq_fast];kernel_rfl) (by decide +kernel) (by decide +kernel) (by decide +kernel)
  (by first|exact .inl (by decide +kernel)|exact .inr (by decide +kernel)) (by rw [isSubtype_type];kernel_rfl)
theorem slot_rev_next:Slot "reversed" "__next__" "reversed.__next__":=
 .of (owner:="reversed") (n:="__next__") (by rw [typeLookup_type,builtinLookup_eq_fast];kernel_rfl) (by decide +kernel) (by decide +kernel) (by decide +kernel)
  (by first|exact .inl (by decide +kernel)|exact .inr (by decide +kernel)) (by rw [isSubtype_type];kernel_rfl)
theorem lO:Manifest.owners.lookup (String.ofList ['d','e','s','r','e','v','e','r'].reverse)=some Manifest.sig_reversed:=by kernel_rfl
theorem dH:entryFor table "reversed.__next__"=some Builtin.«reversed.__next__»:=PySem.entryFor_of_tree (by kernel_rfl)
theorem kP:entryFor table "reversed.__new__"=some Builtin.«reversed.__new__»:=entryFor_of_tree (by kernel_rfl)
theorem jA:entryFor table "reversed.__iter__"=some Builtin.«dict_keyiterator.__iter__»:=
 entryFor_alias (id':="dict_keyiterator.__iter__") (by kernel_rfl) (by first|rfl|decide +kernel|(unfold String.splitOn;simp +decide [String.splitOnAux])) (by decide +kernel) (by kernel_rfl)
theorem kL(a:Value):argsOk "reversed.__iter__" ⟨[a],[]⟩:=by
 unfold argsOk;rw [signature?_of (id:="reversed.__iter__") (n:=['_','_','r','e','t','i','_','_']) (o:=['d','e','s','r','e','v','e','r']) (by kernel_rfl) lO];kernel_rfl
theorem fh(a:Value):argsOk "reversed.__next__" ⟨[a],[]⟩:=by
 unfold argsOk;rw [signature?_of (id:="reversed.__next__") (n:=['_','_','t','x','e','n','_','_']) (o:=['d','e','s','r','e','v','e','r']) (by kernel_rfl) lO];kernel_rfl
theorem uJ:mroOf (.type "reversed")=pure [.type "reversed",.type "object"]:=by rw [mroOf_type];kernel_rfl
theorem k7:typeLookup (.type "reversed") "__new__"=pure (some (.builtin "reversed.__new__")):=by rw [typeLookup_type,builtinLookup_eq_fast];kernel_rfl
theorem qB:TypeCalled "reversed" "reversed.__new__" "object.__init__":=
 ⟨by decide +kernel,by decide +kernel,⟨_,_,uJ⟩,madeBy_type uJ k7 (by decide +kernel),by decide +kernel,by rw [isSubtype_type];kernel_rfl,kG⟩
theorem nL(a:Value):checkTypeCall "reversed" ⟨[a],[]⟩=pure ():=by kernel_rfl
theorem oR(a:Value):checkBuiltinCall "reversed.__new__" ⟨[.type "reversed",a],[]⟩=pure ():=by kernel_rfl
theorem eT(a b:Value):argsOk "object.__init__" ⟨[a,b],[]⟩:=by
 unfold argsOk;rw [signature?_of (id:="object.__init__") (n:=['_','_','t','i','n','i','_','_']) (o:=['t','c','e','j','b','o']) (by kernel_rfl) F.owner_object];kernel_rfl
theorem Bo:isSubtype (.type "reversed") (.type "reversed")=pure true:=by rw [isSubtype_type];kernel_rfl
theorem Db:typeLookup (.type "tuple") "__reversed__"=pure none:=by rw [typeLookup_type,builtinLookup_eq_fast];kernel_rfl
theorem xm:isSubtype (.type "tuple") (.type "dict")=pure false:=by rw [isSubtype_type];kernel_rfl
end L2
namespace L2
open PySem PySem.Spec PyProof.Rows
abbrev lP(h:Heap)(z l:Addr)(j:Int):Prop:=h.get? z=some { cls:=.type "reversed",dict:=none,data:=.fields #[.ref l,.int j 0],slots:=#[] }
section
variable {prog:Program}{w:World}{A:Around}{E:Value->Shared->Prop}{s:Shared}
theorem wo{z l:Addr}{items:Array Value}{k:Nat}{x:Value}{Q:Option Value->Shared->Prop}(hz:lP s.heap z l k)(hl:IsTup s.heap l items)(hx:items[k]?=some x)(hk:(k:Int)<2 ^ 63)
  (hQ:∀h',lP h' z l ((k:Int)-1)->Heap.SameBut z s.heap h'->Q (some x) { s with heap:=h',toks:=s.toks+1 }):
  wpAny (model prog w) A (pyNext (.ref z)) Q E s:=by
 have hT:s.TypeIs (.ref z) "reversed":=⟨_,hz,rfl⟩;unfold pyNext
 refine wpAny_bind (wpAny_attempt (wpAny_callSpecial?_slot (name:=Str.ofString "__next__") hT slot_rev_next
  (wpAny_call_entry slot_rev_next hT dH ?_ (fh _))))
 show wpAny _ _ (field (.ref z) 0 >>= _) _ _ s;refine wpAny_bind (wpAny_field hz rfl (x:=.ref l) rfl ?_);show wpAny _ _ (field (.ref z) 1 >>= _) _ _ s;refine wpAny_bind (wpAny_field hz rfl (x:=.int k 0) rfl ?_);show wpAny _ _ (if (k:Int)<0 then _ else _) _ _ _
 rw [if_neg (by lia)]
 refine wpAny_bind (wpAny_specialOf (T:="tuple") hl.typeIs slot_tuple_getitem.lookup ?_);show wpAny _ _ (if false=true then _ else _) _ _ _
 rw [if_neg (by simp)]
 refine wpAny_bind (wpAny_mkInt ?_);have hlt:k<items.size:=by
  rcases Nat.lt_or_ge k items.size with h|h
  ·exact h
  ·rw [Array.getElem?_eq_none h] at hx;cases hx
 refine wpAny_bind (wpAny_attempt (getItem_tuple (s:={ s with toks:=s.toks+1 }) hl (k:=k) (j:=k) (x:=x) (by lia) hk ?_ hx ?_))
 ·have e:¬((k:Int)<0):=by lia
  simp [seqIndex?,hlt,if_neg e]
 show wpAny _ _ (field (.ref z) 1 >>= _) _ _ _;refine wpAny_bind (wpAny_field (s:={ s with toks:=s.toks+1 }) hz rfl (x:=.int k 0) rfl ?_);refine wpAny_bind (wpAny_setField_rec (s:={ s with toks:=s.toks+1 }) hz (by simp) fun h₁ hz₁ hs₁=>?_)
 exact wpAny_pure ⟨_,rfl,wpAny_pure (hQ _ hz₁ hs₁)⟩
theorem zK{z l:Addr}{j:Int}{Q:Option Value->Shared->Prop}(hh:A.handled=none)(hz:lP s.heap z l j)(hj:j<0)
  (hQ:∀h',Heap.ExtBut z s.heap h'->Q none { s with heap:=h' }):wpAny (model prog w) A (pyNext (.ref z)) Q E s:=by
 have hT:s.TypeIs (.ref z) "reversed":=⟨_,hz,rfl⟩;unfold pyNext
 refine wpAny_bind (wpAny_attempt (wpAny_callSpecial?_slot (name:=Str.ofString "__next__") hT slot_rev_next
  (wpAny_call_entry slot_rev_next hT dH ?_ (fh _))))
 show wpAny _ _ (field (.ref z) 0 >>= _) _ _ s;refine wpAny_bind (wpAny_field hz rfl (x:=.ref l) rfl ?_);show wpAny _ _ (field (.ref z) 1 >>= _) _ _ s;refine wpAny_bind (wpAny_field hz rfl (x:=.int j 0) rfl ?_);show wpAny _ _ (if j<0 then _ else _) _ _ _
 rw [if_pos hj];refine wpAny_bind (wpAny_rule ?_);show wpAny _ _ ((setField (.ref z) 1 (rawInt (-1)) >>= fun _=>setField (.ref z) 0 .none) >>= _) _ _ _;refine wpAny_bind (wpAny_bind (wpAny_setField_rec hz (by simp) fun h₁ hz₁ hs₁=>?_))
 refine wpAny_setField_rec (s:={ s with heap:=h₁ }) hz₁ (by simp) fun h₂ hz₂ hs₂=>?_
 refine wpAny_bind ?_;show wpAny _ _ (newExc (.type "StopIteration") [] >>= _) _ _ _;refine wpAny_bind ?_;simp only [newExc,newTuple];refine wpAny_bind (wpAny_newObj_type ?_ (by size_fits))
 refine wpAny_bind (m:=firstArgMember _ _) (wpAny_of_eq (a:=Value.none) (by first|rfl|(simp only [firstArgMember];rfl)) ?_)
 refine wpAny_newObj_type ?_ (by size_fits)
 simp only [raiseNew];refine wpAny_bind (wpAny_handled ?_);rw [show A.in1.handled=none from hh];refine wpAny_bind (wpAny_pure (wpAny_throw ?_));refine wpAny_bind (wpAny_isInstance (T:="StopIteration") (b:=true) ⟨_,Heap.get?_push_size _ rfl,rfl⟩ isSubtype_stop ?_);refine wpAny_pure (hQ _ ?_);have q:Heap.ExtBut z s.heap h₂:=fun c o hc e=>hs₂.extBut _ _ hc (hs₁.extBut _ _ hc e);exact (q.push _).push _
theorem oy{z l:Addr}{j:Int}{Q:Value->Shared->Prop}(hz:lP s.heap z l j)(h:Q (.ref z) s):wpAny (model prog w) A (pyIter (.ref z)) Q E s:=by
 have hT:s.TypeIs (.ref z) "reversed":=⟨_,hz,rfl⟩;refine wpAny_pyIter_slot hT e_ (wpAny_call_entry e_ hT jA ?_ (kL _));show wpAny _ _ (ret (.ref z)) _ _ s;exact wpAny_pure ⟨_,rfl,"reversed",_,hT,slot_rev_next.lookup,h⟩
theorem ze{l:Addr}{items:Array Value}{Q:Value->Shared->Prop}(hl:IsTup s.heap l items)(hfit:(items.size:Int)<2 ^ 63)
  (h:∀tk h',h'.objs.size=s.heap.objs.size+1->lP h' s.heap.objs.size l ((items.size:Int)-1)->(∀c o,s.heap.get? c=some o->h'.get? c=some o)->Q (.ref s.heap.objs.size) { s with heap:=h',toks:=tk }):
  wpAny (model prog w) A (call (.type "reversed") [.ref l]) Q E s:=by
 refine callType_new (S:=fun _ R s=>IsTup s.heap l items/\∀tk,R (.ok (.ret (.ref s.heap.objs.size))) { s with heap:=s.heap.push { cls:=.type "reversed",data:=.fields #[.ref l,.int ((items.size:Int)-1) 0] },toks:=tk })
  qB (by decide) (nL _) (oR _) (fun obj=>eT obj _) kP ?_ ⟨hl,fun tk=>?_⟩
 ·refine .of_wp fun prog w A R s h=>?_
  obtain ⟨hl,h⟩:=h;obtain ⟨hp,g,d,tk,os⟩:=s;have hsub:=Bo;have hT:=hl.typeIs;unfold Builtin.«reversed.__new__»;refine wpAny_bind ?_;unfold Builtin.SmallTypes.newClass;refine wpAny_bind (wpAny_of_eq (a:=true) rfl ?_);rw [if_neg (by simp)]
  refine wpAny_bind (wpAny_of_eq hsub ?_);rw [if_neg (by simp)]
  refine wpAny_pure ?_;refine wpAny_bind (m:=Builtin.SmallTypes.refuseKeywords _ _ _) (wpAny_of_eq (a:=()) rfl ?_);refine wpAny_bind (m:=checkCount _ _ _ _) (wpAny_of_eq (a:=()) rfl ?_);refine wpAny_bind (m:=specialOf _ _) (wpAny_specialOf hT Db ?_);refine wpAny_bind ?_;show wpAny _ _ (isInstance (.ref l) (.type "dict") >>= _) _ _ _;refine wpAny_bind (wpAny_isInstance hT xm ?_);rw [if_neg (by simp)]
  refine wpAny_bind (wpAny_specialOf (T:="tuple") hT slot_tuple_getitem.lookup ?_);show wpAny _ _ (if (["tuple.__getitem__","str.__getitem__","bytes.__getitem__","bytearray.__getitem__","memoryview.__getitem__","numpy.ndarray.__getitem__","sqlite3.Row.__getitem__"].contains "tuple.__getitem__")=true then _ else _) _ _ _
  rw [if_pos (by decide)]
  refine wpAny_pure ?_;show wpAny _ _ (call (.builtin "len") [.ref l] >>= _) _ _ _;refine wpAny_bind (len_tuple hl hfit ?_);refine wpAny_bind (wpAny_of_eq (a:=some (items.size:Int)) rfl ?_);show wpAny _ _ (newObj (.type "reversed") (.fields #[.ref l,.int ((items.size:Int)-1) 0]) >>= _) _ _ _;refine wpAny_bind (wpAny_newObj_type ?_ (by size_fits))
  exact wpAny_pure ⟨_,rfl,h _⟩
 ·exact ⟨⟨_,Heap.get?_push_size _ rfl,rfl⟩,h tk _ (Heap.size_push ..) (Heap.get?_push_size _ rfl) fun c o e=>Heap.get?_push_of_some _ e⟩
end
end L2
namespace L2
open PySem PySem.Spec PyProof.Rows
def Itv(K:W.Frag)(a:Addr)(n:Nat):It:=
 ⟨fun i H=>i<n/\∃xs x,fE K H a xs/\xs[n-1-i]?=some x,fun i H x H'=>H'=H/\∀xs,fE K H a xs->xs[n-1-i]?=some x,fun i _=>n<=i⟩
theorem yZ{P:Program}{w:World}{K:W.Frag}{tg:Expr}(a it:Addr)(n:Nat)(hn:n<2 ^ 63):Turn P w K tg (Itv K a n) [it] it (fun i h=>lP h it a ((n:Int)-1-i)) where
 mem:=by simp
 obj:=fun i h st b hb=>by
  have e:b=it:=by simpa using hb
  subst e;exact ⟨_,st,fun v z=>by cases z⟩
 keep:=fun i h h' st k=>k it (by simp) _ st
 item:=by
  intro X hP hw hK hc i pins s σ H E I hf st hg;subst hP hw hK;obtain ⟨hi,xs,x,hq,hx⟩:=hg;obtain ⟨its,rv,p,hz⟩:=I.tuple hq;obtain ⟨u,hu,ru⟩:=rv.get hx;obtain ⟨f0,f1,f2,f3,f4,f5⟩:=hf it (by simp)
  have e1:(n:Int)-1-i=((n-1-i:Nat):Int):=by lia
  refine wo (k:=n-1-i) (by rw [<- e1];exact st) (show IsTup s.heap a its.toArray from p) (x:=u) (by simpa using hu) (by lia) fun h' st' sb=>?_
  have I1:Inv X pins σ H { s with heap:=h',toks:=s.toks+1 }:=I.turned (fun b o hb e=>(sb.2 b hb).trans e) f0 f1 f3 f4 f5;have e2:(((n-1-i:Nat):Int))-1=(n:Int)-1-((i+1:Nat):Int):=by lia
  rw [e2] at st';exact ⟨u,rfl,sS (s:={ s with heap:=h',toks:=s.toks+1 }) st' rfl rfl (by decide) ⟨x,H,I1,ru,⟨rfl,fun ys hy=>by rw [I.tuple_inj hy hq];exact hx⟩,st',fun b hb=>(hf b hb).1⟩⟩
 done:=by
  intro X hP hw hK hc i pins s σ H E I hf st hg;subst hP hw hK;obtain ⟨f0,f1,f2,f3,f4,f5⟩:=hf it (by simp)
  have hg':n<=i:=hg;exact zK (I.ok.hd hc) st (by lia) fun h' eb=>⟨rfl,I.turned (t':=s.toks) (fun b o hb e=>eb b o hb e) f0 f1 f3 f4 f5⟩
 self:=fun _ _ _ _ _ st h=>oy st h
section
variable {X:Cx}{tg:Expr}
def iRev(K:W.Frag)(t:TA):TI:=fun σ H R=>t σ H fun vs H1=>∃l xs,vs=[.ref l]/\fE K H1 l xs/\R (Itv K l xs.length) H1
theorem Dz:bootBuiltins "reversed"=some (.type "reversed"):=by decide +kernel
theorem E8{a:Expr}{ta:TA}{p pos:Pos}(hg:Gl X "reversed")(hm:X.mg "reversed"=none)(ha:PA X [a] ta)(hs:starEach [a] X.env=[(false,eval a X.env)]:=by rfl):
  PI X tg (.Call (.Name "reversed" p) [a] [] pos) (iRev X.K ta):=by
 intro pins s σ H R I h;refine Call_ (cA I hg hm Dz (PyProof.Rows.callWith_type1 (a_ (ha pos pins s σ H _ I h) fun us s1 ⟨vs,H1,I1,r1,q1⟩=>?_) hs rfl));obtain ⟨l,xs,e,q1,q⟩:=q1;subst e;obtain ⟨u1,rfl,ru1⟩:=r1.one;cases ru1;obtain ⟨its,rv,pt,hz⟩:=I1.tuple q1;have hlen:=rv.length;have hz':xs.length<2 ^ 63:=Nat.lt_of_le_of_lt hz (by decide)
 refine ze (show IsTup s1.heap l its.toArray from pt) (by simp;lia) fun tk h' hsz hr hk=>?_
 have I2:Inv X pins σ H1 { s1 with heap:=h',toks:=tk }:=I1.kept (t':=tk) hk;refine oy (s:={ s1 with heap:=h',toks:=tk }) hr ?_;refine ⟨s1.heap.objs.size,[s1.heap.objs.size],_,_,H1,rfl,I2,yZ l _ xs.length (by lia),?_,fun b hb=>?_,q⟩
 ·have e:((its.toArray.size:Nat):Int)-1=(xs.length:Int)-1-((0:Nat):Int):=by simp;lia
  rw [e] at hr;exact hr
 ·have e:b=s1.heap.objs.size:=by simpa using hb
  subst e;exact I1.fpOk (Nat.le_refl _) (I1.hok.fresh (Nat.le_refl _))
end
end L2
namespace L3
open PySem L2 LS
section
variable {X:Cx}{B:Bd}{tg:Expr}{K:W.Frag}{H:Hp}{M:Mem}
def Fz(t:dm):vc:=fun δ M R=>t δ M fun ds M1=>match ds with
 |[.tup xs]=>R ⟨xs.reverse,[]⟩ M1
 |_=>False
theorem DB{a:Expr}{ta:dm}{p pos:Pos}(hg:Gl X "reversed")(hm:X.mg "reversed"=none)(ha:DA X B [a] ta)(hs:starEach [a] X.env=[(false,eval a X.env)]:=by rfl):
  DI X B tg (.Call (.Name "reversed" p) [a] [] pos) (Fz ta):=by
 refine fT (E8 hg hm ha hs) ?_
 rintro σ H R ⟨δ,M,RR,s,h,up⟩
 refine ⟨δ,M,_,s,h,fun ds M1 h1 vs H1 rh1 i1 r1=>?_⟩
 split at h1
 ·rename_i xs
  obtain ⟨v,rfl,q,ws,rfl,hq,rr⟩:=fw (ds:=[]) r1;have hl:=rr.length;refine ⟨q,ws,rfl,hq.sq,up _ M1 h1 _ H1 rh1 i1 fun i H2 M2 i2 rh2 _=>⟨fun d hd=>?_,fun hle=>?_⟩⟩
  ·have hi:i<xs.length:=by
    rcases Nat.lt_or_ge i xs.length with h|h
    ·exact h
    ·rw [List.getElem?_eq_none (by rw [List.length_reverse];exact h)] at hd;cases hd
   rw [List.getElem?_reverse hi] at hd;obtain ⟨w,hw,rw'⟩:=(rr.mono i2).get hd;rw [hl] at hw;refine ⟨⟨by rw [<- hl];exact hi,ws,w,(hq.mono i2).sq,hw⟩,?_⟩
   rintro x H3 ⟨rfl,hx⟩
   have:=hx ws (hq.mono i2).sq;rw [hw] at this;cases this;exact ⟨Frm.refl,rh2,rw'⟩
  ·show ws.length<=i
   rw [List.length_reverse] at hle;lia
 ·exact h1.elim
end
end L3
namespace L3
open PySem L2
section
variable {X:Cx}{B:Bd}{C:Addr}{f:Str}{o value:Expr}{ta tv:aZ}{pos tpos:Pos}
def nz(C:Addr)(ta tv:aZ)(f:Str):au:=fun D δ M=>ta δ M fun x M1=>match x with
 |.ref a=>match M1 a with
  |some (.ins C' fs)=>C'=C/\fs.length<1000/\match fs.lookup f with
   |some (.int i)=>tv δ M1 fun y M2=>match y with
    |.int j=>M2 a=some (.ins C fs)/\D.nx δ (M2.upd a (.ins C (bj f (.int (i-j)) fs)))
    |_=>False
   |_=>False
  |_=>False
 |_=>False
theorem vS(c:Cls X.K C)(n:NoAttr X.K C f)(ha:DE X B o ta)(hv:DE X B value tv):DS X B (.AugAssign (.Attribute o f tpos) .Sub value pos) (nz C ta tv f):=by
 refine bt (lq ha hv Dv) ?_
 rintro D σ H ⟨δ,M,DD,s,h,up⟩
 refine ⟨δ,M,_,s,h,fun x M1 h1 v1 H1 rh1 i1 r1=>?_⟩
 split at h1
 ·rename_i a
  cases r1
  split at h1
  ·rename_i C' fs hM
   obtain ⟨rfl,hl,h1⟩:=h1
   split at h1
   ·rename_i i hf
    obtain ⟨dx,ws,e1,e2⟩:=rh1 _ _ hM;obtain ⟨z,_⟩|⟨d,w,hd,hw,rw1⟩:=e2.lookup f
    ·rw [hf] at z;cases z
    rw [hf] at hd;cases hd;cases rw1;refine ⟨a,C',dx,ws,.int i,rfl,e1,c,n,hw,δ,M1,_,s.go rh1 i1,h1,fun y M2 h2 v2 H2 rh2 i2 r2=>?_⟩
    split at h2
    ·rename_i j
     cases r2;obtain ⟨hM2,h2⟩:=h2;obtain ⟨dx2,ws2,e3,e4⟩:=rh2 _ _ hM2;have i3:Frm M2 H2 (M2.upd a (.ins C' (bj f (.int (i-j)) fs))) (upd H2 a (.ins C' dx2 (L2.cj f (.int (i-j)) ws2))):=Frm.put (.inr ⟨_,hM2⟩);refine ⟨i,j,rfl,rfl,dx2,ws2,e3,by rw [<- e4.length];exact hl,up.nx _ _ h2 σ _ ((i1.trans i2).trans i3) (s.go (rh2.put (by rw [e3];trivial) ⟨dx2,_,upd_same,?_⟩) ((i1.trans i2).trans i3))⟩
     exact (gn (show Rp X.K H2 (.int (i-j)) (.int (i-j)) from rfl) e4).mono (i3.imm rh2)
    ·exact h2.elim
   ·exact h1.elim
  ·exact h1.elim
 ·exact h1.elim
end
end L3
namespace L3
open PySem L2
section
variable {X:Cx}{B:Bd}
def jc:vU:=fun x ds M Q=>match x,ds with
 |.int i,[]=>Q (.int ((Builtin.Int.intBits i:Nat):Int)) M
 |_,_=>False
theorem p_:tY X "int.bit_length" (liftM X jc):=by
 intro pins s σ H x vs v us Q I rx rv h;obtain ⟨d,ds,M,QQ,rh,r,rs,h,up⟩:=h;unfold jc at h
 split at h
 ·rename_i i
  cases r;cases rs;obtain ⟨t,rfl⟩:=rx;cases rv;exact PyProof.Rows.call_int_bit_length ⟨.int _,H,I.tok _,⟨_,rfl⟩,up _ M h _ H rh Frm.refl rfl⟩
 ·exact h.elim
end
end L3
namespace L2
open PySem PySem.Spec PyProof.Rows
theorem xH{x:Str}{c:Addr}:∀(names:List (Str×NameKind)) (h:Heap) (acc:List (Str×Addr)),(cellsFrom h.objs.size names acc).lookup x=some c->
  acc.lookup x=some c\/(h.objs.size<=c/\(pushCells h names).IsCell c none/\(x,NameKind.cell)∈names)
 |[],_,_,e=>.inl e
 |(n,k)::r,h,acc,e=>by
  unfold cellsFrom at e;unfold pushCells
  by_cases hk:(k==.cell)=true
  ·rw [if_pos hk] at e ⊢
   have hs:(h.push { cls:=.type "cell",data:=.cell none }).objs.size=h.objs.size+1:=Heap.size_push ..;rw [<- hs] at e;rcases xH r _ _ e with z|⟨z1,z2,z3⟩
   ·rw [List.lookup_cons] at z
    cases hx:x==n with
    |true=>
     rw [hx] at z;cases z;rw [beq_iff_eq.mp hx];exact .inr ⟨Nat.le_refl _,⟨_,pushCells_keeps _ _ _ _ (Heap.get?_push_size _ rfl),rfl⟩,by rw [beq_iff_eq.mp hk];exact List.mem_cons_self⟩
    |false=>rw [hx] at z;exact .inl z
   ·exact .inr ⟨by lia,z2,List.mem_cons_of_mem _ z3⟩
  ·rw [if_neg hk] at e ⊢
   rcases xH r _ _ e with z|⟨z1,z2,z3⟩
   ·exact .inl z
   ·exact .inr ⟨z1,z2,List.mem_cons_of_mem _ z3⟩
theorem pV:∀(names:List (Str×NameKind)) (n:Nat) (acc:List (Str×Addr)),(∀x y c,acc.lookup x=some c->acc.lookup y=some c->x=y)->(∀x c,acc.lookup x=some c->c<n)->
  ∀x y c,(cellsFrom n names acc).lookup x=some c->(cellsFrom n names acc).lookup y=some c->x=y
 |[],_,_,h,_=>h
 |(z,k)::r,n,acc,h,hl=>by
  unfold cellsFrom
  split
  ·refine pV r _ _ (fun x y c e1 e2=>?_) fun x c e=>?_
   ·rw [List.lookup_cons] at e1 e2
    cases hx:x==z<;>cases hy:y==z<;>rw [hx] at e1<;>rw [hy] at e2
    ·exact h x y c e1 e2
    ·cases e2;exact absurd (hl _ _ e1) (Nat.lt_irrefl _)
    ·cases e1;exact absurd (hl _ _ e2) (Nat.lt_irrefl _)
    ·rw [beq_iff_eq.mp hx,beq_iff_eq.mp hy]
   ·rw [List.lookup_cons] at e
    cases hx:x==z<;>rw [hx] at e
    ·exact Nat.lt_succ_of_lt (hl _ _ e)
    ·cases e;exact Nat.lt_succ_self _
  ·exact pV r _ _ h hl
theorem pj{M:Model}{A:Around}{E:Value->Shared->Prop}{s:Shared}{scope:Scope}{g:Addr}{cl:List (Str×Addr)}{qual:Str}{env:Env}{Q:Env->Shared->Prop}
  (h:Q (newEnv scope s.heap.objs.size g (cellsFrom (s.heap.objs.size+1) scope.names cl) qual none .none (some env) builtinsNs) { s with heap:=pushCells (s.heap.push { cls:=.type "dict",data:=.dict #[] }) scope.names }):
  wpAny M A (newFunctionEnv scope g cl [] qual none .none (some env)) Q E s:=by
 simp only [newFunctionEnv,Option.isSome_some,if_true];refine wpAny_bind (wpAny_alloc ?_);refine wpAny_bind (wpAny_layCells _ (fun name kind cells=>by cases hkc:kind==NameKind.cell<;>simp [hkc]) _ _ _ _ ?_)
 rw [show ({ s with heap:=s.heap.push { cls:=.type "dict",data:=.dict #[] } }:Shared).heap.objs.size=s.heap.objs.size+1 from Heap.size_push ..];exact wpAny_bind (by rw [List.forIn_nil];exact wpAny_pure (wpAny_pure h))
abbrev b5(X:Cx)(N:List Str)(scope:Scope)(cl:List (Str×Addr))(C:Addr)(s₀:Shared)(H₀:Hp)(fp:List Addr)(pl:List (Addr×Obj)):Cx:=
 { aU X N scope (cellsFrom (C+1) scope.names cl) C s₀ H₀ fp pl with fn:=fun x=>scope.names.lookup x==some .cell }
structure CompOkC(X:Cx)(scope:Scope)(cl:List (Str×Addr))(ls fs:List Str)(js:List Nat):Prop where
 kind:scope.kind=.function
 locs:∀x∈scope.names,x.2=.local->scope.names.lookup x.1=some .local
 clos:closureFor scope X.env=pure cl
 cells:∀x c,cl.lookup x=some c->X.env.cells.lookup x=some c
 has:∀x,((relabel scope X.env).names.lookup x=some .cell\/(relabel scope X.env).names.lookup x=some .free)->scope.names.lookup x=some .cell\/∃c,cl.lookup x=some c
 frees:Frees X scope fs js
 own:∀x∈fs,(x,NameKind.cell)∉scope.names
 once:∀x∈scope.names,x.2=.cell->∀c,cl.lookup x.1=some c->False
theorem vx{X:Cx}{pins:List (Addr×Obj)}{σ:St}{H:Hp}{s:Shared}{scope:Scope}{cl:List (Str×Addr)}{ls fs:List Str}{js:List Nat}{fp:List Addr}{t':Nat}
  (I:Inv X pins σ H s) (co:CompOkC X scope cl ls fs js) (hfp:∀b∈fp,dE X pins H b/\b<s.heap.objs.size):
  Inv (b5 X (ls++fs) scope cl s.heap.objs.size s H fp pins) [] (bp ls js σ) H { s with heap:=pushCells (s.heap.push { cls:=.type "dict",data:=.dict #[] }) scope.names,toks:=t' }:=by
 have hk:∀b o,s.heap.get? b=some o->(pushCells (s.heap.push { cls:=.type "dict",data:=.dict #[] }) scope.names).get? b=some o:=fun b o e=>pushCells_keeps _ _ _ _ (Heap.get?_push_of_some _ e);have lk:∀b o,s.heap.get? b=some o->b≠s.heap.objs.size:=fun b o e=>Nat.ne_of_lt (Heap.lt_size e);have hin:∀{x:Str} {c:Addr},(cellsFrom (s.heap.objs.size+1) scope.names cl).lookup x=some c->cl.lookup x=some c\/(s.heap.objs.size+1<=c/\(pushCells (s.heap.push { cls:=.type "dict",data:=.dict #[] }) scope.names).IsCell c none/\(x,NameKind.cell)∈scope.names):=fun {x c} e=>by
  have hs:(s.heap.push { cls:=.type "dict",data:=.dict #[] }).objs.size=s.heap.objs.size+1:=Heap.size_push ..;rw [<- hs] at e ⊢;exact xH _ _ _ e
 have hlt:∀{x:Str} {c:Addr},cl.lookup x=some c->c<s.heap.objs.size:=fun {x c} e=>by
  obtain ⟨v,z⟩:=I.cell x c (co.cells x c e);exact z.lt
 have hcs:(b5 X (ls++fs) scope cl s.heap.objs.size s H fp pins).env.cells=cellsFrom (s.heap.objs.size+1) scope.names cl:=rfl;refine ⟨⟨I.ok.mod,co.kind,I.ok.glob,I.ok.blt,Nat.le_refl _,fun x y c h1 h2=>?_,fun x hx=>?_,fun x c h e=>?_,I.ok.hd,I.ok.frames,.inl rfl,fun b hb=>⟨Nat.ne_of_lt (hfp b hb).2,fun x c e=>?_⟩,
   fun b o e=>I.bs b o e,Nat.le_trans I.ok.bsz I.sz,fun b o e hb=>?_,fun b hb hf=>?_,I.stack,fun b hb=>I.stkFree b hb⟩,
  rfl,I.bare,Un.kept hk,⟨fun _=>none,(Heap.Ns.new s.heap (.type "dict")).keeps (pushCells_keeps _ _),fun i x v h1 h2 h3=>?_⟩,fun x c e=>?_,I.hok.fresh (Nat.le_refl _),fun x c e=>?_,fun p hp=>?_,I.hok.kept hk,?_⟩
 ·refine pV scope.names _ cl (fun x y c e1 e2=>I.ok.inj x y c (co.cells x c e1) (co.cells y c e2)) (fun x c e=>Nat.lt_succ_of_lt (hlt e)) x y c h1 h2
 ·rcases co.has x hx with z|⟨c,z⟩
  ·exact Option.isSome_iff_exists.mp (W.cellsFrom_some _ _ _ (.inl z))
  ·exact Option.isSome_iff_exists.mp (W.cellsFrom_some _ _ _ (.inr (by rw [z];rfl)))
 ·rcases hin e with z|⟨z,_,_⟩
  ·exact (co.once _ (PySem.mem_of_lookup (beq_iff_eq.mp h)) rfl c z).elim
  ·exact Nat.le_of_succ_le z
 ·rcases hin e with z|⟨z,_,_⟩
  ·exact (hfp b hb).1.2.2.2.2.1 x c (co.cells x c z)
  ·exact Nat.ne_of_gt (Nat.lt_of_lt_of_le (hfp b hb).2 (Nat.le_of_succ_le z))
 ·obtain ⟨f0,f1,f2,f3,_⟩:=(hfp b hb).1
  rcases f3 with z|z
  ·exact I.ok.noex b o e z
  ·exact absurd (Nat.lt_of_lt_of_le (Heap.lt_size (I.ok.bs b o e).1) z) (Nat.lt_irrefl _)
 ·obtain ⟨f0,f1,f2,f3,_⟩:=(hfp b hb).1
  rcases List.mem_cons.mp (I.stkSub b hf) with z|z
  ·exact f1 z
  ·exact f2 z
 ·have hi:¬i<ls.length:=fun hi=>by
   have h2':(bp ls js σ)[i]?=some (some v):=h2;unfold bp at h2';rw [List.getElem?_append_left (by simpa using hi),List.getElem?_map,List.getElem?_eq_getElem hi] at h2'
   cases h2'
  have hN:fs[i-ls.length]?=some x:=by
   have h1':(ls++fs)[i]?=some x:=h1
   rwa [List.getElem?_append_right (by lia)] at h1'
  obtain ⟨j,hj,hx,hc,hl⟩:=co.frees.get hN;have hσ:σ[j]?=some (some v):=by
   have h2':(bp ls js σ)[i]?=some (some v):=h2;unfold bp at h2';rw [List.getElem?_append_right (by simpa using hi),List.length_map,List.getElem?_map,hj] at h2'
   have q:(σ[j]?).join=some v:=by simpa using h2'
   cases e:σ[j]? with
   |none=>rw [e] at q;cases q
   |some o=>rw [e] at q;have q':o=some v:=q;rw [q']
  obtain ⟨mX,_,hlX⟩:=I.loc;have vis:CQ X.env.scope x:=by
   rcases hc with z|z
   ·exact .inr (.inl z)
   ·exact .inr (.inr z)
  obtain ⟨u,ru,lo⟩:=hlX j x v hx hσ vis;refine ⟨u,ru,.inr ⟨hl,?_⟩⟩;have hxf:x∈fs:=List.mem_of_getElem? hN;have hsome:∃c,(cellsFrom (s.heap.objs.size+1) scope.names cl).lookup x=some c:=by
   rcases co.has x hl with z|⟨c,z⟩
   ·exact absurd (PySem.mem_of_lookup z) (co.own x hxf)
   ·exact Option.isSome_iff_exists.mp (W.cellsFrom_some _ _ _ (.inr (by rw [z];rfl)))
  obtain ⟨c,ec⟩:=hsome;refine ⟨c,ec,?_⟩;have ecl:cl.lookup x=some c:=by
   rcases hin ec with z|⟨_,_,z⟩
   ·exact z
   ·exact absurd z (co.own x hxf)
  rcases lo with ⟨kl,_⟩|⟨_,c',e',z⟩
  ·rcases hc with q|q<;>(rw [q] at kl;cases kl)
  ·rw [co.cells x c ecl] at e'
   cases e';obtain ⟨o,ho,hd⟩:=z;exact ⟨o,hk _ _ ho,hd⟩
 ·rcases hin e with z|⟨_,z,_⟩
  ·obtain ⟨v,o,ho,hd⟩:=I.cell x c (co.cells x c z)
   exact ⟨v,o,hk _ _ ho,hd⟩
  ·exact ⟨_,z⟩
 ·rcases hin e with z|⟨z,_,_⟩
  ·exact I.freeC x c (co.cells x c z)
  ·exact I.hok.fresh (Nat.le_of_succ_le z)
 ·have hp':p∈X.pn++pins:=by
   have q:p∈(X.pn++pins)++[]:=hp;simpa using q
  obtain ⟨e,n,ne,nf,d⟩:=I.pin p hp';refine ⟨hk _ _ e,n,lk _ _ e,fun hb=>?_,d⟩;rcases List.mem_cons.mp (I.stkSub p.1 hb) with z|z
  ·exact ne z
  ·exact nf z
 ·show (bp ls js σ).length=(ls++fs).length
  unfold bp;rw [List.length_append,List.length_map,List.length_map,List.length_append,co.frees.length]
end L2
namespace L2
open PySem PySem.Spec PyProof.Rows
section
variable {X:Cx}{tg iter elt:Expr}{ifs:List Expr}{scope:Scope}{cl:List (Str×Addr)}{pos:Pos}{ls fs:List Str}{js:List Nat}{wi:TI}{g:TG}{tt:TT}{te:TE}
theorem vW{pins:List (Addr×Obj)}{σ:St}{s2:Shared}{it:Addr}{fp:List Addr}{tn:Nat->Heap->Prop}{J:It}{H1:Hp}{R:Value->Addr->Result->Shared->Prop}{Q:VK}{E:Value->Shared->Prop}(hc:X.calm=true)(co:CompOkC X scope cl ls fs js)
  (hY:∀(C:Addr) (s₀:Shared) (H₀:Hp) (fp:List Addr) (pl:List (Addr×Obj)),PG (b5 X (ls++fs) scope cl C s₀ H₀ fp pl) tg g/\AC (b5 X (ls++fs) scope cl C s₀ H₀ fp pl) ifs tt/\PE (b5 X (ls++fs) scope cl C s₀ H₀ fp pl) elt te)
  (I:Inv X pins σ H1 s2) (T:Turn X.prog X.w X.K tg J fp it tn) (st:tn 0 s2.heap) (hf:∀b∈fp,dE X pins H1 b)
  (q:∀p,H1 p=none->∃W:Nat->Nat->St->Hp->Prop,(∃m,W 0 m (bp ls js σ) (upd H1 p (.lst [])))/\∀i m σ' H',W i m σ' H'->
   (J.stop i H'/\Q (.ref p) H')\/(J.go i H'/\∃N:St->Hp->Prop,(∀σ2 H2,N σ2 H2->∃m',m'<m/\W (i+1) m' σ2 H2)/\∀x H2,J.yld i H' x H2->g x σ' H2 fun σ3 H3=>tt σ3 H3 fun c H4=>
    if c=true then te σ3 H4 fun y H5=>∃ys,H5 p=some (.lst ys)/\ys.length<sizeLine/\N σ3 (upd H5 p (.lst (ys++[y]))) else N σ3 H4))
  (hR:∀(p C:Addr) (H':Hp) (s':Shared) (m:Str->Option Value),s'.heap.Ns C m->Inv X pins σ H' s'->H' C=none->C≠X.env.locals->X.s₀.heap.objs.size<=C->(∀x c,X.env.cells.lookup x=some c->c≠C)->(∀pp∈X.pn++pins,pp.1≠C)->Q (.ref p) H'->R (.ref p) C (.ok .next) s'):
  wpAny (model X.prog X.w) X.A (newList []) (fun acc s₃=>wpAny (model X.prog X.w) X.A (newFunctionEnv scope X.env.globals cl [] X.env.qual none .none (some X.env)) (fun cenv s₄=>
   codeAny (model X.prog X.w) X.A (.compStart (.ListComp elt [⟨tg,iter,ifs,0⟩] scope pos) 0 (.ref it) acc { cenv with scope:=relabel scope X.env }) (R acc cenv.locals) s₄) E s₃) E s2:=by
 have hp0:H1 s2.heap.objs.size=none:=I.hok.fresh (Nat.le_refl _);obtain ⟨W,⟨m0,w0⟩,turn⟩:=q s2.heap.objs.size hp0;refine wpAny_newObj_type (pj ?_);dsimp only;have I3:Inv X pins σ (upd H1 s2.heap.objs.size (.lst [])) { s2 with heap:=s2.heap.push { cls:=.type "list",dict:=none,data:=.seq ([]:List Value).toArray } }:=
  I.lnew (its:=[]) (t':=s2.toks) .nil (Nat.zero_le _)
 generalize hs3:({ s2 with heap:=s2.heap.push { cls:=.type "list",dict:=none,data:=.seq ([]:List Value).toArray } }:Shared)=s3 at I3;have hh3:s2.heap.push { cls:=.type "list",dict:=none,data:=.seq ([]:List Value).toArray }=s3.heap:=by rw [<- hs3]
 rw [hh3];have hsz3:s3.heap.objs.size=s2.heap.objs.size+1:=by rw [<- hh3,Heap.size_push]
 have hk3:∀b o,s2.heap.get? b=some o->s3.heap.get? b=some o:=fun b o e=>by rw [<- hh3];exact Heap.get?_push_of_some _ e
 have hlt:∀b∈fp,b<s2.heap.objs.size:=fun b hb=>by
  obtain ⟨o,e,_⟩:=T.obj _ _ st b hb;exact Heap.lt_size e
 have hnp:∀b∈fp,upd H1 s2.heap.objs.size (.lst []) b=none:=fun b hb=>by
  rw [av (Nat.ne_of_lt (hlt b hb))];exact (hf b hb).1
 have hf3:∀b∈fp,dE X pins (upd H1 s2.heap.objs.size (.lst [])) b/\b<s3.heap.objs.size:=fun b hb=>⟨⟨hnp b hb,(hf b hb).2⟩,by rw [hsz3];exact Nat.lt_succ_of_lt (hlt b hb)⟩
 have hk4:∀b o,s3.heap.get? b=some o->(pushCells (s3.heap.push { cls:=.type "dict",data:=.dict #[] }) scope.names).get? b=some o:=fun b o e=>pushCells_keeps _ _ _ _ (Heap.get?_push_of_some _ e);have I4:=vx (t':=s3.toks) I3 co hf3;generalize pushCells (s3.heap.push { cls:=.type "dict",data:=.dict #[] }) scope.names=h₁ at hk4 I4;have st4:tn 0 h₁:=T.keep _ _ _ st fun b hb o e=>hk4 b o (hk3 b o e);obtain ⟨hg,ht,he⟩:=hY s3.heap.objs.size s3 (upd H1 s2.heap.objs.size (.lst [])) fp pins;have stat:∀{H':Hp},(∀b∈fp,H' b=none)->∀b∈fp,dE (b5 X (ls++fs) scope cl s3.heap.objs.size s3 (upd H1 s2.heap.objs.size (.lst [])) fp pins) [] H' b:=fun {H'} hn b hb=>by
  obtain ⟨f0,f1,f2,f3,f4,f5⟩:=hf b hb;refine ⟨hn b hb,Nat.ne_of_lt (hf3 b hb).2,fun z=>?_,.inl hb,fun x c e=>(I4.ok.exf b hb).2 x c e,fun pp hp=>f5 pp ?_⟩
  ·rcases List.mem_cons.mp (I3.stkSub b z) with y|y
   ·exact f1 y
   ·exact f2 y
  ·have q:pp∈(X.pn++pins)++[]:=hp
   simpa using q
 have loop:∀s₄:Shared,s₄={ s3 with heap:=h₁,toks:=s3.toks }->
   codeAny (model X.prog X.w) X.A (.compLoop (.ListComp elt [⟨tg,iter,ifs,0⟩] scope pos) 0 (.ref it) (.ref s2.heap.objs.size) (compEnvC scope (cellsFrom (s3.heap.objs.size+1) scope.names cl) s3.heap.objs.size X.env)) (R (.ref s2.heap.objs.size) s3.heap.objs.size) s₄:=by
  rintro s₄ rfl
  refine fV (fun n s'=>∃i σ' H',Inv (b5 X (ls++fs) scope cl s3.heap.objs.size s3 (upd H1 s2.heap.objs.size (.lst [])) fp pins) [] σ' H' s'/\tn i s'.heap/\(∀b∈fp,H' b=none)/\W i n σ' H') ?_ m0 ⟨0,_,_,I4,st4,hnp,w0⟩
  rintro n s5 ⟨i,σ5,H5,I5,st5,fr5,w5⟩
  rcases turn i n σ5 H5 w5 with ⟨stop,qn⟩|⟨go,N,hN,step⟩
  ·refine a_ (T.done (b5 X (ls++fs) scope cl s3.heap.objs.size s3 (upd H1 s2.heap.objs.size (.lst [])) fp pins) rfl rfl rfl hc i [] s5 σ5 H5 _ I5 (stat fr5) st5 stop) fun r s6 ⟨hr,I6⟩=>?_
   subst hr;obtain ⟨m6,hn6,_⟩:=I6.loc;have IX:Inv X pins σ H5 s6:=I3.call' I6.os I6.base I6.hok I6.bare fun b hb=>⟨(hf b hb).2.2.2.1,(hf b hb).2.1,(hf b hb).2.2.2.2.1,(hf b hb).2.2.2.2.2⟩;refine hR _ _ H5 s6 m6 hn6 IX I6.free (Nat.ne_of_gt I3.lt) I3.sz (fun x c e z=>?_) (fun pp hp z=>?_) qn
   ·obtain ⟨v,zz⟩:=I3.cell x c e
    have zl:=zz.lt;rw [z] at zl;exact Nat.lt_irrefl _ zl
   ·have zl:=Heap.lt_size (I3.pin pp hp).1
    rw [z] at zl;exact Nat.lt_irrefl _ zl
  ·refine a_ (T.item (b5 X (ls++fs) scope cl s3.heap.objs.size s3 (upd H1 s2.heap.objs.size (.lst [])) fp pins) rfl rfl rfl hc i [] s5 σ5 H5 _ I5 (stat fr5) st5 go) fun r s6 ⟨u,hr,h6⟩=>?_
   subst hr;refine a_ h6 fun _ s7 ⟨x,H7,I7,r7,y7,st7,fr7⟩=>?_;have I7':=I7.pinned (stat fr7) (T.obj _ _ st7);refine a_ (hg _ s7 σ5 H7 x u _ I7' r7 (step x H7 y7)) fun _ s8 ⟨σ8,H8,I8,q8⟩=>?_
   have again:∀{σ9:St} {H9:Hp} {s9:Shared},Inv (b5 X (ls++fs) scope cl s3.heap.objs.size s3 (upd H1 s2.heap.objs.size (.lst [])) fp pins) ([]++gP fp s7.heap) σ9 H9 s9->N σ9 H9->
     ∃m,m<n/\∃i σ' H',Inv (b5 X (ls++fs) scope cl s3.heap.objs.size s3 (upd H1 s2.heap.objs.size (.lst [])) fp pins) [] σ' H' s9/\tn i s9.heap/\(∀b∈fp,H' b=none)/\W i m σ' H':=fun {σ9 H9 s9} I9 n9=>by
    obtain ⟨m',hm,w9⟩:=hN σ9 H9 n9;refine ⟨m',hm,i+1,σ9,H9,I9.unpinned,T.keep _ _ _ st7 fun b hb o e=>(I9.pin (b,o) (List.mem_append_right _ (List.mem_append_right _ (bY hb e)))).1,fun b hb=>?_,w9⟩;obtain ⟨o,e,d⟩:=T.obj _ _ st7 b hb;exact (I9.pin (b,o) (List.mem_append_right _ (List.mem_append_right _ (bY hb e)))).2.1
   refine a_ (ht _ s8 σ8 H8 _ I8 q8) fun ok s9 ⟨H9,I9,q9⟩=>?_;cases ok with
   |false=>exact again I9 q9
   |true=>
    refine a_ (he _ s9 σ8 H9 _ I9 q9) fun xv s10 ⟨y,H10,I10,r10,ys,hp,hl,n10⟩=>?_;obtain ⟨z,its,n',r,hl',e⟩:=I10.lstM hp;refine call_meets F.slot_list_append ⟨_,e,rfl⟩ F.entry_list_append (F.args_list_append_2 _ _) (PySem.list_append s2.heap.objs.size its.toArray n' xv (by rw [List.size_toArray];lia)) ⟨e,?_⟩
    refine again (I10.lset (its':=its++[xv]) hp e (by simp) (r.append (.cons r10 .nil)) ?_) n10
    rw [List.length_append,List.length_singleton];lia
 have se:({ s2 with heap:=h₁ }:Shared)={ s3 with heap:=h₁,toks:=s3.toks }:=by rw [<- hs3]
 exact codeAny_compStart_list (loop _ se) (T.self _ 0 _ _ _ st4 (loop _ se))
theorem zi(hc:X.calm=true)(co:CompOkC X scope cl ls fs js)(hi:PI X tg iter wi)
  (hY:∀(C:Addr) (s₀:Shared) (H₀:Hp) (fp:List Addr) (pl:List (Addr×Obj)),PG (b5 X (ls++fs) scope cl C s₀ H₀ fp pl) tg g/\AC (b5 X (ls++fs) scope cl C s₀ H₀ fp pl) ifs tt/\PE (b5 X (ls++fs) scope cl C s₀ H₀ fp pl) elt te)
  (hs:∀x,foldedSetIterable iter X.env x=pure x):PE X (.ListComp elt [⟨tg,iter,ifs,0⟩] scope pos) (sZ wi ls js g tt te):=by
 intro pins s σ H Q I h;rw [eval_ListComp];refine wpAny_comprehension_free (use:=none) rfl hs co.clos co.kind co.locs (a_ (hi pins s σ H _ I h) fun xv s1 h1=>a_ h1 fun itv s2 h2=>?_);obtain ⟨it,fp,tn,J,H2,e,I2,T,st2,f2,q⟩:=h2;subst e;refine vW (R:=fun acc C=>compPost (model X.prog X.w) X.A X.xe none (EP X pins σ Q) acc C) (Q:=Q) hc co hY I2 T st2 f2 q ?_;intro p C H' s' m hn IX hC hL hge hcell hpin hq;exact ⟨m,hn,fun h' sb=>⟨.ref p,H',IX.turned (t':=s'.toks) (fun b o hb e=>sb.extBut b o hb e) hC hL (.inr hge) hcell hpin,rfl,hq⟩⟩
end
end L2
namespace L3
open PySem L2
section
variable {X:Cx}{B:Bd}{scope:Scope}{cl:List (Str×Addr)}{ls fs:List Str}{js:List Nat}{tg iter elt:Expr}{ifs:List Expr}{wi:vc}{g:ii}{tt:dz}{te:aZ}{pos:Pos}
theorem Hf{N:List Str}{C:Addr}{s₀:Shared}{H₀:Hp}{fp:List Addr}{pl:List (Addr×Obj)}(h:N.Nodup):(b5 X N scope cl C s₀ H₀ fp pl).N.Nodup:=h
theorem At(h:FC X scope fs js cl)(hk:scope.kind=.function)(hn:∀y∈scope.names,(y.2=.free->y.1∈fs)/\(y.2=.cell->y.1∉fs/\scope.names.lookup y.1=some .cell))(hl:∀x∈scope.names,x.2=.local->scope.names.lookup x.1=some .local)
  (hcl:closureFor scope X.env=pure cl):CompOkC X scope cl ls fs js:=by
 obtain ⟨h1,cs,h2,h3,h4⟩:=h.ok;subst h3;refine ⟨hk,hl,hcl,fun y d h=>h4 (y,d) (PySem.mem_of_lookup h),fun y h=>?_,h1,fun x hx hc=>((hn _ hc).2 rfl).1 hx,fun x hx hc c e=>((hn _ hx).2 hc).1 (List.of_mem_zip (PySem.mem_of_lookup e)).1⟩;have hy:scope.names.lookup y=some .cell\/y∈fs:=by
  rcases h with h|h
  ·obtain ⟨k',h1,h2|⟨h2,_⟩⟩:=bP h
   ·exact .inl ((hn _ h1).2 h2.symm).2
   ·exact .inr ((hn _ h1).1 h2)
  ·obtain ⟨k',h1,h2|⟨h2,_⟩⟩:=bP h
   ·exact .inr ((hn _ h1).1 h2.symm)
   ·exact .inr ((hn _ h1).1 h2)
 exact hy.imp id (dJ h2)
theorem yX(hq:(scope.names.any fun y=>y.2==NameKind.cell)=true)(hc:X.calm=true)(h:FC X scope fs js cl)(hk:scope.kind=.function)(hn:∀y∈scope.names,(y.2=.free->y.1∈fs)/\(y.2=.cell->y.1∉fs/\scope.names.lookup y.1=some .cell))(hl:∀x∈scope.names,x.2=.local->scope.names.lookup x.1=some .local)
  (hcl:closureFor scope X.env=pure cl) (hi:DI X B tg iter wi)
  (hG:∀(C:Addr) (s₀:Shared) (H₀:Hp) (fp:List Addr) (pl:List (Addr×Obj)),DG (b5 X (ls++fs) scope cl C s₀ H₀ fp pl) nQ tg g)
  (hT:∀(C:Addr) (s₀:Shared) (H₀:Hp) (fp:List Addr) (pl:List (Addr×Obj)),BN (b5 X (ls++fs) scope cl C s₀ H₀ fp pl) nQ ifs tt)
  (hE:∀(C:Addr) (s₀:Shared) (H₀:Hp) (fp:List Addr) (pl:List (Addr×Obj)),DE (b5 X (ls++fs) scope cl C s₀ H₀ fp pl) nQ elt te)
  (hs:∀x,foldedSetIterable iter X.env x=pure x):DE X B (.ListComp elt [⟨tg,iter,ifs,0⟩] scope pos) (aV wi ls js g tt te):=
 aI (zi (g:=liftG0 X.K g) (tt:=liftT0 X.K tt) (te:=liftE0 X.K te) hc (At h hk hn hl hcl) hi (fun C s₀ H₀ fp pl=>⟨qX (hG C s₀ H₀ fp pl),mZ (hT C s₀ H₀ fp pl),qK (hE C s₀ H₀ fp pl)⟩) hs) fun _ _ _ h=>gE h
end
end L3
namespace L3
open PySem L2
section
variable {P:Program}{w:World}{K:W.Frag}{mg:Str->Option Value}{base h:Heap}{k n:Nat}{f C:Addr}{fd:FuncData}{N ps:List Str}{S:Sd}{T:DX->au}{x qual:Str}{st:Stmt}{dv:Int}
theorem fnDV(F:FunV K x qual st f fd)(S:FnScope N ps (aA st))
  (hb:∀(cdv:Value) (A:Around) (outer:List Env) (s:Shared) (H:Hp) (E:XK) (B:Bd) (EE:DX),Room k (A.deeper (PyProof.Rows.envOfC qual (aA st) s.heap.objs.size f cdv))->ph K B EE E->
   tB (cF (lU P w) P w K mg base N qual (aA st) f cdv A outer s H E) B (bf st) (T EE)):
  FnOk P w K mg base (lU P w) (k+1) f fd ps (bi K ps.length (aJ N T)):=by
 obtain ⟨oc,od,kV,doc,pm,an,cdv,ct,osl,_,rfl,lk,hcd⟩:=F.ex;refine CK lk hcd S (fun vs H Q E h=>h.1) fun A outer s H vs Q E hr hsp=>?_;obtain ⟨hl,ds,M,QQ,EE,rh,r,hT,u,ux⟩:=hsp;refine ⟨_,hb cdv A outer s H E (Bd.of M H) (ay EE) hr ux.drp,startN N ds,M,{ nx:=fun _ M'=>drp QQ .non M',rt:=drp QQ },⟨Frm.refl,rh,.startN N r⟩,hT,⟨?_,u.drp,?_,?_⟩⟩
 ·exact fun δ M' q σ H' f s'=>u.drp _ M' q _ H' s'.rh f rfl
 ·exact fun δ M' q=>(show False from q).elim
 ·exact fun δ M' q=>(show False from q).elim
abbrev OkV(P:Program)(w:World)(mg:Str->Option Value)(base:Heap)(_:FunV K x qual st f fd)(_:Binds K fd ps [])(k:Nat)(S:Sd):Prop:=FnOk P w K mg base (lU P w) k f fd ps (bi K ps.length S)
theorem GL(hS:S=aJ N T)(F:FunV K x qual st f fd)(b:Binds K fd ps [])(sc:FnScope N ps (aA st))
  (hb:FnScope N ps (aA st)->∀(cdv:Value) (A:Around) (outer:List Env) (s:Shared) (H:Hp) (E:XK) (B:Bd) (EE:DX),Room k (A.deeper (PyProof.Rows.envOfC qual (aA st) s.heap.objs.size f cdv))->ph K B EE E->
   tB (cF (lU P w) P w K mg base N qual (aA st) f cdv A outer s H E) B (bf st) (T EE)):OkV P w mg base F b (k+1) S:=by
 subst hS;exact fnDV F sc (hb sc)
structure NV(K:W.Frag)(x:Str)(st:Stmt)(f:Addr)(fd:FuncData)(dv:Int):Prop where
 a:W.nsIn K mainGlobals x=some (some (.ref f))
 F:∃(oc:Value) (od:Option Addr) (kV doc pm:Value) (an:Option Addr) (cdv ct:Value) (osl:Array (Option Value)) (T:Addr) (ob:Obj) (m:Nat) (t:Tok),
  fd=W.fnOf x x (bG st) (bf st) (aA st) (.ref T) kV doc pm an cdv ct/\K.lookup f=some ⟨oc,od,.func fd,osl⟩/\W.codeIn K cdv x=true/\K.lookup T=some ob/\ob.data=.seq #[.int dv t] m
 kp:W.keepIn K (.ref f)=true
theorem Ik{oc:Value}{od an od2:Option Addr}{osl osl2:Array (Option Value)}{kV doc pm cdv ct oc2:Value}{T:Addr}{m:Nat}{t:Tok}(a:W.nsIn K mainGlobals x=some (some (.ref f)))
  (l:K.lookup f=some ⟨oc,od,.func (W.fnOf x x (bG st) (bf st) (aA st) (.ref T) kV doc pm an cdv ct),osl⟩) (c:W.codeIn K cdv x=true) (k:W.keepIn K (.ref f)=true)
  (lt:K.lookup T=some ⟨oc2,od2,.seq #[.int dv t] m,osl2⟩):NV K x st f (W.fnOf x x (bG st) (bf st) (aA st) (.ref T) kV doc pm an cdv ct) dv:=
 ⟨a,⟨oc,od,kV,doc,pm,an,cdv,ct,osl,T,_,m,t,rfl,l,c,lt,rfl⟩,k⟩
abbrev BndV(ps:List Str)(x:Str)(st:Stmt)(dv:Int):Prop:=∀(kV doc pm:Value) (an:Option Addr) (cdv ct:Value) (T:Addr) (t:Tok),
 (∀u:Value,∃k,bindArgs (W.fnOf x x (bG st) (bf st) (aA st) (.ref T) kV doc pm an cdv ct) ⟨[u],[]⟩=seqItems? (.ref T) >>= k/\k (some #[.int dv t])=pure (ps.zip [u,.int dv t]))/\
 ∀u v:Value,∃k,bindArgs (W.fnOf x x (bG st) (bf st) (aA st) (.ref T) kV doc pm an cdv ct) ⟨[u,v],[]⟩=seqItems? (.ref T) >>= k/\k (some #[.int dv t])=pure (ps.zip [u,v])
theorem gv(X:K.In h)(G:h.Ns mainGlobals mg)(l:NV K x st f fd dv)(hp:ps.length=2)(hb:BndV ps x st dv):GV K mg x st f fd ps dv:=by
 obtain ⟨a,⟨oc,od,kV,doc,pm,an,cdv,ct,osl,T,ob,m,t,rfl,lf,c,lt,hd⟩,kp⟩:=l;refine ⟨⟨⟨oc,od,kV,doc,pm,an,cdv,ct,osl,T,rfl,lf,c⟩,kp⟩,fun s us KX hl=>?_,⟨t,fun s us KX hl=>?_⟩,kp,W.mg_of X G a⟩
 ·rw [List.append_nil] at hl ⊢
  match us,hl.trans hp with
  |[u,v],_=>
   obtain ⟨k,h1,h2⟩:=(hb kV doc pm an cdv ct T t).2 u v;exact W.binds_K KX rfl lt hd h1 h2
 ·rw [List.length_append,hp] at hl
  match us,(show us.length=1 by simpa using hl) with
  |[u],_=>
   obtain ⟨k,h1,h2⟩:=(hb kV doc pm an cdv ct T t).1 u;exact W.binds_K KX rfl lt hd h1 h2
end
section
variable {X:Cx}{B:Bd}{CX:kF}{k n:Nat}{f:Addr}{fd:FuncData}{ps:List Str}{T:Sd}{EE:DX}{E:XK}{x:Str}{st:Stmt}{p pos:Pos}{e:Expr}{es:List Expr}{t:dm}{dv:Int}
def qY(T:Sd)(EE:DX)(n:Nat)(dv:Int)(t:dm):aZ:=fun δ M Q=>t δ M fun ds M1=>ds.length+1=n/\calls T EE (ds++[.int dv]) M1 Q ⟨⟩
def zM(X:Cx)(B:Bd)(x:Str)(T:Sd)(EE:DX)(n:Nat)(dv:Int):Prop:=∃(st:Stmt) (f:Addr) (fd:FuncData) (ps:List Str) (k:Nat) (CX:kF) (E:XK),GV X.K X.mg x st f fd ps dv/\FnOk X.prog X.w X.K X.mg X.base CX k f fd ps (bi X.K n T)/\Room k X.A/\br CX X E/\ph X.K B EE E
theorem xQ(h:zM X B x T EE n dv)(hg:Gl X x)(ha:DA X B (e::es) t)(hdb:(x==("__debug__":Str))=false)(he:starEach (e::es) X.env=(false,eval e X.env)::starEach es X.env)(hpl:(backTo pos (starEach es X.env)).any (·.1)=false):
  DE X B (.Call (.Name x p) (e::es) [] pos) (qY T EE n dv t):=by
 obtain ⟨_,_,_,_,_,_,_,h,F,hr,hx,ux⟩:=h;obtain ⟨tk,hb⟩:=h.d;refine aI (sO F hr hg h.m h.k hb (dvs:=[.int dv]) (.cons ⟨tk,rfl⟩ .nil) hx ha hdb he hpl) ?_
 rintro σ H Q ⟨δ,M,QQ,s,h,u⟩
 refine ⟨δ,M,_,s,h,fun ds M1 h1 vs H1 rh1 i1 r1=>?_⟩;exact bX h1.2 rh1 (r1.append (.cons rfl .nil)) (by rw [List.length_append,<- r1.length];exact h1.1) (u.go i1) ((s.ux ux).go i1)
end
end L3
namespace L3
open PySem L2 PyProof.Rows
section
variable {X:Cx}{B:Bd}
def zh:dA:=fun x y M Q=>match x with
 |.ref a=>match M a,y with
  |some (.lst xs),.int i=>0<=i/\match xs[i.toNat]? with
   |some d=>Q d M
   |none=>False
  |_,y=>match nh M a y with
   |some (some d)=>Q d M
   |_=>False
 |_=>False
theorem AX(hu:X.A.units+1<cLine):HP X (liftR2 X zh):=by
 intro pins s σ H x y v u Q I rx ry h;obtain ⟨d1,d2,M,QQ,rh,r1,r2,h,up⟩:=h;unfold zh at h
 split at h
 ·rename_i a
  cases r1
  split at h
  ·rename_i xs i hM
   obtain ⟨h0,h⟩:=h
   split at h
   ·rename_i d ed
    cases r2;cases rx;obtain ⟨t,rfl⟩:=ry;obtain ⟨vs,h1,h2⟩:=rh _ _ hM;obtain ⟨its,r,pl,hz⟩:=I.list (SqL.of h1);obtain ⟨z,ez,rz⟩:=h2.get ed;obtain ⟨w,ew,rw'⟩:=r.get ez;have hl:=r.length;have hn:=em;have hlt:i.toNat<vs.length:=by
     rcases Nat.lt_or_ge i.toNat vs.length with q|q
     ·exact q
     ·rw [List.getElem?_eq_none q] at ez;cases ez
    exact wpAny_getItem_list pl.isList h0 (by lia) (by simpa using ew) ⟨z,H,I,rw',up _ M h _ H rh Frm.refl rz⟩
   ·exact h.elim
  ·split at h
   ·rename_i d ed
    cases rx;rcases m9 rh r2 ed with ⟨z,_⟩|⟨d',w,z,g,rw'⟩
    ·cases z
    ·cases z
     exact lH hu I g ry fun w' s3 I3 rw2=>⟨w,H,I3,rw2,up _ M h _ H rh Frm.refl rw'⟩
   ·exact h.elim
 ·exact h.elim
def pv(to ti te:aZ)(r:dA):au:=fun D δ M=>to δ M fun o M1=>ti δ M1 fun i M2=>zh o i M2 fun x M3=>te δ M3 fun y M4=>r x y M4 fun z M5=>qJ o i z M5 fun M6=>D.nx δ M6
theorem rK{o i e:Expr}{to ti te:aZ}{r:dA}{op:Operator}{pos tpos:Pos}(hu:X.A.units+1<cLine)(ho:DE X B o to)(hi:DE X B i ti)(he:DE X B e te)(hp:xG X op (liftR2 X r))
  (ha:∀ov iv new,augStore i ov iv new=(do holding [new,ov,iv] (setItem ov iv new);release [new,ov,iv] [];pure .next)):DS X B (.AugAssign (.Subscript o i tpos) op e pos) (pv to ti te r):=by
 refine bt (zI ho hi (AX hu) he hp (t6 hu) ha) ?_
 rintro D σ H ⟨δ,M,DD,s,h,up⟩
 refine ⟨δ,M,_,s,h,fun d1 M1 h1 v1 H1 rh1 f1 r1=>?_⟩;refine ⟨δ,M1,_,s.go rh1 f1,h1,fun d2 M2 h2 v2 H2 rh2 f2 r2=>?_⟩;refine ⟨d1,d2,M2,_,rh2,r1.mf rh1 f2,r2,h2,fun d3 M3 h3 v3 H3 rh3 f3 r3=>?_⟩;refine ⟨δ,M3,_,s.go rh3 ((f1.trans f2).trans f3),h3,fun d4 M4 h4 v4 H4 rh4 f4 r4=>?_⟩;refine ⟨d3,d4,M4,_,rh4,r3.mf rh3 f4,r4,h4,fun d5 M5 h5 v5 H5 rh5 f5 r5=>?_⟩;refine ⟨d1,d2,d5,M5,_,rh5,r1.mf rh1 (((f2.trans f3).trans f4).trans f5),r2.mf rh2 ((f3.trans f4).trans f5),r5,h5,fun M6 h6 H6 rh6 f6=>?_⟩;have f:=((((f1.trans f2).trans f3).trans f4).trans f5).trans f6;exact up.nx δ M6 h6 σ H6 f (s.go rh6 f)
end
end L3
namespace Tw
open PySem L2 L3
def cL(i:Nat):Stmt:=PySem.Challenge.pw_twinstride_k51_like_things_share_alike.main.body.getD i (.Pass ⟨0,0,0,0⟩)
abbrev G7:Stmt:=cQ (cL 6) 0
abbrev HX:Stmt:=cQ (cL 6) 1
abbrev C3:Stmt:=cQ (cL 6) 2
abbrev Ce:Stmt:=cL 7
abbrev Ck:Stmt:=cL 8
abbrev Cb:Stmt:=cL 9
abbrev Co:Stmt:=cL 10
abbrev Cq:Stmt:=cL 12
abbrev CC:Stmt:=cL 13
abbrev CB:Stmt:=cL 14
abbrev CI:Stmt:=cL 15
abbrev C9:Stmt:=cL 16
abbrev Cs:Stmt:=cL 18
abbrev BR:Stmt:=cL 19
abbrev CM:Stmt:=cL 20
abbrev CH:Stmt:=cL 22
abbrev BP:Stmt:=cL 24
abbrev BY:Stmt:=cL 26
abbrev Cp:Stmt:=cL 27
abbrev BK:Stmt:=cL 28
abbrev HN:Stmt:=cQ (cL 30) 0
abbrev Il:Stmt:=cQ (cL 30) 1
abbrev GP:Stmt:=cQ (cL 31) 0
abbrev GZ:Stmt:=cQ (cL 31) 1
abbrev C6:Stmt:=cL 32
abbrev BZ:Stmt:=cL 33
abbrev BU:Stmt:=cL 34
abbrev C7:Stmt:=cL 35
abbrev G_:Stmt:=cL 36
abbrev C1:Stmt:=cL 38
abbrev C2:Stmt:=cL 39
abbrev Cj:Stmt:=cL 40
abbrev BM:Stmt:=cL 41
abbrev Hn:Stmt:=cQ (cL 43) 0
abbrev BQ:Stmt:=cL 44
abbrev BX:Stmt:=cL 45
abbrev CL:Stmt:=cL 47
abbrev CN:Stmt:=cL 48
abbrev BS:Stmt:=cL 49
abbrev G6:Stmt:=cL 50
abbrev HG:Stmt:=cL 51
abbrev BJ:Stmt:=cL 53
abbrev BI:Stmt:=cL 54
abbrev BL:Stmt:=cL 55
abbrev Ci:Stmt:=cL 56
abbrev gX:Stmt:=cL 57
end Tw
namespace Tw
open PySem L2 L3
set_option genInjectivity false in
structure Ad where
 C_Ends:Addr
 C_Going:Addr
 C_Outcome:Addr
 C_Walk:Addr
 C_Dry:Addr
 C_NoCase:Addr
 C_TooMany:Addr
 (a1 a2 a3 a4 a5 a6 a7 a8 a9 a10 a11 a12 a13 a14 a15 a16 a17 a18 a19 a20 a21 a22 a23 a24 a25 a26 a27 a28 a29 a30 a31 a32 a33 a34 a35 a36 a37 a38 a39 a40 a41 a42 a43 a44 a45 a46:Addr)
 (d1 d2 d3 d4 d5 d6 d7 d8 d9 d10 d11 d12 d13 d14 d15 d16 d17 d18 d19 d20 d21 d22 d23 d24 d25 d26 d27 d28 d29 d30 d31 d32 d33 d34 d35 d36 d37 d38 d39 d40 d41 d42 d43 d44 d45 d46:FuncData)
def yD(ad:Ad)(EE:DX):au:=
 (ah (bM ad.C_Walk (ac 0) (ac 3) "most")
  (bM ad.C_Walk (ac 0) (bJ af) "steps"))
def xq(ad:Ad)(EE:DX):au:=
 (ah (bM ad.C_Walk (ac 0) (ai aB (ac 2) (dC (.int 1))) "pieces")
  (yD ad EE))
def yw(ad:Ad)(EE:DX):au:=
 (ah (bM ad.C_Walk (ac 0) (fH (aa (ai aB (ac 1) (dC (.int 1))) (aa (ai aB (ac 2) (dC (.int 0))) af))) "numbers")
  (xq ad EE))
def AS(ad:Ad)(EE:DX):au:=
 (ah (bM ad.C_Walk (ac 0) (ac 1) "plan")
  (yw ad EE))
def zL(ad:Ad):Sd:=aJ ["self","plan","stand","most"] (AS ad)
theorem u_q5{ad:Ad}{n:Nat}{x0 x1 x2 x3:D}{M:Mem}{Q:DK}{E:DX}:zL ad [x0,x1,x2,x3] M Q E=AS ad (ay E) { nx:=fun _ M'=>drp Q .non M',rt:=drp Q } [some x0,some x1,some x2,some x3] M:=rfl
def y_(ad:Ad)(EE:DX):au:=
 (ba (kC "list" cb (aO ad.C_Walk (ac 0) "steps") (aa (aR (aa (ac 1) (aa (ac 2) af))) af)))
def zJ(ad:Ad)(EE:DX):au:=
 (ah (aS (am (ai oGe (bQ cV (aa (aO ad.C_Walk (ac 0) "steps") af)) (aO ad.C_Walk (ac 0) "most"))) (gA ad.C_Dry EE) aE)
  (y_ ad EE))
def ra(ad:Ad):Sd:=aJ ["self","place","number"] (zJ ad)
theorem u_q3{ad:Ad}{n:Nat}{x0 x1 x2:D}{M:Mem}{Q:DK}{E:DX}:ra ad [x0,x1,x2] M Q E=zJ ad (ay E) { nx:=fun _ M'=>drp Q .non M',rt:=drp Q } [some x0,some x1,some x2] M:=rfl
def rY(ad:Ad)(EE:DX):au:=
 (ah (ba (cg ad.C_Walk "note_step" (ra ad) EE 3 (ac 0) (aa (ac 1) (aa (ac 3) af))))
  (ax (ac 3)))
def sh(ad:Ad)(EE:DX):au:=
 (ah (ar (vn (am (ai cu (ai aB (aO ad.C_Walk (ac 0) "numbers") (ac 2)) (dC (.int 0)))) (dC (.int 0)) (dC (.int 1))) (ag 3))
  (rY ad EE))
def lg(ad:Ad):Sd:=aJ ["self","place","name","seen"] (sh ad)
theorem HZ{ad:Ad}{n:Nat}{x0 x1 x2:D}{M:Mem}{Q:DK}{E:DX}:lg ad [x0,x1,x2] M Q E=sh ad (ay E) { nx:=fun _ M'=>drp Q .non M',rt:=drp Q } [some x0,some x1,some x2,none] M:=rfl
def uO(ad:Ad)(EE:DX):au:=
 (ax (ai dY (ap (ai bE (ac 1) (ac 2))) (ac 3)))
def uI(ad:Ad)(EE:DX):au:=
 (ax (vn (am (ai oLt (ac 1) (ac 2))) (dC (.int 1)) (dC (.int 0))))
def uB(ad:Ad)(EE:DX):au:=
 (ax (vn (am (ai cu (ac 1) (ac 2))) (dC (.int 1)) (dC (.int 0))))
def r_(ad:Ad)(EE:DX):au:=
 (ah (aS (am (ai cu (ac 0) (dC (.str "less")))) (uI ad EE) aE)
  (uB ad EE))
def um(ad:Ad)(EE:DX):au:=
 (ah (aS (am (ai cu (ac 0) (dC (.str "by")))) (ax (ai dY (ai cZ (ac 1) (ac 2)) (ac 3))) aE)
  (r_ ad EE))
def uA(ad:Ad)(EE:DX):au:=
 (ah (aS (am (ai cu (ac 0) (dC (.str "sum")))) (uO ad EE) aE)
  (um ad EE))
def uj(ad:Ad):Sd:=aJ ["word","y","z","wheel"] (uA ad)
theorem Gm{ad:Ad}{n:Nat}{x0 x1 x2 x3:D}{M:Mem}{Q:DK}{E:DX}:uj ad [x0,x1,x2,x3] M Q E=uA ad (ay E) { nx:=fun _ M'=>drp Q .non M',rt:=drp Q } [some x0,some x1,some x2,some x3] M:=rfl
def uC(ad:Ad)(EE:DX):au:=
 (ax (ai dY (ai aB (ac 1) (ai aB (ac 2) (dC (.int 2)))) (ai aB (ac 0) (dC (.int 2)))))
def so(ad:Ad)(EE:DX):au:=
 (ah (aS (am (ai cu (ai aB (ac 2) (dC (.int 0))) (dC (.str "pick")))) (uC ad EE) aE)
  (ax (dC .non)))
def fQ(ad:Ad)(EE:DX):au:=
 (ah (aS (am (ai cu (ai aB (ac 2) (dC (.int 0))) (dC (.str "take")))) (ax (ai aB (ac 2) (dC (.int 2)))) aE)
  (so ad EE))
def jw(ad:Ad):Sd:=aJ ["plan","numbers","row"] (fQ ad)
theorem kU{ad:Ad}{n:Nat}{x0 x1 x2:D}{M:Mem}{Q:DK}{E:DX}:jw ad [x0,x1,x2] M Q E=fQ ad (ay E) { nx:=fun _ M'=>drp Q .non M',rt:=drp Q } [some x0,some x1,some x2] M:=rfl
def tw(ad:Ad)(EE:DX):au:=
 (ax (ak (uj ad) EE 4 (aa (ai aB (ac 3) (dC (.int 0))) (aa (ai aB (ac 1) (ai aB (ac 3) (dC (.int 2)))) (aa (ai aB (ac 1) (ai aB (ac 3) (dC (.int 3)))) (aa (ai aB (ac 0) (dC (.int 0))) af))))))
def tG(ad:Ad)(EE:DX):au:=
 (ah (aS (am (ai fg (ac 4) (dC .non))) (ax (ai aB (ac 2) (ac 4))) aE)
  (tw ad EE))
def rW(ad:Ad)(EE:DX):au:=
 (ah (ar (ap (ak (jw ad) EE 3 (aa (ac 0) (aa (ac 1) (aa (ac 3) af))))) (ag 4))
  (tG ad EE))
def dG(ad:Ad)(EE:DX):au:=
 (ah (aS (am (ai cu (ai aB (ac 3) (dC (.int 0))) (dC (.str "put")))) (ax (ai aB (ac 3) (dC (.int 2)))) aE)
  (rW ad EE))
def jo(ad:Ad):Sd:=aJ ["plan","numbers","pieces","row","piece"] (dG ad)
theorem h_{ad:Ad}{n:Nat}{x0 x1 x2 x3:D}{M:Mem}{Q:DK}{E:DX}:jo ad [x0,x1,x2,x3] M Q E=dG ad (ay E) { nx:=fun _ M'=>drp Q .non M',rt:=drp Q } [some x0,some x1,some x2,some x3,none] M:=rfl
def rE(ad:Ad)(S_q33 S_q11 S_q37 S_q26:Sd)(EE:DX):au:=
 (ba (ak S_q11 EE 3 (aa (ac 0) (aa (ac 4) (aa (ai bE (ac 2) (aR (aa (ac 3) af))) af)))))
def rZ(ad:Ad)(S_q33 S_q11 S_q37 S_q26:Sd)(EE:DX):au:=
 (eV (lS (aa (ac 1) af)) (oS 2 (cO (ag 3) (cO (ag 4) o8))) (rE ad S_q33 S_q11 S_q37 S_q26 EE))
def sY(ad:Ad)(S_q33 S_q11 S_q37 S_q26:Sd)(EE:DX):au:=
 (ba (ak S_q37 EE 3 (aa (ac 0) (aa (ac 1) (aa (ac 2) af)))))
def rV(ad:Ad)(S_q33 S_q11 S_q37 S_q26:Sd)(EE:DX):au:=
 (ba (ak S_q26 EE 3 (aa (ac 0) (aa (ac 1) (aa (ac 2) af)))))
def tO(ad:Ad)(S_q33 S_q11 S_q37 S_q26:Sd)(EE:DX):au:=
 (ar (ac 3) (gT (aO ad.C_Walk (ac 0) "numbers") (ai aB (ac 1) (dC (.int 1)))))
def sy(ad:Ad)(S_q33 S_q11 S_q37 S_q26:Sd)(EE:DX):au:=
 (ah (ba (cg ad.C_Walk "note_step" (ra ad) EE 3 (ac 0) (aa (ac 2) (aa (ac 3) af))))
    (tO ad S_q33 S_q11 S_q37 S_q26 EE))
def sX(ad:Ad)(S_q33 S_q11 S_q37 S_q26:Sd)(EE:DX):au:=
 (ah (ar (ap (ak (jo ad) EE 4 (aa (aO ad.C_Walk (ac 0) "plan") (aa (aO ad.C_Walk (ac 0) "numbers") (aa (aO ad.C_Walk (ac 0) "pieces") (aa (ac 1) af)))))) (ag 3))
    (sy ad S_q33 S_q11 S_q37 S_q26 EE))
def tP(ad:Ad)(S_q33 S_q11 S_q37 S_q26:Sd)(EE:DX):au:=
 (aS (am (ai cu (ai aB (ac 1) (dC (.int 0))) (dC (.str "again")))) (rV ad S_q33 S_q11 S_q37 S_q26 EE) (sX ad S_q33 S_q11 S_q37 S_q26 EE))
def fK(ad:Ad)(S_q33 S_q11 S_q37 S_q26:Sd)(EE:DX):au:=
 (aS (am (ai cu (ai aB (ac 1) (dC (.int 0))) (dC (.str "if")))) (sY ad S_q33 S_q11 S_q37 S_q26 EE) (tP ad S_q33 S_q11 S_q37 S_q26 EE))
def sQ(ad:Ad)(S_q33 S_q11 S_q37 S_q26:Sd)(EE:DX):au:=
 (ba (ak S_q33 EE 3 (aa (ac 0) (aa (vn (am (ai cu (ac 3) (dC (.int 1)))) (ai aB (ac 1) (dC (.int 2))) (ai aB (ac 1) (dC (.int 3)))) (aa (ai bE (ac 2) (aR (aa (ac 3) af))) af)))))
def uK(ad:Ad)(S_q33 S_q11 S_q37 S_q26:Sd)(EE:DX):au:=
 (ah (ar (ap (cg ad.C_Walk "look" (lg ad) EE 3 (ac 0) (aa (ac 2) (aa (ai aB (ac 1) (dC (.int 1))) af)))) (ag 3))
  (sQ ad S_q33 S_q11 S_q37 S_q26 EE))
def tD(ad:Ad)(S_q33 S_q11 S_q37 S_q26:Sd)(EE:DX):au:=
 (ah (ba (ak S_q33 EE 3 (aa (ac 0) (aa (ai aB (ac 1) (dC (.int 2))) (aa (ai bE (ac 2) (aR (aa (ac 3) af))) af)))))
   (yE 3 (dC (.int 1)) k_))
def uT(ad:Ad)(S_q33 S_q11 S_q37 S_q26:Sd)(EE:DX):au:=
 (cE (am (ai cu (ap (cg ad.C_Walk "look" (lg ad) EE 3 (ac 0) (aa (ai bE (ac 2) (aR (aa (ac 3) af))) (aa (ai aB (ac 1) (dC (.int 1))) af)))) (dC (.int 1)))) (tD ad S_q33 S_q11 S_q37 S_q26 EE))
def sm(ad:Ad)(S_q33 S_q11 S_q37 S_q26:Sd)(EE:DX):au:=
 (ah (ar (dC (.int 0)) (ag 3))
  (uT ad S_q33 S_q11 S_q37 S_q26 EE))
mutual
def S_q33(ad:Ad):Nat->Sd
 |0=>fun _ _ _ _=>False
 |n+1=>aJ ["walk","rows","place","j","row"] (rZ ad (S_q33 ad n) (S_q11 ad n) (S_q37 ad n) (S_q26 ad n))
def S_q11(ad:Ad):Nat->Sd
 |0=>fun _ _ _ _=>False
 |n+1=>aJ ["walk","row","place","number"] (fK ad (S_q33 ad n) (S_q11 ad n) (S_q37 ad n) (S_q26 ad n))
def S_q37(ad:Ad):Nat->Sd
 |0=>fun _ _ _ _=>False
 |n+1=>aJ ["walk","row","place","seen"] (uK ad (S_q33 ad n) (S_q11 ad n) (S_q37 ad n) (S_q26 ad n))
def S_q26(ad:Ad):Nat->Sd
 |0=>fun _ _ _ _=>False
 |n+1=>aJ ["walk","row","place","turn"] (sm ad (S_q33 ad n) (S_q11 ad n) (S_q37 ad n) (S_q26 ad n))
end
theorem GX{ad:Ad}{n:Nat}{x0 x1 x2:D}{M:Mem}{Q:DK}{E:DX}:S_q33 ad (n+1) [x0,x1,x2] M Q E=rZ ad (S_q33 ad n) (S_q11 ad n) (S_q37 ad n) (S_q26 ad n) (ay E) { nx:=fun _ M'=>drp Q .non M',rt:=drp Q } [some x0,some x1,some x2,none,none] M:=rfl
theorem lb{ad:Ad}{n:Nat}{x0 x1 x2:D}{M:Mem}{Q:DK}{E:DX}:S_q11 ad (n+1) [x0,x1,x2] M Q E=fK ad (S_q33 ad n) (S_q11 ad n) (S_q37 ad n) (S_q26 ad n) (ay E) { nx:=fun _ M'=>drp Q .non M',rt:=drp Q } [some x0,some x1,some x2,none] M:=rfl
theorem Ii{ad:Ad}{n:Nat}{x0 x1 x2:D}{M:Mem}{Q:DK}{E:DX}:S_q37 ad (n+1) [x0,x1,x2] M Q E=uK ad (S_q33 ad n) (S_q11 ad n) (S_q37 ad n) (S_q26 ad n) (ay E) { nx:=fun _ M'=>drp Q .non M',rt:=drp Q } [some x0,some x1,some x2,none] M:=rfl
theorem G4{ad:Ad}{n:Nat}{x0 x1 x2:D}{M:Mem}{Q:DK}{E:DX}:S_q26 ad (n+1) [x0,x1,x2] M Q E=sm ad (S_q33 ad n) (S_q11 ad n) (S_q37 ad n) (S_q26 ad n) (ay E) { nx:=fun _ M'=>drp Q .non M',rt:=drp Q } [some x0,some x1,some x2,none] M:=rfl
def uV(ad:Ad)(EE:DX):au:=
 (ax (aR (aa (aO ad.C_Walk (ac 3) "steps") (aa (bQ k6 (aa (ap (aV (bN (ai aB (ac 0) (dC (.int 1)))) ["name"] [3] (ag 0) dw (ai aB (aO ad.C_Walk (ac 1) "numbers") (ac 0)))) af)) af))))
def sJ(ad:Ad)(EE:DX):au:=
 (ah (Es ad.C_Dry (S_q33 ad 24) 3 (aa (ac 3) (aa (ai aB (ac 0) (dC (.int 3))) (aa (aR af) af))) (ax (aR (aa (aO ad.C_Walk (ac 3) "steps") (aa (dC .non) af)))))
  (uV ad EE))
def tI(ad:Ad)(EE:DX):au:=
 (ah (ar (dP ad.C_Walk (zL ad) EE 4 (aa (ac 0) (aa (ac 1) (aa (ac 2) af)))) (ag 3))
  (sJ ad EE))
def nV(ad:Ad):Sd:=aJ ["plan","stand","most","walk"] (tI ad)
theorem Ig{ad:Ad}{n:Nat}{x0 x1 x2:D}{M:Mem}{Q:DK}{E:DX}:nV ad [x0,x1,x2] M Q E=tI ad (ay E) { nx:=fun _ M'=>drp Q .non M',rt:=drp Q } [some x0,some x1,some x2,none] M:=rfl
def rH(ad:Ad)(EE:DX):au:=
 (ax (ai aB (ac 3) (dTM n8 (ai aB (ac 0) (dC (.int 1))) (aa (ai aB (ac 0) (dC (.int 4))) af))))
def uH(ad:Ad)(EE:DX):au:=
 (ah (aS (am (ai iq (ac 3) (dC .non))) (ax (dC .non)) aE)
  (rH ad EE))
def sM(ad:Ad)(EE:DX):au:=
 (ah (ar (ai aB (C8 (ak (nV ad) EE 3 (aa (ac 0) (aa (ac 1) (aa (ac 2) af))))) (dC (.int 1))) (ag 3))
  (uH ad EE))
def kQ(ad:Ad):Sd:=aJ ["plan","stand","most","end"] (sM ad)
theorem G2{ad:Ad}{n:Nat}{x0 x1 x2:D}{M:Mem}{Q:DK}{E:DX}:kQ ad [x0,x1,x2] M Q E=sM ad (ay E) { nx:=fun _ M'=>drp Q .non M',rt:=drp Q } [some x0,some x1,some x2,none] M:=rfl
def uu(ad:Ad)(EE:DX):au:=
 (ax (ai bE (ap (bQ g6 (aa (ai aB (ac 0) (dC (.int 1))) af))) (ap (fS (aa (ai aB (ac 0) (dC (.int 2))) af)))))
def pb(ad:Ad):Sd:=aJ ["plan"] (uu ad)
theorem Ht{ad:Ad}{n:Nat}{x0:D}{M:Mem}{Q:DK}{E:DX}:pb ad [x0] M Q E=uu ad (ay E) { nx:=fun _ M'=>drp Q .non M',rt:=drp Q } [some x0] M:=rfl
def iI(ad:Ad)(EE:DX):au:=
 (ax (aV (bN (ap (ak (pb ad) EE 1 (aa (ac 0) af)))) ["thing"] [2] (ag 0) (am (ai Br (ac 0) (ac 1))) (ac 0)))
def uy(ad:Ad)(EE:DX):au:=
 (ah (ar (bQ dM (aa (ap (aV (bN (ac 1)) ["thing"] [] (ag 0) dw (aR (aa (ac 0) (aa (dC (.bl true)) af))))) af)) (ag 2))
  (iI ad EE))
def uZ(ad:Ad):Sd:=aJ ["plan","things","wanted"] (uy ad)
theorem FZ{ad:Ad}{n:Nat}{x0 x1:D}{M:Mem}{Q:DK}{E:DX}:uZ ad [x0,x1] M Q E=uy ad (ay E) { nx:=fun _ M'=>drp Q .non M',rt:=drp Q } [some x0,some x1,none] M:=rfl
def sv(ad:Ad)(EE:DX):au:=
 (ax (ai aB (ai aB (ac 1) (dC (.int 0))) (dTM n8 (ai aB (ac 0) (dC (.int 1))) (aa (ac 2) af))))
def o4(ad:Ad)(EE:DX):au:=
 (ah (aS (fD (bQ cy (aa (ac 2) (aa (dC (.ty "str")) af)))) (sv ad EE) aE)
  (ax (ai aB (ai aB (ac 1) (dC (.int 1))) (ac 2))))
def h9(ad:Ad):Sd:=aJ ["plan","stand","thing"] (o4 ad)
theorem Cn{ad:Ad}{n:Nat}{x0 x1 x2:D}{M:Mem}{Q:DK}{E:DX}:h9 ad [x0,x1,x2] M Q E=o4 ad (ay E) { nx:=fun _ M'=>drp Q .non M',rt:=drp Q } [some x0,some x1,some x2] M:=rfl
def sH(ad:Ad)(EE:DX):au:=
 (ax (bQ g6 (aa (ap (FU (ac 0) (jI (dC (.int 2))) fY)) af)))
def rF(ad:Ad)(EE:DX):au:=
 (ah (aS (Dd (am (ai cu (ai aB (ac 0) (dC (.int 0))) (dC (.str "put")))) (am (ai cu (ai aB (ac 0) (dC (.int 0))) (dC (.str "take"))))) (ax (bJ af)) aE)
  (sH ad EE))
def g8(ad:Ad)(EE:DX):au:=
 (ah (aS (Dd (am (ai cu (ai aB (ac 0) (dC (.int 0))) (dC (.str "if")))) (am (ai cu (ai aB (ac 0) (dC (.int 0))) (dC (.str "again"))))) (ax (bJ (aa (ai aB (ac 0) (dC (.int 1))) af))) aE)
  (rF ad EE))
def uY(ad:Ad):Sd:=aJ ["row"] (g8 ad)
theorem lL{ad:Ad}{n:Nat}{x0:D}{M:Mem}{Q:DK}{E:DX}:uY ad [x0] M Q E=g8 ad (ay E) { nx:=fun _ M'=>drp Q .non M',rt:=drp Q } [some x0] M:=rfl
def tS(ad:Ad)(EE:DX):au:=
 (ax (aV (bN (ap (ak (pb ad) EE 1 (aa (ac 0) af)))) ["thing"] [0,2,1] (ag 0) (am (ai kA (ap (ak (h9 ad) pQ 3 (aa (ac 1) (aa (ac 3) (aa (ac 0) af))))) (ap (ak (h9 ad) pQ 3 (aa (ac 1) (aa (ac 2) (aa (ac 0) af))))))) (ac 0)))
def sL(ad:Ad):Sd:=aJ ["plan","one","other"] (tS ad)
theorem GH{ad:Ad}{n:Nat}{x0 x1 x2:D}{M:Mem}{Q:DK}{E:DX}:sL ad [x0,x1,x2] M Q E=tS ad (ay E) { nx:=fun _ M'=>drp Q .non M',rt:=drp Q } [some x0,some x1,some x2] M:=rfl
def nI(ad:Ad)(EE:DX):au:=
 (ah (aS (am (ai cu (ac 1) (ac 2))) (gA ad.C_NoCase EE) aE)
  (ax (aR (aa (ac 1) (aa (ac 2) af)))))
def jh(ad:Ad)(EE:DX):au:=
 (ah (aS (Dd (am (ai iq (ac 1) (dC .non))) (am (ai iq (ac 2) (dC .non)))) (gA ad.C_NoCase EE) aE)
  (nI ad EE))
def nG(ad:Ad)(EE:DX):au:=
 (ah (ar (ap (ak (kQ ad) EE 3 (aa (ai aB (ac 0) (dC (.int 0))) (aa (ai aB (ac 0) (dC (.int 2))) (aa (ai aB (ac 0) (dC (.int 3))) af))))) (ag 2))
  (jh ad EE))
def tM(ad:Ad)(EE:DX):au:=
 (ah (ar (ap (ak (kQ ad) EE 3 (aa (ai aB (ac 0) (dC (.int 0))) (aa (ai aB (ac 0) (dC (.int 1))) (aa (ai aB (ac 0) (dC (.int 3))) af))))) (ag 1))
  (nG ad EE))
def ot(ad:Ad):Sd:=aJ ["case","sound","faulty"] (tM ad)
theorem Gi{ad:Ad}{n:Nat}{x0:D}{M:Mem}{Q:DK}{E:DX}:ot ad [x0] M Q E=tM ad (ay E) { nx:=fun _ M'=>drp Q .non M',rt:=drp Q } [some x0,none,none] M:=rfl
def si(ad:Ad)(EE:DX):au:=
 (ax (ak (sL ad) EE 3 (aa (ai aB (ac 0) (dC (.int 0))) (aa (ai aB (ac 0) (dC (.int 1))) (aa (ai aB (ac 0) (dC (.int 2))) af)))))
def h7(ad:Ad):Sd:=aJ ["case"] (si ad)
theorem GU{ad:Ad}{n:Nat}{x0:D}{M:Mem}{Q:DK}{E:DX}:h7 ad [x0] M Q E=si ad (ay E) { nx:=fun _ M'=>drp Q .non M',rt:=drp Q } [some x0] M:=rfl
def rL(ad:Ad)(EE:DX):au:=
 (ah (aS (am (ai cu (ac 1) (ai aB (ac 0) (dC (.int 1))))) (ax (dC (.str "faulty"))) aE)
  (ax (dC (.str "other"))))
def pC(ad:Ad)(EE:DX):au:=
 (ah (aS (am (ai cu (ac 1) (ai aB (ac 0) (dC (.int 0))))) (ax (dC (.str "sound"))) aE)
  (rL ad EE))
def sw(ad:Ad):Sd:=aJ ["two","one"] (pC ad)
theorem BV{ad:Ad}{n:Nat}{x0 x1:D}{M:Mem}{Q:DK}{E:DX}:sw ad [x0,x1] M Q E=pC ad (ay E) { nx:=fun _ M'=>drp Q .non M',rt:=drp Q } [some x0,some x1] M:=rfl
def xU(ad:Ad)(EE:DX):au:=
 (ah (bM ad.C_Going (ac 0) (ac 4) "todo")
  (bM ad.C_Going (ac 0) (ac 5) "left"))
def yx(ad:Ad)(EE:DX):au:=
 (ah (bM ad.C_Going (ac 0) (ac 3) "unsettled")
  (xU ad EE))
def x8(ad:Ad)(EE:DX):au:=
 (ah (bM ad.C_Going (ac 0) (ac 2) "pieces")
  (yx ad EE))
def zV(ad:Ad)(EE:DX):au:=
 (ah (bM ad.C_Going (ac 0) (ac 1) "numbers")
  (x8 ad EE))
def y6(ad:Ad):Sd:=aJ ["self","numbers","pieces","unsettled","todo","left"] (zV ad)
theorem u_q2{ad:Ad}{n:Nat}{x0 x1 x2 x3 x4 x5:D}{M:Mem}{Q:DK}{E:DX}:y6 ad [x0,x1,x2,x3,x4,x5] M Q E=zV ad (ay E) { nx:=fun _ M'=>drp Q .non M',rt:=drp Q } [some x0,some x1,some x2,some x3,some x4,some x5] M:=rfl
def q_(ad:Ad)(EE:DX):au:=
 (ar (ac 2) (gT (aO ad.C_Going (ac 3) "numbers") (ac 1)))
def pU(ad:Ad)(EE:DX):au:=
 (ar (ac 2) (gT (aO ad.C_Going (ac 3) "pieces") (ac 1)))
def mj(ad:Ad)(EE:DX):au:=
 (ah (aS (fD (bQ cy (aa (ac 1) (aa (dC (.ty "str")) af)))) (q_ ad EE) (pU ad EE))
  (ax (ac 3)))
def l_(ad:Ad)(EE:DX):au:=
 (ah (ba (wS (aO ad.C_Going (ac 3) "unsettled") (ac 1)))
  (mj ad EE))
def AL(ad:Ad)(EE:DX):au:=
 (ah (ar (dP ad.C_Going (y6 ad) EE 6 (aa (bQ ko (aa (aO ad.C_Going (ac 0) "numbers") af)) (aa (bQ g6 (aa (aO ad.C_Going (ac 0) "pieces") af)) (aa (bQ ko (aa (aO ad.C_Going (ac 0) "unsettled") af)) (aa (aO ad.C_Going (ac 0) "todo") (aa (aO ad.C_Going (ac 0) "left") af)))))) (ag 3))
  (l_ ad EE))
def vC(ad:Ad):Sd:=aJ ["self","thing","number","other"] (AL ad)
theorem u_q6{ad:Ad}{n:Nat}{x0 x1 x2:D}{M:Mem}{Q:DK}{E:DX}:vC ad [x0,x1,x2] M Q E=AL ad (ay E) { nx:=fun _ M'=>drp Q .non M',rt:=drp Q } [some x0,some x1,some x2,none] M:=rfl
def BF(ad:Ad)(EE:DX):au:=
 (ah (bM ad.C_Ends (ac 0) (ac 1) "limit")
  (bM ad.C_Ends (ac 0) (dC (.int 0)) "count"))
def D9(ad:Ad):Sd:=aJ ["self","limit"] (BF ad)
theorem u_q7{ad:Ad}{n:Nat}{x0 x1:D}{M:Mem}{Q:DK}{E:DX}:D9 ad [x0,x1] M Q E=BF ad (ay E) { nx:=fun _ M'=>drp Q .non M',rt:=drp Q } [some x0,some x1] M:=rfl
def qh(ad:Ad)(EE:DX):au:=
 (aS (am (ai vA (aO ad.C_Ends (ac 0) "count") (aO ad.C_Ends (ac 0) "limit"))) (gA ad.C_TooMany EE) aE)
def AH(ad:Ad)(EE:DX):au:=
 (ah (mD ad.C_Ends (ac 0) (dC (.int 1)) "count")
  (qh ad EE))
def yb(ad:Ad):Sd:=aJ ["self"] (AH ad)
theorem u_q4{ad:Ad}{n:Nat}{x0:D}{M:Mem}{Q:DK}{E:DX}:yb ad [x0] M Q E=AH ad (ay E) { nx:=fun _ M'=>drp Q .non M',rt:=drp Q } [some x0] M:=rfl
def ng(ad:Ad)(EE:DX):au:=
 (ar (aR (aa (ac 2) (aa (ac 1) af))) (ag 1))
def s_(ad:Ad)(EE:DX):au:=
 (ah (eV (Fz (aa (ac 0) af)) (ag 2) (ng ad EE))
  (ax (ac 1)))
def jU(ad:Ad):Sd:=aJ ["rows","todo","row"] (s_ ad)
theorem Gx{ad:Ad}{n:Nat}{x0 x1:D}{M:Mem}{Q:DK}{E:DX}:jU ad [x0,x1] M Q E=s_ ad (ay E) { nx:=fun _ M'=>drp Q .non M',rt:=drp Q } [some x0,some x1,none] M:=rfl
def j5(ad:Ad)(EE:DX):au:=
 (ax (dP ad.C_Going (y6 ad) EE 6 (aa (fH (aa (ai aB (ac 1) (dC (.int 1))) (aa (ai aB (ac 2) (dC (.int 0))) af))) (aa (bQ g6 (aa (ai aB (ac 2) (dC (.int 1))) af)) (aa (ac 3) (aa (ap (ak (jU ad) EE 2 (aa (ai aB (ac 1) (dC (.int 3))) (aa (dC .non) af)))) (aa (ai aB (ac 0) (dC (.int 3))) af)))))))
def iG(ad:Ad)(EE:DX):au:=
 (ah (ar (bQ dM (aa (ap (aV (bN (ap (ak (h7 ad) EE 1 (aa (ac 0) af)))) ["thing"] [] (ag 0) dw (aR (aa (ac 0) (aa (dC (.bl true)) af))))) af)) (ag 3))
  (j5 ad EE))
def nK(ad:Ad)(EE:DX):au:=
 (ah (ar (ai aB (ac 0) (dC (.int 1))) (ag 2))
  (iG ad EE))
def tE(ad:Ad)(EE:DX):au:=
 (ah (ar (ai aB (ac 0) (dC (.int 0))) (ag 1))
  (nK ad EE))
def tu(ad:Ad):Sd:=aJ ["case","plan","sound","unsettled"] (tE ad)
theorem Hc{ad:Ad}{n:Nat}{x0:D}{M:Mem}{Q:DK}{E:DX}:tu ad [x0] M Q E=tE ad (ay E) { nx:=fun _ M'=>drp Q .non M',rt:=drp Q } [some x0,none,none,none] M:=rfl
def mU(ad:Ad)(EE:DX):au:=
 (ax (ai aB (ap (ak (uZ ad) EE 2 (aa (ac 0) (aa (ac 3) af)))) (dC (.int 0))))
def ms(ad:Ad)(EE:DX):au:=
 (ax (vn (am (ai wR (ac 4) (aO ad.C_Going (ac 1) "unsettled"))) (ac 4) (dC .non)))
def jb(ad:Ad)(EE:DX):au:=
 (ah (ar (ap (ak (jw ad) EE 3 (aa (ac 0) (aa (aO ad.C_Going (ac 1) "numbers") (aa (ac 2) af))))) (ag 4))
  (ms ad EE))
def iD(ad:Ad)(EE:DX):au:=
 (ah (aS (fD (ac 3)) (mU ad EE) aE)
  (jb ad EE))
def iR(ad:Ad)(EE:DX):au:=
 (ah (dL (eh 3 (aV (bN (ap (ak (uY ad) EE 1 (aa (ac 2) af)))) ["name"] [1] (ag 0) (am (ai Br (ac 0) (aO ad.C_Going (ac 1) "unsettled"))) (ac 0))) 3)
  (iD ad EE))
def sK(ad:Ad)(EE:DX):au:=
 (ah (aS (E_ (fD (aO ad.C_Going (ac 1) "unsettled"))) (ax (dC .non)) aE)
  (iR ad EE))
def tm(ad:Ad):Sd:=aJ ["plan","going","row","found","piece"] (sK ad)
theorem Hx{ad:Ad}{n:Nat}{x0 x1 x2:D}{M:Mem}{Q:DK}{E:DX}:tm ad [x0,x1,x2] M Q E=sK ad (ay E) { nx:=fun _ M'=>drp Q .non M',rt:=drp Q } [some x0,some x1,some x2,none,none] M:=rfl
def zk(ad:Ad)(EE:DX):au:=
 (bM ad.C_Going (ac 1) (ap (ak (jU ad) EE 2 (aa (vn (am (ai cu (ai aB (aO ad.C_Going (ac 1) "numbers") (ai aB (ac 2) (dC (.int 1)))) (dC (.int 0)))) (ai aB (ac 2) (dC (.int 3))) (ai aB (ac 2) (dC (.int 2)))) (aa (aO ad.C_Going (ac 1) "todo") af)))) "todo")
def xJ(ad:Ad)(EE:DX):au:=
 (bM ad.C_Going (ac 1) (ap (ak (jU ad) EE 2 (aa (ai aB (ac 2) (dC (.int 2))) (aa (aR (aa (ac 2) (aa (aO ad.C_Going (ac 1) "todo") af))) af)))) "todo")
def y1(ad:Ad)(EE:DX):au:=
 (aS (am (ai kA (ai aB (aO ad.C_Going (ac 1) "numbers") (ai aB (ac 2) (dC (.int 1)))) (dC (.int 0)))) (xJ ad EE) aE)
def qG(ad:Ad)(EE:DX):au:=
 (ba (xC (aO ad.C_Going (ac 1) "unsettled") (ai aB (ac 2) (dC (.int 1))) (dC .non)))
def gD(ad:Ad)(EE:DX):au:=
 (ah (ar (ap (ak (jo ad) EE 4 (aa (ac 0) (aa (aO ad.C_Going (ac 1) "numbers") (aa (aO ad.C_Going (ac 1) "pieces") (aa (ac 2) af)))))) (gT (aO ad.C_Going (ac 1) "numbers") (ai aB (ac 2) (dC (.int 1)))))
    (qG ad EE))
def qz(ad:Ad)(EE:DX):au:=
 (aS (am (ai cu (ai aB (ac 2) (dC (.int 0))) (dC (.str "again")))) (y1 ad EE) (gD ad EE))
def nc(ad:Ad)(EE:DX):au:=
 (aS (am (ai cu (ai aB (ac 2) (dC (.int 0))) (dC (.str "if")))) (zk ad EE) (qz ad EE))
def qt(ad:Ad)(EE:DX):au:=
 (ah (bM ad.C_Going (ac 1) (ai aB (aO ad.C_Going (ac 1) "todo") (dC (.int 1))) "todo")
  (nc ad EE))
def A7(ad:Ad)(EE:DX):au:=
 (ah (nz ad.C_Going (ac 1) (dC (.int 1)) "left")
  (qt ad EE))
def zT(ad:Ad):Sd:=aJ ["plan","going","row"] (A7 ad)
theorem u_q9{ad:Ad}{n:Nat}{x0 x1 x2:D}{M:Mem}{Q:DK}{E:DX}:zT ad [x0,x1,x2] M Q E=A7 ad (ay E) { nx:=fun _ M'=>drp Q .non M',rt:=drp Q } [some x0,some x1,some x2] M:=rfl
def mW(ad:Ad)(EE:DX):au:=
 (ba (ak (zT ad) EE 3 (aa (ac 0) (aa (ac 1) (aa (ac 2) af)))))
def iW(ad:Ad)(EE:DX):au:=
 (ah (aS (am (ai fg (ac 3) (dC .non))) (ax (ac 3)) aE)
   (mW ad EE))
def mY(ad:Ad)(EE:DX):au:=
 (ah (ar (ap (ak (tm ad) EE 3 (aa (ac 0) (aa (ac 1) (aa (ac 2) af))))) (ag 3))
   (iW ad EE))
def iY(ad:Ad)(EE:DX):au:=
 (ah (ar (ai aB (aO ad.C_Going (ac 1) "todo") (dC (.int 0))) (ag 2))
   (mY ad EE))
def eF(ad:Ad)(EE:DX):au:=
 (ah (aS (am (ai oLe (aO ad.C_Going (ac 1) "left") (dC (.int 0)))) (ax (dC .non)) aE)
   (iY ad EE))
def nA(ad:Ad)(EE:DX):au:=
 (ax (vn (am (ai Br (ai aB (ac 0) (dC (.int 4))) (aO ad.C_Going (ac 1) "unsettled"))) (ai aB (ac 0) (dC (.int 4))) (dC .non)))
def tV(ad:Ad)(EE:DX):au:=
 (ah (cE (am (ai fg (aO ad.C_Going (ac 1) "todo") (dC .non))) (eF ad EE))
  (nA ad EE))
def sD(ad:Ad):Sd:=aJ ["plan","going","row","asked"] (tV ad)
theorem FX{ad:Ad}{n:Nat}{x0 x1:D}{M:Mem}{Q:DK}{E:DX}:sD ad [x0,x1] M Q E=tV ad (ay E) { nx:=fun _ M'=>drp Q .non M',rt:=drp Q } [some x0,some x1,none,none] M:=rfl
def uk(ad:Ad)(EE:DX):au:=
 (ax (vn (am (ai iq (aO ad.C_Going (ac 1) "todo") (dC .non))) (ai aB (aO ad.C_Going (ac 1) "numbers") (ai aB (ac 0) (dC (.int 4)))) (dC .non)))
def rP(ad:Ad):Sd:=aJ ["plan","going"] (uk ad)
theorem GE{ad:Ad}{n:Nat}{x0 x1:D}{M:Mem}{Q:DK}{E:DX}:rP ad [x0,x1] M Q E=uk ad (ay E) { nx:=fun _ M'=>drp Q .non M',rt:=drp Q } [some x0,some x1] M:=rfl
def tX(ad:Ad)(EE:DX):au:=
 (ax (aV (bN (ap (FU (ac 0) (jI (dC (.int 1))) (jI (dC (.int 3)))))) ["stand"] [2,1,0] (ag 0) dw (ap (cg ad.C_Going "settled" (vC ad) pQ 3 (ac 2) (aa (ac 1) (aa (ap (ak (h9 ad) pQ 3 (aa (ai aB (ac 3) (dC (.int 0))) (aa (ac 0) (aa (ac 1) af))))) af))))))
def uG(ad:Ad):Sd:=aJ ["case","going","thing"] (tX ad)
theorem Gv{ad:Ad}{n:Nat}{x0 x1 x2:D}{M:Mem}{Q:DK}{E:DX}:uG ad [x0,x1,x2] M Q E=tX ad (ay E) { nx:=fun _ M'=>drp Q .non M',rt:=drp Q } [some x0,some x1,some x2] M:=rfl
def mP(ad:Ad)(S_q41:Sd)(EE:DX):au:=
 (ax (aR (aa (dC (.str "end")) (aa (ak (rP ad) EE 2 (aa (ai aB (ac 0) (dC (.int 0))) (aa (ac 1) af))) af))))
def ja(ad:Ad)(S_q41:Sd)(EE:DX):au:=
 (ax (aR (aa (dC (.str "ask")) (aa (ac 3) (aa (ak S_q41 EE 3 (aa (ac 0) (aa (ai aB (ac 4) (dC (.int 0))) (aa (ac 2) af)))) (aa (ak S_q41 EE 3 (aa (ac 0) (aa (ai aB (ac 4) (dC (.int 1))) (aa (ac 2) af)))) af))))))
def j9(ad:Ad)(S_q41:Sd)(EE:DX):au:=
 (ah (ar (ap (ak (uG ad) EE 3 (aa (ac 0) (aa (ac 1) (aa (ac 3) af))))) (ag 4))
  (ja ad S_q41 EE))
def iM(ad:Ad)(S_q41:Sd)(EE:DX):au:=
 (ah (ba (cg ad.C_Ends "one_more" (yb ad) EE 1 (ac 2) af))
  (j9 ad S_q41 EE))
def jg(ad:Ad)(S_q41:Sd)(EE:DX):au:=
 (ah (aS (am (ai iq (ac 3) (dC .non))) (mP ad S_q41 EE) aE)
  (iM ad S_q41 EE))
def uh(ad:Ad)(S_q41:Sd)(EE:DX):au:=
 (ah (ar (ap (ak (sD ad) EE 2 (aa (ai aB (ac 0) (dC (.int 0))) (aa (ac 1) af)))) (ag 3))
  (jg ad S_q41 EE))
def S_q41(ad:Ad):Nat->Sd
 |0=>fun _ _ _ _=>False
 |n+1=>aJ ["case","going","ends","asked","ways"] (uh ad (S_q41 ad n))
theorem Gc{ad:Ad}{n:Nat}{x0 x1 x2:D}{M:Mem}{Q:DK}{E:DX}:S_q41 ad (n+1) [x0,x1,x2] M Q E=uh ad (S_q41 ad n) (ay E) { nx:=fun _ M'=>drp Q .non M',rt:=drp Q } [some x0,some x1,some x2,none,none] M:=rfl
def lX(ad:Ad)(EE:DX):au:=
 (ax (ak (S_q41 ad 24) EE 3 (aa (ac 0) (aa (ap (ak (tu ad) EE 1 (aa (ac 0) af))) (aa (ac 2) af)))))
def iT(ad:Ad)(EE:DX):au:=
 (ah (ba (cg ad.C_Ends "one_more" (yb ad) EE 1 (ac 2) af))
  (lX ad EE))
def mC(ad:Ad)(EE:DX):au:=
 (ah (ar (dP ad.C_Ends (D9 ad) EE 2 (aa (ac 1) af)) (ag 2))
  (iT ad EE))
def tj(ad:Ad)(EE:DX):au:=
 (ah (ba (ak (ot ad) EE 1 (aa (ac 0) af)))
  (mC ad EE))
def tq(ad:Ad):Sd:=aJ ["case","limit","ends"] (tj ad)
theorem Ip{ad:Ad}{n:Nat}{x0 x1:D}{M:Mem}{Q:DK}{E:DX}:tq ad [x0,x1] M Q E=tj ad (ay E) { nx:=fun _ M'=>drp Q .non M',rt:=drp Q } [some x0,some x1,none] M:=rfl
def y8(ad:Ad)(EE:DX):au:=
 (ah (bM ad.C_Outcome (ac 0) (ac 2) "sound")
  (bM ad.C_Outcome (ac 0) (ac 3) "faulty"))
def zX(ad:Ad)(EE:DX):au:=
 (ah (bM ad.C_Outcome (ac 0) (ac 1) "verdict")
  (y8 ad EE))
def AT(ad:Ad):Sd:=aJ ["self","verdict","sound","faulty"] (zX ad)
theorem u_q0{ad:Ad}{n:Nat}{x0 x1 x2 x3:D}{M:Mem}{Q:DK}{E:DX}:AT ad [x0,x1,x2,x3] M Q E=zX ad (ay E) { nx:=fun _ M'=>drp Q .non M',rt:=drp Q } [some x0,some x1,some x2,some x3] M:=rfl
def lZ(ad:Ad)(EE:DX):au:=
 (ba (kC "list" cb (ac 4) (aa (dP ad.C_Outcome (AT ad) EE 4 (aa (ap (ak (sw ad) EE 2 (aa (ac 2) (aa (ai aB (ai aB (ac 6) (dC (.int 0))) (dC (.int 1))) af)))) (aa (ac 7) (aa (ac 8) af)))) af)))
def nu(ad:Ad)(EE:DX):au:=
 (ba (kC "list" cb (ac 5) (aa (aR (aa (ai aB (ai aB (ac 6) (dC (.int 0))) (dC (.int 3))) (aa (ac 7) (aa (ai oOr (ac 8) (ac 9)) af)))) af)))
def nB(ad:Ad)(EE:DX):au:=
 (ah (ba (kC "list" cb (ac 5) (aa (aR (aa (ai aB (ai aB (ac 6) (dC (.int 0))) (dC (.int 2))) (aa (ai oOr (ac 7) (ac 9)) (aa (ac 8) af)))) af)))
    (nu ad EE))
def mx(ad:Ad)(EE:DX):au:=
 (ah (ar (ai aB (ac 3) (ai aB (ai aB (ac 6) (dC (.int 0))) (dC (.int 1)))) (ag 9))
    (nB ad EE))
def iw(ad:Ad)(EE:DX):au:=
 (aS (am (ai cu (ai aB (ai aB (ac 6) (dC (.int 0))) (dC (.int 0))) (dC (.str "end")))) (lZ ad EE) (mx ad EE))
def nO(ad:Ad)(EE:DX):au:=
 (ah (ar (ai aB (ac 6) (dC (.int 2))) (ag 8))
   (iw ad EE))
def j8(ad:Ad)(EE:DX):au:=
 (ah (ar (ai aB (ac 6) (dC (.int 1))) (ag 7))
   (nO ad EE))
def eG(ad:Ad)(EE:DX):au:=
 (ah (ar (kC "list" oF (ac 5) af) (ag 6))
   (j8 ad EE))
def mF(ad:Ad)(EE:DX):au:=
 (ah (cE (fD (ac 5)) (eG ad EE))
  (ax (ac 4)))
def fF(ad:Ad)(EE:DX):au:=
 (ah (ar (bJ (aa (aR (aa (ak (tq ad) EE 2 (aa (ac 0) (aa (ac 1) af))) (aa (dC (.int 0)) (aa (dC (.int 0)) af)))) af)) (ag 5))
  (mF ad EE))
def fL(ad:Ad)(EE:DX):au:=
 (ah (ar (bQ dM (aa (ap (aV (lS (aa (ap (ak (h7 ad) EE 1 (aa (ac 0) af))) af)) ["number","thing"] [] (oS 2 (cO (ag 0) (cO (ag 1) o8))) dw (aR (aa (ac 1) (aa (ai EU (dC (.int 1)) (ac 0)) af))))) af)) (ag 3))
  (ah (ar (bJ af) (ag 4))
  (fF ad EE)))
def tZ(ad:Ad)(EE:DX):au:=
 (ah (ar (ap (ak (ot ad) EE 1 (aa (ac 0) af))) (ag 2))
  (fL ad EE))
def rG(ad:Ad):Sd:=aJ ["case","limit","two","bit_of","found","waiting","here","sound","faulty","bit"] (tZ ad)
theorem Gf{ad:Ad}{n:Nat}{x0 x1:D}{M:Mem}{Q:DK}{E:DX}:rG ad [x0,x1] M Q E=tZ ad (ay E) { nx:=fun _ M'=>drp Q .non M',rt:=drp Q } [some x0,some x1,none,none,none,none,none,none,none,none] M:=rfl
def sG(ad:Ad)(EE:DX):au:=
 (ax (aV (jt (aa (kC "int" jc (ac 0) af) af)) ["number"] [0] (ag 0) (am (ai cu (ai Fn (ai D6 (ac 1) (ac 0)) (dC (.int 1))) (dC (.int 1)))) (ac 0)))
def oz(ad:Ad):Sd:=aJ ["bits"] (sG ad)
theorem Ib{ad:Ad}{n:Nat}{x0:D}{M:Mem}{Q:DK}{E:DX}:oz ad [x0] M Q E=sG ad (ay E) { nx:=fun _ M'=>drp Q .non M',rt:=drp Q } [some x0] M:=rfl
def rD(ad:Ad)(EE:DX):au:=
 (ah (ar (ac 3) (ag 2))
   (ar (ac 4) (ag 3)))
def jP(ad:Ad)(EE:DX):au:=
 (ah (ar (ai dY (ac 2) (ac 3)) (ag 4))
   (rD ad EE))
def qu(ad:Ad)(EE:DX):au:=
 (ax (aR (aa (ai eX (ac 0) (ac 2)) (aa (ai eX (ac 1) (ac 2)) af))))
def rg(ad:Ad)(EE:DX):au:=
 (ah (cE (am (ai kA (ac 3) (dC (.int 0)))) (jP ad EE))
  (qu ad EE))
def rC(ad:Ad)(EE:DX):au:=
 (ah (ar (ai dY (ac 0) (ac 1)) (ag 3))
  (rg ad EE))
def AY(ad:Ad)(EE:DX):au:=
 (ah (ar (ac 1) (ag 2))
  (rC ad EE))
def Bf(ad:Ad):Sd:=aJ ["n","d","divisor","rest","behind"] (AY ad)
theorem u_q1{ad:Ad}{n:Nat}{x0 x1:D}{M:Mem}{Q:DK}{E:DX}:Bf ad [x0,x1] M Q E=AY ad (ay E) { nx:=fun _ M'=>drp Q .non M',rt:=drp Q } [some x0,some x1,none,none,none] M:=rfl
def rf(ad:Ad)(EE:DX):au:=
 (ba (kC "list" cb (ac 1) (aa (ai cZ (ai aB (ac 1) (pX (dC (.int 1)))) (ai bE (ac 2) (dC (.int 1)))) af)))
def qj(ad:Ad)(EE:DX):au:=
 (ah (eV (jt (aa (ac 0) af)) (ag 2) (rf ad EE))
  (ax (ac 1)))
def zD(ad:Ad)(EE:DX):au:=
 (ah (ar (bJ (aa (dC (.int 1)) af)) (ag 1))
  (qj ad EE))
def yz(ad:Ad):Sd:=aJ ["count","told","number"] (zD ad)
theorem u_q8{ad:Ad}{n:Nat}{x0:D}{M:Mem}{Q:DK}{E:DX}:yz ad [x0] M Q E=zD ad (ay E) { nx:=fun _ M'=>drp Q .non M',rt:=drp Q } [some x0,none,none] M:=rfl
def m8(ad:Ad)(EE:DX):au:=
 (pv (ac 3) (ac 10) (ai cZ (ai cZ (ac 9) (ai aB (ac 5) (ai kO (bQ cV (aa (ac 7) af)) (dC (.int 1))))) (ai aB (ac 5) (bQ cV (aa (ac 8) af)))) k_)
def mG(ad:Ad)(EE:DX):au:=
 (pv (ac 3) (ac 10) (ai cZ (ai cZ (ac 9) (ai aB (ac 5) (bQ cV (aa (ac 7) af)))) (ai aB (ac 5) (ai kO (bQ cV (aa (ac 8) af)) (dC (.int 1))))) kO)
def iF(ad:Ad)(EE:DX):au:=
 (ah (eV (bN (ac 7)) (ag 10) (m8 ad EE))
   (eV (bN (ac 8)) (ag 10) (mG ad EE)))
def iO(ad:Ad)(EE:DX):au:=
 (ah (ar (ai eX (ai aB (ac 5) (pX (dC (.int 1)))) (ai aB (ac 5) (ap (ai bE (bQ cV (aa (ac 7) af)) (bQ cV (aa (ac 8) af)))))) (ag 9))
   (iF ad EE))
def iX(ad:Ad)(EE:DX):au:=
 (ah (ar (ap (ak (oz ad) EE 1 (aa (aO ad.C_Outcome (ac 6) "sound") af))) (ag 8))
   (iO ad EE))
def eK(ad:Ad)(EE:DX):au:=
 (ah (ar (ap (ak (oz ad) EE 1 (aa (aO ad.C_Outcome (ac 6) "faulty") af))) (ag 7))
   (iX ad EE))
def j6(ad:Ad)(EE:DX):au:=
 (ah (eV (bN (ac 4)) (ag 6) (eK ad EE))
  (ax (ac 3)))
def iB(ad:Ad)(EE:DX):au:=
 (ah (ar (ap (ak (yz ad) EE 1 (aa (bQ cV (aa (ac 2) af)) af))) (ag 5))
  (j6 ad EE))
def jd(ad:Ad)(EE:DX):au:=
 (ah (dL (eh 4 (aV (bN (ap (ak (rG ad) EE 2 (aa (ac 0) (aa (ac 1) af))))) ["one"] [] (ag 0) (am (ai cu (aO ad.C_Outcome (ac 0) "verdict") (dC (.str "faulty")))) (ac 0))) 4)
  (iB ad EE))
def fM(ad:Ad)(EE:DX):au:=
 (ah (eh 3 (aV (bN (ac 2)) ["thing"] [] (ag 0) dw (dC (.int 0))))
  (jd ad EE))
def rO(ad:Ad)(EE:DX):au:=
 (ah (ar (ap (ak (h7 ad) EE 1 (aa (ac 0) af))) (ag 2))
  (fM ad EE))
def o9(ad:Ad):Sd:=aJ ["case","limit","things","told","ends","many","end","faulty","sound","each","number"] (rO ad)
theorem Ho{ad:Ad}{n:Nat}{x0 x1:D}{M:Mem}{Q:DK}{E:DX}:o9 ad [x0,x1] M Q E=rO ad (ay E) { nx:=fun _ M'=>drp Q .non M',rt:=drp Q } [some x0,some x1,none,none,none,none,none,none,none,none,none] M:=rfl
def m4(ad:Ad)(EE:DX):au:=
 (aS (Dd (am (ai kA (ai aB (ac 2) (dC (.int 0))) (ai aB (ai aB (ac 0) (dC (.int 0))) (dC (.int 0))))) (am (ai kA (ap (ak (h7 ad) EE 1 (aa (ac 2) af))) (ac 4)))) (gA ad.C_NoCase EE) aE)
def iE(ad:Ad)(EE:DX):au:=
 (ax (aV (lS (aa (ac 4) af)) ["number","thing"] [5,3] (oS 2 (cO (ag 0) (cO (ag 1) o8))) dw (aR (aa (ac 1) (aa (ap (ak (Bf ad) pQ 2 (aa (bQ tW (aa (ap (aV (bN (ac 3)) ["orders"] [0] (ag 0) dw (ai aB (ac 0) (ac 1)))) af)) (aa (ac 2) af)))) af)))))
def je(ad:Ad)(EE:DX):au:=
 (ah (ar (ai cZ (ai aB (ap (ak (yz ad) EE 1 (aa (bQ cV (aa (ac 4) af)) af))) (pX (dC (.int 1)))) (bQ cV (aa (ac 0) af))) (ag 5))
  (iE ad EE))
def ji(ad:Ad)(EE:DX):au:=
 (ah (eV (bN (ac 0)) (ag 2) (m4 ad EE))
  (je ad EE))
def jf(ad:Ad)(EE:DX):au:=
 (ah (ar (ap (ak (h7 ad) EE 1 (aa (ai aB (ac 0) (dC (.int 0))) af))) (ag 4))
  (ji ad EE))
def sI(ad:Ad)(EE:DX):au:=
 (ah (ar (ap (aV (bN (ac 0)) ["case"] [1] (ag 0) dw (ap (ak (o9 ad) pQ 2 (aa (ac 0) (aa (ac 1) af)))))) (ag 3))
  (jf ad EE))
def uf(ad:Ad):Sd:=aJ ["cases","limit","case","held","things","whole"] (sI ad)
theorem GQ{ad:Ad}{n:Nat}{x0 x1:D}{M:Mem}{Q:DK}{E:DX}:uf ad [x0,x1] M Q E=sI ad (ay E) { nx:=fun _ M'=>drp Q .non M',rt:=drp Q } [some x0,some x1,none,none,none,none] M:=rfl
def su(ad:Ad)(EE:DX):au:=
 (ax (ak (uf ad) EE 2 (aa (ap (bJ (aa (ac 0) af))) (aa (ac 1) af))))
def nW(ad:Ad):Sd:=aJ ["case","limit"] (su ad)
theorem Io{ad:Ad}{n:Nat}{x0 x1:D}{M:Mem}{Q:DK}{E:DX}:nW ad [x0,x1] M Q E=su ad (ay E) { nx:=fun _ M'=>drp Q .non M',rt:=drp Q } [some x0,some x1] M:=rfl
def sR(ad:Ad)(EE:DX):au:=
 (ah (ar (ai dY (ai cZ (ai HD (ac 2) (ai eX (ac 2) (dC (.int 2147483648)))) (dC (.int 2685821657736338717))) (dC (.int 18446744073709551616))) (ag 2))
  (ax (ai eX (ac 2) (dC (.int 1048576)))))
def uX(ad:Ad)(EE:DX):au:=
 (ah (ar (ai dY (ai bE (ai bE (ai cZ (ac 0) (dC (.int 6364136223846793005))) (ai cZ (ac 1) (dC (.int 1442695040888963407)))) (dC (.int 97))) (dC (.int 18446744073709551616))) (ag 2))
  (sR ad EE))
def jO(ad:Ad):Sd:=aJ ["cell","turn","one"] (uX ad)
theorem HI{ad:Ad}{n:Nat}{x0 x1:D}{M:Mem}{Q:DK}{E:DX}:jO ad [x0,x1] M Q E=uX ad (ay E) { nx:=fun _ M'=>drp Q .non M',rt:=drp Q } [some x0,some x1,none] M:=rfl
def uw(ad:Ad)(EE:DX):au:=
 (ar (ai dY (ai bE (ai cZ (ac 1) (dC (.int 1000003))) (ac 2)) (dC (.int 18446744073709551616))) (ag 1))
def tL(ad:Ad)(EE:DX):au:=
 (ax (bJ (aa (bQ g6 (aa (ap (FU (ac 0) fY (jI (dC (.int 63))))) af)) (aa (dC (.int 0)) (aa (dC (.int 0)) (aa (ac 1) af))))))
def sC(ad:Ad)(EE:DX):au:=
 (ah (eV (bN (ap (FU (ac 0) fY (jI (dC (.int 63)))))) (ag 2) (uw ad EE))
  (tL ad EE))
def ut(ad:Ad)(EE:DX):au:=
 (ah (ar (dC (.int 7)) (ag 1))
  (sC ad EE))
def uS(ad:Ad):Sd:=aJ ["script","seed","cell"] (ut ad)
theorem G8{ad:Ad}{n:Nat}{x0:D}{M:Mem}{Q:DK}{E:DX}:uS ad [x0] M Q E=ut ad (ay E) { nx:=fun _ M'=>drp Q .non M',rt:=drp Q } [some x0,none,none] M:=rfl
def ug(ad:Ad)(EE:DX):au:=
 (ax (ai dY (ap (ak (jO ad) EE 2 (aa (ac 2) (aa (ai aB (ac 0) (dC (.int 1))) af)))) (ac 1)))
def sV(ad:Ad)(EE:DX):au:=
 (ah (aS (am (ai oLt (ac 2) (ai Ft (dC (.int 10)) (dC (.int 18))))) (ug ad EE) aE)
   (ar (ac 2) (gT (ac 0) (dC (.int 2)))))
def rJ(ad:Ad)(EE:DX):au:=
 (ah (ar (kC "list" oF (ai aB (ac 0) (dC (.int 0))) (aa (dC (.int 0)) af)) (ag 2))
   (sV ad EE))
def u_(ad:Ad)(EE:DX):au:=
 (ax (ai dY (ap (ak (jO ad) EE 2 (aa (ai aB (ac 0) (dC (.int 3))) (aa (ai aB (ac 0) (dC (.int 1))) af)))) (ac 1)))
def tQ(ad:Ad)(EE:DX):au:=
 (ah (ar (ai eX (ai aB (ac 0) (dC (.int 2))) (ac 1)) (gT (ac 0) (dC (.int 2))))
  (ax (ac 3)))
def ue(ad:Ad)(EE:DX):au:=
 (ah (ar (ai dY (ai aB (ac 0) (dC (.int 2))) (ac 1)) (ag 3))
  (tQ ad EE))
def sB(ad:Ad)(EE:DX):au:=
 (ah (aS (am (ai cu (ai aB (ac 0) (dC (.int 2))) (dC (.int 0)))) (u_ ad EE) aE)
  (ue ad EE))
def uo(ad:Ad)(EE:DX):au:=
 (ah (aS (ip (am (ai cu (ai aB (ac 0) (dC (.int 2))) (dC (.int 0)))) (am (ai kA (ai aB (ac 0) (dC (.int 0))) (ap (bJ af))))) (rJ ad EE) aE)
  (sB ad EE))
def rQ(ad:Ad)(EE:DX):au:=
 (ah (ar (ai bE (ai aB (ac 0) (dC (.int 1))) (dC (.int 1))) (gT (ac 0) (dC (.int 1))))
  (uo ad EE))
def dB(ad:Ad):Sd:=aJ ["pot","many","cell","found"] (rQ ad)
theorem G1{ad:Ad}{n:Nat}{x0 x1:D}{M:Mem}{Q:DK}{E:DX}:dB ad [x0,x1] M Q E=rQ ad (ay E) { nx:=fun _ M'=>drp Q .non M',rt:=drp Q } [some x0,some x1,none,none] M:=rfl
def uL(ad:Ad)(S_q13:Sd)(EE:DX):au:=
 (ax (o0 (bQ cy (aa (ac 0) (aa (dC (.ty "bool")) af))) (ai cu (ac 0) (ac 1))))
def uz(ad:Ad)(S_q13:Sd)(EE:DX):au:=
 (ax (o0 (bQ cy (aa (ac 0) (aa (dC (.ty "int")) af))) (o0 (CJ (bQ cy (aa (ac 0) (aa (dC (.ty "bool")) af)))) (ai cu (ac 0) (ac 1)))))
def t9(ad:Ad)(S_q13:Sd)(EE:DX):au:=
 (ax (o0 (bQ cy (aa (ac 0) (aa (dC (.ty "str")) af))) (ai cu (ac 0) (ac 1))))
def uN(ad:Ad)(S_q13:Sd)(EE:DX):au:=
 (ax (bQ Ev (aa (ap (aV (Gw (aa (ac 0) (aa (ac 1) af))) ["one","other"] [] (oS 2 (cO (ag 0) (cO (ag 1) o8))) dw (ap (ak S_q13 pQ 2 (aa (ac 0) (aa (ac 1) af)))))) af)))
def uM(ad:Ad)(S_q13:Sd)(EE:DX):au:=
 (ah (aS (am (ai kA (bQ cV (aa (ac 0) af)) (bQ cV (aa (ac 1) af)))) (ax (dC (.bl false))) aE)
  (uN ad S_q13 EE))
def t8(ad:Ad)(S_q13:Sd)(EE:DX):au:=
 (ah (aS (Dd (am (ai kA (bQ cy (aa (ac 1) (aa (dC (.ty "tuple")) af))) (bQ cy (aa (ac 0) (aa (dC (.ty "tuple")) af))))) (am (ai kA (bQ cy (aa (ac 1) (aa (dC (.ty "list")) af))) (bQ cy (aa (ac 0) (aa (dC (.ty "list")) af)))))) (ax (dC (.bl false))) aE)
  (uM ad S_q13 EE))
def sk(ad:Ad)(S_q13:Sd)(EE:DX):au:=
 (ah (aS (fD (bQ cy (aa (ac 1) (aa (dC (.ty "str")) af)))) (t9 ad S_q13 EE) aE)
  (t8 ad S_q13 EE))
def uF(ad:Ad)(S_q13:Sd)(EE:DX):au:=
 (ah (aS (fD (bQ cy (aa (ac 1) (aa (dC (.ty "int")) af)))) (uz ad S_q13 EE) aE)
  (sk ad S_q13 EE))
def uc(ad:Ad)(S_q13:Sd)(EE:DX):au:=
 (ah (aS (fD (bQ cy (aa (ac 1) (aa (dC (.ty "bool")) af)))) (uL ad S_q13 EE) aE)
  (uF ad S_q13 EE))
def gg(ad:Ad)(S_q13:Sd)(EE:DX):au:=
 (ah (aS (am (ai iq (ac 1) (dC .non))) (ax (ai iq (ac 0) (dC .non))) aE)
  (uc ad S_q13 EE))
def S_q13(ad:Ad):Nat->Sd
 |0=>fun _ _ _ _=>False
 |n+1=>aJ ["found","due"] (gg ad (S_q13 ad n))
theorem lK{ad:Ad}{n:Nat}{x0 x1:D}{M:Mem}{Q:DK}{E:DX}:S_q13 ad (n+1) [x0,x1] M Q E=gg ad (S_q13 ad n) (ay E) { nx:=fun _ M'=>drp Q .non M',rt:=drp Q } [some x0,some x1] M:=rfl
def eI(ad:Ad)(EE:DX):au:=
 (ar (ap (ai bE (ac 5) (ap (bJ (aa (aR (aa (dC (.str "take")) (aa (dC (.str "t")) (aa (kC "list" oF (ac 4) (aa (ap (ak (dB ad) EE 2 (aa (ac 1) (aa (bQ cV (aa (ac 4) af)) af)))) af)) af)))) (aa (aR (aa (dC (.str "sum")) (aa (dC (.str "s")) (aa (dC (.str "s")) (aa (dC (.str "t")) af))))) af)))))) (ag 5))
def mH(ad:Ad)(EE:DX):au:=
 (ar (ap (ai bE (ac 5) (ap (bJ (aa (aR (aa (dC (.str "put")) (aa (dC (.str "k")) (aa (ac 6) af)))) (aa (aR (aa (dC (.str "less")) (aa (dC (.str "mark")) (aa (dC (.str "s")) (aa (dC (.str "k")) af))))) (aa (aR (aa (dC (.str "same")) (aa (dC (.str "mark")) (aa (dC (.str "mark")) (aa (dC (.str "zero")) af))))) af))))))) (ag 5))
def iP(ad:Ad)(EE:DX):au:=
 (ar (ap (ai bE (ac 5) (ap (bJ (aa (aR (aa (dC (.str "put")) (aa (dC (.str "k")) (aa (ac 2) af)))) (aa (aR (aa (dC (.str "same")) (aa (dC (.str "mark")) (aa (dC (.str "s")) (aa (dC (.str "k")) af))))) af)))))) (ag 5))
def mw(ad:Ad)(EE:DX):au:=
 (ar (ap (ai bE (ac 5) (ap (bJ (aa (aR (aa (dC (.str "put")) (aa (dC (.str "k")) (aa (dC (.int 1)) af)))) (aa (aR (aa (dC (.str "same")) (aa (dC (.str "t")) (aa (dC (.str "s")) (aa (dC (.str "k")) af))))) (aa (aR (aa (dC (.str "sum")) (aa (dC (.str "mark")) (aa (dC (.str "mark")) (aa (dC (.str "t")) af))))) af))))))) (ag 5))
def g9(ad:Ad)(EE:DX):au:=
 (ax (ak (S_q13 ad 24) EE 2 (aa (ap (qY (nW ad) EE 2 (500) (aa (ac 10) af))) (aa (ap (aV (jt (aa (ac 2) af)) ["k"] [2] (ag 0) dw (aR (aa (ac 0) (aa (aR (aa (dC (.int 1)) (aa (ac 1) af))) af))))) af))))
def iC(ad:Ad)(EE:DX):au:=
 (ah (ar (aR (aa (ac 8) (aa (aR (aa (ac 9) (aa (ai cZ (aR (aa (dC (.int 0)) af)) (ac 2)) af))) (aa (aR (aa (ac 9) (aa (ai cZ (aR (aa (dC (.int 1)) af)) (ac 2)) af))) (aa (dC (.int 40)) af))))) (ag 10))
  (g9 ad EE))
def iQ(ad:Ad)(EE:DX):au:=
 (ah (ar (aR (aa (dC (.int 0)) (aa (ap (ak (dB ad) EE 2 (aa (ac 1) (aa (ac 3) af)))) (aa (dC (.int 0)) (aa (ap (ak (dB ad) EE 2 (aa (ac 1) (aa (ac 3) af)))) (aa (ap (ak (dB ad) EE 2 (aa (ac 1) (aa (ac 3) af)))) af)))))) (ag 9))
  (iC ad EE))
def gb(ad:Ad)(EE:DX):au:=
 (ah (ar (aR (aa (ac 3) (aa (aR (aa (dC (.str "s")) (aa (dC (.str "mark")) (aa (dC (.str "zero")) (aa (dC (.str "t")) (aa (dC (.str "k")) af)))))) (aa (ac 2) (aa (bQ k6 (aa (ac 5) af)) (aa (dC (.str "mark")) af)))))) (ag 8))
  (iQ ad EE))
def nF(ad:Ad)(EE:DX):au:=
 (ah (aS (ip (am (ai cu (ac 7) (dC (.int 2)))) (am (ai vA (ac 2) (dC (.int 2))))) (mw ad EE) aE)
  (gb ad EE))
def jn(ad:Ad)(EE:DX):au:=
 (ah (aS (am (ai vA (ac 7) (dC (.int 0)))) (iP ad EE) aE)
  (nF ad EE))
def fI(ad:Ad)(EE:DX):au:=
 (ah (aS (am (ai cu (ac 7) (dC (.int 0)))) (mH ad EE) aE)
  (jn ad EE))
def jY(ad:Ad)(EE:DX):au:=
 (ah (ar (ap (ak (dB ad) EE 2 (aa (ac 1) (aa (dC (.int 3)) af)))) (ag 7))
  (fI ad EE))
def fX(ad:Ad)(EE:DX):au:=
 (ah (ar (ai bE (dC (.int 1)) (ap (ak (dB ad) EE 2 (aa (ac 1) (aa (ac 2) af))))) (ag 6))
  (jY ad EE))
def j_(ad:Ad)(EE:DX):au:=
 (ah (cE (am (ai kA (ac 4) (ap (bJ af)))) (eI ad EE))
  (fX ad EE))
def jF(ad:Ad)(EE:DX):au:=
 (ah (ar (ap (bJ af)) (ag 5))
  (j_ ad EE))
def jv(ad:Ad)(EE:DX):au:=
 (ah (ar (fS (aa (ac 2) af)) (ag 4))
  (jF ad EE))
def km(ad:Ad)(EE:DX):au:=
 (ah (ar (ap (ai bE (ai bE (ac 2) (dC (.int 2))) (ap (ak (dB ad) EE 2 (aa (ac 1) (aa (ai kO (ai kO (dC (.int 997)) (ac 2)) (dC (.int 1))) af)))))) (ag 3))
  (jv ad EE))
def jq(ad:Ad)(EE:DX):au:=
 (ah (ar (ai bE (dC (.int 2)) (ap (ak (dB ad) EE 2 (aa (ac 1) (aa (dC (.int 5)) af))))) (ag 2))
  (km ad EE))
def sU(ad:Ad)(EE:DX):au:=
 (ah (ar (ak (uS ad) EE 1 (aa (ac 0) af)) (ag 1))
  (jq ad EE))
def xz(ad:Ad):Sd:=aJ ["script","pot","many","m","left","rows","bound","way","plan","numbers","case"] (sU ad)
theorem HU{ad:Ad}{n:Nat}{x0:D}{M:Mem}{Q:DK}{E:DX}:xz ad [x0] M Q E=sU ad (ay E) { nx:=fun _ M'=>drp Q .non M',rt:=drp Q } [some x0,none,none,none,none,none,none,none,none,none,none] M:=rfl
end Tw
namespace Tw
open PySem L2 L3
set_option genInjectivity false in
structure En(P:Program)(w:World)(K:W.Frag)(mg:Str->Option Value)(base:Heap)(ad:Ad):Prop where
 u0:Cls K ad.C_Ends
 u1:mg "Ends"=some (.ref ad.C_Ends)
 u2:Cls K ad.C_Going
 u3:mg "Going"=some (.ref ad.C_Going)
 u4:Cls K ad.C_Outcome
 u5:mg "Outcome"=some (.ref ad.C_Outcome)
 u6:Cls K ad.C_Walk
 u7:mg "Walk"=some (.ref ad.C_Walk)
 u8:NoAttr K ad.C_Ends "count"
 u9:NoAttr K ad.C_Ends "limit"
 u10:NoAttr K ad.C_Going "left"
 u11:NoAttr K ad.C_Going "numbers"
 u12:NoAttr K ad.C_Going "pieces"
 u13:NoAttr K ad.C_Going "todo"
 u14:NoAttr K ad.C_Going "unsettled"
 u15:NoAttr K ad.C_Outcome "faulty"
 u16:NoAttr K ad.C_Outcome "sound"
 u17:NoAttr K ad.C_Outcome "verdict"
 u18:NoAttr K ad.C_Walk "most"
 u19:NoAttr K ad.C_Walk "numbers"
 u20:NoAttr K ad.C_Walk "pieces"
 u21:NoAttr K ad.C_Walk "plan"
 u22:NoAttr K ad.C_Walk "steps"
 u23:ExcAt K ad.C_Dry
 u24:mg "Dry"=some (.ref ad.C_Dry)
 u25:ExcAt K ad.C_NoCase
 u26:mg "NoCase"=some (.ref ad.C_NoCase)
 u27:ExcAt K ad.C_TooMany
 u28:mg "TooMany"=some (.ref ad.C_TooMany)
 u29:mg "all"=none
 u30:mg "bool"=none
 u31:mg "dict"=none
 u32:mg "enumerate"=none
 u33:mg "int"=none
 u34:mg "isinstance"=none
 u35:mg "len"=none
 u36:mg "list"=none
 u37:mg "range"=none
 u38:mg "reversed"=none
 u39:mg "str"=none
 u40:mg "sum"=none
 u41:mg "tuple"=none
 u42:mg "zip"=none
 f1:GI K ad.C_Walk "__init__" "Walk.__init__" G7 ad.a1 ad.d1 ["self","plan","stand","most"]
 f2:GM K ad.C_Walk "note_step" "Walk.note_step" HX ad.a2 ad.d2 ["self","place","number"]
 f3:GM K ad.C_Walk "look" "Walk.look" C3 ad.a3 ad.d3 ["self","place","name"]
 f4:GF K mg "run" Ce ad.a4 ad.d4 ["plan","stand","most"]
 f5:GF K mg "mark" Ck ad.a5 ad.d5 ["plan","stand","most"]
 f6:GF K mg "do_rows" Cb ad.a6 ad.d6 ["walk","rows","place"]
 f7:GA K mg "do_row_runs" "do_row" Co ad.a7 ad.d7 ["walk","row","place"]
 f8:GF K mg "do_if" Cq ad.a8 ad.d8 ["walk","row","place"]
 f9:GF K mg "do_again" CC ad.a9 ad.d9 ["walk","row","place"]
 f10:GF K mg "number_of" CB ad.a10 ad.d10 ["plan","numbers","pieces","row"]
 f11:GF K mg "piece_read" CI ad.a11 ad.d11 ["plan","numbers","row"]
 f12:GF K mg "joined" C9 ad.a12 ad.d12 ["word","y","z","wheel"]
 f13:GF K mg "all_things" Cs ad.a13 ad.d13 ["plan"]
 f14:GF K mg "in_order" BR ad.a14 ad.d14 ["plan","things"]
 f15:GF K mg "number_in" CM ad.a15 ad.d15 ["plan","stand","thing"]
 f16:GF K mg "names_read" CH ad.a16 ad.d16 ["row"]
 f17:GF K mg "unlike" BP ad.a17 ad.d17 ["plan","one","other"]
 f18:GF K mg "marks" BY ad.a18 ad.d18 ["case"]
 f19:GF K mg "unlike_of" Cp ad.a19 ad.d19 ["case"]
 f20:GF K mg "verdict_of" BK ad.a20 ad.d20 ["two","one"]
 f21:GI K ad.C_Going "__init__" "Going.__init__" HN ad.a21 ad.d21 ["self","numbers","pieces","unsettled","todo","left"]
 f22:GM K ad.C_Going "settled" "Going.settled" Il ad.a22 ad.d22 ["self","thing","number"]
 f23:GI K ad.C_Ends "__init__" "Ends.__init__" GP ad.a23 ad.d23 ["self","limit"]
 f24:GM K ad.C_Ends "one_more" "Ends.one_more" GZ ad.a24 ad.d24 ["self"]
 f25:GF K mg "start" C6 ad.a25 ad.d25 ["case"]
 f26:GF K mg "put_ahead" BZ ad.a26 ad.d26 ["rows","todo"]
 f27:GF K mg "go_on" BU ad.a27 ad.d27 ["plan","going"]
 f28:GF K mg "asked_by" C7 ad.a28 ad.d28 ["plan","going","row"]
 f29:GA K mg "do_row_trees" "do_row" G_ ad.a29 ad.d29 ["plan","going","row"]
 f30:GF K mg "mark_of" C1 ad.a30 ad.d30 ["plan","going"]
 f31:GF K mg "both_ways" C2 ad.a31 ad.d31 ["case","going","thing"]
 f32:GV K mg "tree" Cj ad.a32 ad.d32 ["case","limit"] (500)
 f33:GF K mg "grown" BM ad.a33 ad.d33 ["case","going","ends"]
 f34:GI K ad.C_Outcome "__init__" "Outcome.__init__" Hn ad.a34 ad.d34 ["self","verdict","sound","faulty"]
 f35:GF K mg "outcomes" BQ ad.a35 ad.d35 ["case","limit"]
 f36:GF K mg "numbers_of" BX ad.a36 ad.d36 ["bits"]
 f37:GV K mg "shares" CL ad.a37 ad.d37 ["case","limit"] (500)
 f38:GF K mg "mean_of" CN ad.a38 ad.d38 ["cases","limit"]
 f39:GF K mg "orders_of" BS ad.a39 ad.d39 ["case","limit"]
 f40:GF K mg "orders_up_to" G6 ad.a40 ad.d40 ["count"]
 f41:GF K mg "in_lowest_terms" HG ad.a41 ad.d41 ["n","d"]
 f42:GF K mg "_law_stirred" BJ ad.a42 ad.d42 ["cell","turn"]
 f43:GF K mg "_law_pot" BI ad.a43 ad.d43 ["script"]
 f44:GF K mg "_law_draw" BL ad.a44 ad.d44 ["pot","many"]
 f45:GF K mg "_law_alike" Ci ad.a45 ad.d45 ["found","due"]
 f46:GF K mg "law" gX ad.a46 ad.d46 ["script"]
section
section
variable {X:Cx}{B:Bd}{a b c o e:Expr}{es:List Expr}{ta tb tc to:aZ}{t:dm}{i:Nat}{x:Str}{pos p apos cpos:Pos}(hU:X.A.units+64<cLine)(hu:X.A.units+1<cLine)(hg:X.A.guards=some [])(hc:X.calm=true)(ha:DE X B a ta)(hb:DE X B b tb)(hd:DE X B c tc)
def v0:=dN (pos:=pos) A3 ha hb
def v1:=dN (pos:=pos) zu ha hb
def v2:=dN (pos:=pos) AU ha hb
def v3:=dN (pos:=pos) z_ ha hb
def v4:=dN (pos:=pos) EI ha hb
def v5:=dN (pos:=pos) Aa ha hb
def v6:=dN (pos:=pos) zU ha hb
def v7:=dN (pos:=pos) wz ha hb
def v8:=dN (pos:=pos) B6 ha hb
def v9:=dN (pos:=pos) Al ha hb
def v10:=dN (pos:=pos) Bi ha hb
def v11:=wU (pos:=pos) tF ha hb
def v12:=wU (pos:=pos) (wZ hU) ha hb
def v13:=eM (X:=X) (B:=B) (p:=p) (pos:=pos) (e:=e) (es:=es) (t:=t) vm Bb
def v14:=dr (X:=X) (B:=B) (p:=p) (pos:=pos) (e:=e) (es:=es) (t:=t) oP lN
def v15:=dr (X:=X) (B:=B) (p:=p) (pos:=pos) (e:=e) (es:=es) (t:=t) qL jJ
def v16:=dr (X:=X) (B:=B) (p:=p) (pos:=pos) (e:=e) (es:=es) (t:=t) (o_ hc) pi
def v17:=eM (X:=X) (B:=B) (p:=p) (pos:=pos) (e:=e) (es:=es) (t:=t) mE jN
def v18:=dr (X:=X) (B:=B) (p:=p) (pos:=pos) (e:=e) (es:=es) (t:=t) oM pi
def v19:=eM (X:=X) (B:=B) (p:=p) (pos:=pos) (e:=e) (es:=es) (t:=t) (vi hc) BE
def v20:=eM (X:=X) (B:=B) (p:=p) (pos:=pos) (e:=e) (es:=es) (t:=t) (wg hc) BC
def v21:=jx (X:=X) (B:=B) (pos:=pos) zE
def v22:=jx (X:=X) (B:=B) (pos:=pos) xj
def v23:=jx (X:=X) (B:=B) (pos:=pos) B4
def v24:=jx (X:=X) (B:=B) (pos:=pos) lN
def v25:=jx (X:=X) (B:=B) (pos:=pos) jJ
def v26:=wG (X:=X) (B:=B) (apos:=apos) (cpos:=cpos) (o:=o) (e:=e) (es:=es) (t:=t) (to:=to) PySem.F.plainAttrs_list PySem.F.slot_list_append PySem.F.type_list_append rq
def v27:=tR (X:=X) (B:=B) (apos:=apos) (cpos:=cpos) (o:=o) (to:=to) PySem.F.plainAttrs_list PySem.F.slot_list_pop PySem.F.type_list_pop t_
def v28:=tR (X:=X) (B:=B) (apos:=apos) (cpos:=cpos) (o:=o) (to:=to) PySem.F.plainAttrs_int PySem.F.slot_int_bit_length PySem.F.type_int_bit_length p_
def v29:=wG (X:=X) (B:=B) (apos:=apos) (cpos:=cpos) (o:=o) (e:=e) (es:=es) (t:=t) (to:=to) PySem.F.plainAttrs_list PySem.F.slot_list_pop PySem.F.type_list_pop t_
def v30:=FM (X:=X) (B:=B) (apos:=apos) (cpos:=cpos) (o:=o) (e:=e) (es:=es) (to:=to) (t:=t) PySem.F.slot_tuple_index PySem.F.type_tuple_index qP
def v31:=Ac (X:=X) (B:=B) (x:=x) (pos:=pos) (e:=e) (i:=i) (te:=ta) (pos':=p) rM
def v32:=rK (X:=X) (B:=B) (pos:=pos) (tpos:=p) (o:=a) (i:=b) (e:=c) (to:=ta) (ti:=tb) (te:=tc) hu ha hb hd rM
def v33:=rK (X:=X) (B:=B) (pos:=pos) (tpos:=p) (o:=a) (i:=b) (e:=c) (to:=ta) (ti:=tb) (te:=tc) hu ha hb hd AJ
def v34:=cU (pos:=pos) DY ha hb
def v35:=cU (pos:=pos) (wZ hU) ha hb
def v36:=cU (pos:=pos) Eb ha hb
def v37:=cU (pos:=pos) yy ha hb
def v38:=cU (pos:=pos) tF ha hb
def v39:=cU (pos:=pos) (ya hU) ha hb
def v40:=cU (pos:=pos) (ES hU) ha hb
def v41:=cU (pos:=pos) Du ha hb
def v42:=cU (pos:=pos) (Bg hU) ha hb
def v43:=cU (pos:=pos) FD ha hb
end
local macro_rules | `(tactic| exists 2) => `(tactic| first
 |refine v0 ?_ ?_
 |refine v1 ?_ ?_
 |refine v2 ?_ ?_
 |refine v3 ?_ ?_
 |refine v4 ?_ ?_
 |refine v5 ?_ ?_
 |refine v6 ?_ ?_
 |refine v7 ?_ ?_
 |refine v8 ?_ ?_
 |refine v9 ?_ ?_
 |refine v10 ?_ ?_
 |refine v11 ?_ ?_ ?_
 |refine v12 ?_ ?_ ?_ ?_)
local macro_rules | `(tactic| exists 3) => `(tactic| first
 |refine v13 ?_ ?_ ?_ ?_ ?_ ?_ ?_
 |refine v14 ?_ ?_ ?_ ?_ ?_ ?_ ?_
 |refine v15 ?_ ?_ ?_ ?_ ?_ ?_ ?_
 |refine v16 ?_ ?_ ?_ ?_ ?_ ?_ ?_ ?_
 |refine v17 ?_ ?_ ?_ ?_ ?_ ?_ ?_
 |refine v18 ?_ ?_ ?_ ?_ ?_ ?_ ?_
 |refine v19 ?_ ?_ ?_ ?_ ?_ ?_ ?_ ?_
 |refine v20 ?_ ?_ ?_ ?_ ?_ ?_ ?_ ?_)
local macro_rules | `(tactic| exists 4) => `(tactic| first
 |refine v21 ?_ ?_ ?_ ?_
 |refine v22 ?_ ?_ ?_ ?_
 |refine v23 ?_ ?_ ?_ ?_
 |refine v24 ?_ ?_ ?_ ?_
 |refine v25 ?_ ?_ ?_ ?_)
local macro_rules | `(tactic| exists 5) => `(tactic| first
 |refine v26 ?_ ?_ ?_ ?_ ?_ ?_ ?_ ?_
 |refine v27 ?_ ?_ ?_ ?_
 |refine v28 ?_ ?_ ?_ ?_
 |refine v29 ?_ ?_ ?_ ?_ ?_ ?_ ?_ ?_)
local macro_rules | `(tactic| exists 8) => `(tactic| first
 |refine v34 ?_ ?_ ?_
 |refine v35 ?_ ?_ ?_ ?_
 |refine v36 ?_ ?_ ?_
 |refine v37 ?_ ?_ ?_
 |refine v38 ?_ ?_ ?_
 |refine v39 ?_ ?_ ?_ ?_
 |refine v40 ?_ ?_ ?_ ?_
 |refine v41 ?_ ?_ ?_
 |refine v42 ?_ ?_ ?_ ?_
 |refine v43 ?_ ?_ ?_)
local macro_rules | `(tactic| exists 1) => `(tactic| first
 |refine dnm _ ?_ ?_ ?_ ?_
 |exact Do
 |refine Fb ?_
 |refine GW (Dg ?_) ?_ ?_ ?_
 |exact F5
 |refine yl ?_ ?_ ?_ ?_ ?_ ?_
 |refine xQ ?_ ?_ ?_ ?_ ?_ ?_
 |(show DE _ _ _ (ai _ _ _);exists 2)
 |(show DE _ _ _ (bQ _ _);exists 3)
 |refine FN ?_
 |refine Fa ?_
 |refine EA ?_ ?_ ?_ ?_
 |refine yO ?_ ?_ ?_
 |exact G9
 |exact Ff
 |(show DE _ _ _ (dC _);exists 4)
 |(show DE _ _ _ (kC _ _ _ _);exists 5)
 |refine v30 ?_ ?_ ?_ ?_ ?_ ?_ ?_
 |refine y9 ?_ ?_ ?_
 |refine Fv ?_
 |refine DU ?_ ?_
 |refine DF ?_
 |refine FE ?_
 |refine zO ?_
 |refine qV ?_ ?_ ?_ ?_ ?_ ?_ ?_ ?_ ?_
 |refine qy ?_ ?_ ?_ ?_ ?_ ?_ ?_ ?_
 |(apply yX;focus decide)
 |apply yu
 |refine A8 ?_ ?_ ?_
 |refine B3 ?_ ?_ ?_ ?_
 |apply wH
 |apply vX
 |apply yK)
local macro_rules | `(tactic| exists 7) => `(tactic| first
 |(show DT _ _ _ (am _);exists 8)
 |refine EO ?_
 |refine F8 ?_ ?_
 |refine Iu ?_)
local macro_rules | `(tactic| exists 6) => `(tactic| first
 |refine HF ?_ ?_ ?_
 |refine Ee ?_ ?_ ?_ ?_ ?_ ?_
 |refine Dx ?_ ?_ ?_ ?_ ?_
 |refine Dj ?_
 |refine zW ?_ ?_
 |refine Fe ?_ ?_ ?_ ?_ ?_
 |refine vF ?_ ?_ ?_ ?_
 |refine vS ?_ ?_ ?_ ?_
 |refine Ej ?_ ?_ ?_ ?_ ?_ ?_
 |refine yB ?_ ?_ ?_
 |refine yS ?_ ?_ ?_ ?_ ?_ ?_
 |refine DZ ?_ ?_
 |refine v31 ?_ ?_ ?_ ?_ ?_
 |refine v32 ?_ ?_ ?_ ?_ ?_
 |refine v33 ?_ ?_ ?_ ?_ ?_
 |apply xy
 |apply B0)
local macro_rules | `(tactic| exists 9) => `(tactic| first
 |refine dg ?_ ?_
 |refine eB ?_
 |exact Bt
 |refine zP ?_
 |refine Dn ?_
 |refine Fy ?_ ?_
 |refine Ie ?_ ?_
 |exact zG
 |refine Bc ?_
 |refine Az ?_ ?_ ?_ ?_
 |refine E5 ?_ ?_ ?_ ?_
 |refine Ex ?_ ?_ ?_ ?_
 |refine yd ?_ ?_ ?_
 |exact B8
 |refine Ai ?_ ?_ ?_ ?_
 |refine w6 ?_ ?_ ?_ ?_
 |refine F2 ?_ ?_ ?_ ?_ ?_
 |refine DB ?_ ?_ ?_ ?_
 |refine Fx ?_
 |apply FC.nil
 |apply FC.cons
 |exact Bh
 |refine B7 ?_)
local macro_rules | `(tactic| exists 0) => `(tactic| first
 |exact Or.inl rfl
 |exact ⟨_,_,_,_,_,_,_,by assumption,by assumption,Room.mono (by assumption) (by first|decide|lia),wP,by assumption⟩
 |exact ⟨_,_,_,_,_,_,_,by first|exact .g (by assumption)|exact .a (by assumption)|exact .v (by assumption),by assumption,Room.mono (by assumption) (by first|decide|lia),wP,by assumption⟩
 |exact ⟨_,_,_,_,_,_,_,by first|exact .g (by assumption)|exact .a (by assumption)|exact .v (by assumption),by assumption,Room.mono (by assumption) (by first|decide|lia),wK,uxN⟩
 |assumption
 |exact Room.mono (by assumption) (by first|decide|lia)
 |with_reducible exact wP
 |with_reducible exact wK
 |with_reducible exact uxN
 |exact FnScope.nd (by assumption)
 |(apply nomark;decide)
 |(apply nodC;decide)
 |(apply Hf;decide)
 |exact PassesOwn.leaving
 |exact fun _ _=>rfl
 |exact Or.inr (Or.inl rfl)
 |exact Or.inr rfl
 |exact Or.inr (Or.inr rfl)
 |rfl
 |exact fun _=>rfl
 |decide
 |exact fun _ _ _=>rfl
 |exact ⟨rfl,rfl,rfl,rfl⟩
 |with_reducible intro _)
local macro_rules | `(tactic| trivial) => `(tactic| first
 |eq_refl
 |(with_reducible first
 |(show DE _ _ _ _;exists 1)
 |refine da_c ?_ ?_ ?_
 |exact DQ
 |(show DT _ _ _ _;exists 7)
 |(show DS _ _ _ _;exists 6)
 |exists 9)
 |exists 0)
set_option hygiene false in
local macro_rules | `(tactic| exists $t:ident, $g) => `(tactic| exact fnS rfl ($g).F ($g).b ⟨rfl, rfl, rfl, by decide +kernel, rfl, by decide +kernel, by decide +kernel⟩ fun hS _ A _ s _ _ _ _ hr ux => (by have hU := hr.units; have hu := n_ hr; have hg := hr.gd; have E2 := E; cases E2; unfold $t:ident; (first | refine dg ?_ ?_ | refine eB ?_); repeat' trivial))
set_option hygiene false in
local macro_rules | `(tactic| exists $t:ident, $g, $[$ps:ident],*) => `(tactic| exact fnS rfl ($g).F ($g).b ⟨rfl, rfl, rfl, by decide +kernel, rfl, by decide +kernel, by decide +kernel⟩ fun hS _ A _ s _ _ _ _ hr ux => (by have hU := hr.units; have hu := n_ hr; have hg := hr.gd; have E2 := E; cases E2; unfold $t:ident $[$ps:ident]*; (first | refine dg ?_ ?_ | refine eB ?_); repeat' trivial))
set_option hygiene false in
local macro_rules | `(tactic| exists ($k), $t:ident, $g, $[$ps:ident],*) => `(tactic| exact fnS (k := $k) rfl ($g).F ($g).b ⟨rfl, rfl, rfl, by decide +kernel, rfl, by decide +kernel, by decide +kernel⟩ fun hS _ A _ s _ _ _ _ hr ux => (by have hU := hr.units; have hu := n_ hr; have hg := hr.gd; have E2 := E; cases E2; unfold $t:ident $[$ps:ident]*; (first | refine dg ?_ ?_ | refine eB ?_); repeat' trivial))
variable {P:Program}{w:World}{K:W.Frag}{mg:Str->Option Value}{base:Heap}{ad:Ad}(E:En P w K mg base ad)
include E
theorem HR:cN P w mg base E.f1.F E.f1.b 1 (zL ad):=by
 exists AS,E.f1,yw,xq,yD
theorem CF:cN P w mg base E.f2.F E.f2.b 1 (ra ad):=by
 exists zJ,E.f2,y_
theorem E9:cN P w mg base E.f3.F E.f3.b 2 (lg ad):=by
 have:=CF E
 exists sh,E.f3,rY
theorem FI:cN P w mg base E.f12.F E.f12.b 1 (uj ad):=by
 exists uA,E.f12,um,r_,uB,uI,uO
theorem yv:cN P w mg base E.f11.F E.f11.b 1 (jw ad):=by
 exists fQ,E.f11,so,uC
theorem xP:cN P w mg base E.f10.F E.f10.b 2 (jo ad):=by
 have:=FI E;have:=yv E
 exists dG,E.f10,rW,tG,tw
theorem oi:∀n:Nat,cN P w mg base E.f6.F E.f6.b (2+n) (S_q33 ad n)/\cN P w mg base E.f7.F E.f7.b (2+n) (S_q11 ad n)/\cN P w mg base E.f8.F E.f8.b (2+n) (S_q37 ad n)/\cN P w mg base E.f9.F E.f9.b (2+n) (S_q26 ad n):=by
 have:=E9 E;have:=CF E;have:=xP E;intro n
 induction n with
 |zero=>exact ⟨gB,gB,gB,gB⟩
 |succ n ih=>
  obtain ⟨_,_,_,_⟩:=ih;refine ⟨?_,?_,?_,?_⟩
  ·exists (2+n),rZ,E.f6,rE
  ·exists (2+n),fK,E.f7,tP,sX,sy,tO,rV,sY
  ·exists (2+n),uK,E.f8,sQ
  ·exists (2+n),sm,E.f9,uT,tD
theorem EK:cN P w mg base E.f4.F E.f4.b 27 (nV ad):=by
 have:=HR E;obtain ⟨_,_,_,_⟩:=oi E 24
 exists tI,E.f4,sJ,uV
theorem FG:cN P w mg base E.f5.F E.f5.b 28 (kQ ad):=by
 have:=EK E
 exists sM,E.f5,uH,rH
theorem xg:cN P w mg base E.f13.F E.f13.b 1 (pb ad):=by
 exists uu,E.f13
theorem Da:cN P w mg base E.f14.F E.f14.b 2 (uZ ad):=by
 have:=xg E
 exists uy,E.f14,iI
theorem z0:cN P w mg base E.f15.F E.f15.b 1 (h9 ad):=by
 exists o4,E.f15,sv
theorem Ey:cN P w mg base E.f16.F E.f16.b 1 (uY ad):=by
 exists g8,E.f16,rF,sH
theorem FK:cN P w mg base E.f17.F E.f17.b 2 (sL ad):=by
 have:=xg E;have:=z0 E
 exists tS,E.f17
theorem yr:cN P w mg base E.f18.F E.f18.b 29 (ot ad):=by
 have:=FG E
 exists tM,E.f18,nG,jh,nI
theorem ni:cN P w mg base E.f19.F E.f19.b 3 (h7 ad):=by
 have:=FK E
 exists si,E.f19
theorem FO:cN P w mg base E.f20.F E.f20.b 1 (sw ad):=by
 exists pC,E.f20,rL
theorem CD:cN P w mg base E.f21.F E.f21.b 1 (y6 ad):=by
 exists zV,E.f21,x8,yx,xU
theorem GB:cN P w mg base E.f22.F E.f22.b 3 (vC ad):=by
 have:=CD E
 exists AL,E.f22,l_,mj,pU,q_
theorem Gb:cN P w mg base E.f23.F E.f23.b 1 (D9 ad):=by
 exists BF,E.f23
theorem Cc:cN P w mg base E.f24.F E.f24.b 1 (yb ad):=by
 exists AH,E.f24,qh
theorem xt:cN P w mg base E.f26.F E.f26.b 1 (jU ad):=by
 exists s_,E.f26,ng
theorem Dp:cN P w mg base E.f25.F E.f25.b 4 (tu ad):=by
 have:=CD E;have:=xt E;have:=ni E
 exists tE,E.f25,nK,iG,j5
theorem Dq:cN P w mg base E.f28.F E.f28.b 3 (tm ad):=by
 have:=Da E;have:=Ey E;have:=yv E
 exists sK,E.f28,iR,iD,jb,ms,mU
theorem FY:cN P w mg base E.f29.F E.f29.b 3 (zT ad):=by
 have:=xP E;have:=xt E
 exists A7,E.f29,qt,nc,qz,gD,qG,y1,xJ,zk
theorem E1:cN P w mg base E.f27.F E.f27.b 4 (sD ad):=by
 have:=Dq E;have:=FY E
 exists tV,E.f27,nA,eF,iY,mY,iW,mW
theorem Ez:cN P w mg base E.f30.F E.f30.b 1 (rP ad):=by
 exists uk,E.f30
theorem CY:cN P w mg base E.f31.F E.f31.b 4 (uG ad):=by
 have:=GB E;have:=z0 E
 exists tX,E.f31
theorem vy:∀n:Nat,cN P w mg base E.f33.F E.f33.b (4+n) (S_q41 ad n):=by
 have:=Cc E;have:=CY E;have:=E1 E;have:=Ez E;intro n
 induction n with
 |zero=>exact gB
 |succ n ih=>
  exists (4+n),uh,E.f33,jg,iM,j9,ja,mP
theorem DM:OkV P w mg base E.f32.F E.f32.b 30 (tq ad):=by
 have:=Gb E;have:=Cc E;have:=vy E 24;have:=yr E;have:=Dp E;exact GL rfl E.f32.F E.f32.b ⟨rfl,rfl,rfl,by decide +kernel,rfl,by decide +kernel,by decide +kernel⟩ fun hS _ A _ s _ _ _ _ hr ux=>(by have hU:=hr.units;have hu:=n_ hr;have hg:=hr.gd;have E2:=E;cases E2;unfold tj mC iT lX;(first|refine dg ?_ ?_|refine eB ?_);repeat' trivial)
theorem Ha:cN P w mg base E.f34.F E.f34.b 1 (AT ad):=by
 exists zX,E.f34,y8
theorem Ep:cN P w mg base E.f35.F E.f35.b 31 (rG ad):=by
 have:=Ha E;have:=yr E;have:=DM E;have:=ni E;have:=FO E
 exists tZ,E.f35,fL,fF,mF,eG,j8,nO,iw,mx,nB,nu,lZ
theorem CZ:cN P w mg base E.f36.F E.f36.b 1 (oz ad):=by
 exists sG,E.f36
theorem GK:cN P w mg base E.f41.F E.f41.b 1 (Bf ad):=by
 exists AY,E.f41,rC,rg,qu,jP,rD
theorem CA:cN P w mg base E.f40.F E.f40.b 1 (yz ad):=by
 exists zD,E.f40,qj,rf
theorem Eo:cN P w mg base E.f39.F E.f39.b 32 (o9 ad):=by
 have:=CZ E;have:=CA E;have:=Ep E;have:=ni E
 exists rO,E.f39,fM,jd,iB,j6,eK,iX,iO,iF,mG,m8
theorem Fd:cN P w mg base E.f38.F E.f38.b 33 (uf ad):=by
 have:=GK E;have:=Eo E;have:=CA E;have:=ni E
 exists sI,E.f38,jf,ji,je,iE,m4
theorem Fk:OkV P w mg base E.f37.F E.f37.b 34 (nW ad):=by
 have:=Fd E;exact GL rfl E.f37.F E.f37.b ⟨rfl,rfl,rfl,by decide +kernel,rfl,by decide +kernel,by decide +kernel⟩ fun hS _ A _ s _ _ _ _ hr ux=>(by have hU:=hr.units;have hu:=n_ hr;have hg:=hr.gd;have E2:=E;cases E2;unfold su;(first|refine dg ?_ ?_|refine eB ?_);repeat' trivial)
theorem Ec:cN P w mg base E.f42.F E.f42.b 1 (jO ad):=by
 exists uX,E.f42,sR
theorem Fp:cN P w mg base E.f43.F E.f43.b 1 (uS ad):=by
 exists ut,E.f43,sC,tL,uw
theorem El:cN P w mg base E.f44.F E.f44.b 2 (dB ad):=by
 have:=Ec E
 exists rQ,E.f44,uo,sB,ue,tQ,u_,rJ,sV,ug
theorem jS:∀n:Nat,cN P w mg base E.f45.F E.f45.b (0+n) (S_q13 ad n):=by
 intro n
 induction n with
 |zero=>exact gB
 |succ n ih=>
  exists (0+n),gg,E.f45,uc,uF,sk,t8,uM,uN,t9,uz,uL
theorem Fc:cN P w mg base E.f46.F E.f46.b 35 (xz ad):=by
 have:=jS E 24;have:=El E;have:=Fp E;have:=Fk E
 exists sU,E.f46,jq,km,jv,jF,j_,fX,jY,fI,jn,nF,gb,iQ,iC,g9,mw,iP,mH,eI
end
end Tw
namespace L3
open PySem L2
theorem aG{T:Sd}{EE:DX}{ds:List D}{M:Mem}{Q:DK}{b:BxQ EE Q}{d:D}(hm:∀Q' E',Q' d M->T ds M Q' E')(h:Q d M):calls T EE ds M Q b:=
 ao fun Q' E' hq _=>hm Q' E' (hq d M h)
theorem bR{α:Type}{xs:List α}{i:Int}(h:0<=i):atI xs i=xs[i.toNat]?:=by
 unfold atI nP;rw [if_pos h]
 by_cases hi:i<xs.length
 ·rw [if_pos hi];rfl
 ·rw [if_neg hi,List.getElem?_eq_none (by lia)];rfl
@[simp] theorem atI_0 {α:Type} {xs:List α}:atI xs 0=xs[0]?:=bR (by decide)
@[simp] theorem atI_1 {α:Type} {xs:List α}:atI xs 1=xs[1]?:=bR (by decide)
@[simp] theorem atI_2 {α:Type} {xs:List α}:atI xs 2=xs[2]?:=bR (by decide)
@[simp] theorem atI_3 {α:Type} {xs:List α}:atI xs 3=xs[3]?:=bR (by decide)
@[simp] theorem atI_4 {α:Type} {xs:List α}:atI xs 4=xs[4]?:=bR (by decide)
theorem cY{g:ii}{tb:au}{DD:DEnds}{ok:Mem->Prop}{b:BxF g tb DD ok}(I:List D->Dl->Mem->Prop)(hok:∀xs δ M,I xs δ M->ok M)(h0:∀δ M,I [] δ M->DD.nx δ M)
  (hs:∀x xs δ M,I (x::xs) δ M->∀D':DEnds,(∀δ' M',I xs δ' M'->D'.nx δ' M')->(∀δ' M',I xs δ' M'->D'.ct δ' M')->D'.rt=DD.rt->D'.bk=DD.nx->g x δ M fun δ2 M2=>tb D' δ2 M2):∀xs δ M,I xs δ M->fO g tb DD ok b xs δ M
 |[],δ,M,h=>⟨hok _ _ _ h,h0 δ M h⟩
 |x::xs,δ,M,h=>⟨hok _ _ _ h,hs x xs δ M h _ (fun δ' M' h'=>cY I hok h0 hs xs δ' M' h') (fun δ' M' h'=>cY I hok h0 hs xs δ' M' h') rfl rfl⟩
theorem cr{g:ii}{tt:dz}{te:aZ}{ok:Mem->Prop}{Q:List D->Mem->Prop}{b:BxC g tt te ok Q}(I:List D->List D->Dl->Mem->Prop)(hok:∀xs acc δ M,I xs acc δ M->ok M)(h0:∀acc δ M,I [] acc δ M->Q acc M)
  (hs:∀x xs acc δ M,I (x::xs) acc δ M->∀N:Bool->D->Dl->Mem->Prop,(∀y δ' M',acc.length<sizeLine->I xs (acc++[y]) δ' M'->N true y δ' M')->(∀y δ' M',I xs acc δ' M'->N false y δ' M')->g x δ M fun δ2 M2=>tt δ2 M2 fun c M3=>if c=true then te δ2 M3 fun y M4=>N true y δ2 M4 else N false .non δ2 M3)
  (hl:∀x xs acc δ M,I (x::xs) acc δ M->acc.length<sizeLine):∀xs acc δ M,I xs acc δ M->ce g tt te ok Q b xs acc δ M
 |[],acc,δ,M,h=>⟨hok _ _ _ _ h,h0 acc δ M h⟩
 |x::xs,acc,δ,M,h=>⟨hok _ _ _ _ h,hs x xs acc δ M h (fun k y δ' M'=>if k=true then acc.length<sizeLine/\ce g tt te ok Q b xs (acc++[y]) δ' M' else ce g tt te ok Q b xs acc δ' M')
   (fun y δ' M' hlen h'=>by rw [if_pos rfl];exact ⟨hlen,cr I hok h0 hs hl xs _ δ' M' h'⟩) (fun y δ' M' h'=>by rw [if_neg (by simp)];exact cr I hok h0 hs hl xs _ δ' M' h') |> fun z=>by simpa using z⟩
theorem bw{n:Nat}(h:n<=1000000):n<=sizeLine:=Nat.le_trans h (by decide)
theorem ma{n:Nat}(h:n<1000000):n<sizeLine:=Nat.lt_of_lt_of_le h (by decide)
end L3
namespace Tw
open PySem L2 L3
inductive Rw where
 |put (x:Str) (k:Int)|take (x:Str) (i:Int)|pick (x y:Str)|two (w x y z:Str)|ifr (x:Str) (a b:List Rw)|again (x:Str) (a:List Rw)
mutual
def Rw.d:Rw->D
 |.put x k=>.tup [.str "put",.str x,.int k]
 |.take x i=>.tup [.str "take",.str x,.int i]
 |.pick x y=>.tup [.str "pick",.str x,.str y]
 |.two w x y z=>.tup [.str w,.str x,.str y,.str z]
 |.ifr x a b=>.tup [.str "if",.str x,.tup (aL a),.tup (aL b)]
 |.again x a=>.tup [.str "again",.str x,.tup (aL a)]
def aL:List Rw->List D
 |[]=>[]
 |r::rs=>r.d::aL rs
end
theorem aX:∀rs:List Rw,aL rs=rs.map Rw.d
 |[]=>rfl
 |r::rs=>by rw [aL,aX rs];rfl
abbrev gH:=List (Str×Int)
def gN(n:gH)(x:Str):Option Int:=(n.find? fun p=>decide (p.1=x)).map (·.2)
def nm(n:gH)(x:Str):Int:=(gN n x).getD 0
def sN(n:gH)(x:Str)(v:Int):gH:=n.map fun p=>if p.1=x then (p.1,v) else p
def dj(n:gH):List (aw×D):=n.map fun p=>(Sum.inr p.1,D.int p.2)
theorem Cr:∀{n:gH} {x:Str},x∈n.map (·.1)->gN n x=some (nm n x)
 |[],_,h=>by simp at h
 |(y,v)::n,x,h=>by
  by_cases e:y=x
  ·simp [gN,nm,e]
  ·have:=Cr (n:=n) (x:=x) (by simpa [Ne.symm e,eq_comm,e] using h)
   simpa [gN,nm,e] using this
theorem cn:∀{n:gH} {x:Str},b_ (dj n) (Sum.inr x)=(gN n x).map D.int
 |[],x=>rfl
 |(y,v)::n,x=>by
  by_cases e:y=x
  ·simp [b_,dj,gN,e]
  ·have:=cn (n:=n) (x:=x)
   simpa [b_,dj,gN,e] using this
theorem yk:∀{n:gH} {x:Str},x∈n.map (·.1)->((dj n).any fun kv=>decide (kv.1=Sum.inr x))=true
 |[],_,h=>by simp at h
 |(y,v)::n,x,h=>by
  by_cases e:y=x
  ·simp [dj,e]
  ·have:=yk (n:=n) (x:=x) (by simpa [Ne.symm e,eq_comm,e] using h)
   simp only [dj,List.map_cons,List.any_cons,Bool.or_eq_true] at this ⊢;exact .inr this
theorem nJ{n:gH}{x:Str}{v:Int}(h:x∈n.map (·.1)):cT (dj n) (Sum.inr x) (.int v)=dj (sN n x v):=by
 unfold cT;rw [yk h,if_pos rfl];simp only [dj,sN,List.map_map];apply List.map_congr_left;intro p _
 by_cases e:p.1=x
 ·simp [e]
 ·simp [e]
theorem Bw{n:gH}{x:Str}{v:Int}:(sN n x v).map (·.1)=n.map (·.1):=by
 simp only [sN,List.map_map];apply List.map_congr_left;intro p _
 by_cases e:p.1=x<;>simp [e]
structure Cf where
 m:Int
 pieces:List Int
 most:Nat
structure Sx where
 nums:gH
 steps:List (List Int×Int)
def uE(w:Str)(y z m:Int):Int:=if w="sum" then (y+z) % m else if w="by" then y*z % m else if w="less" then (if y<z then 1 else 0) else if y=z then 1 else 0
def cm(c:Cf)(n:gH):Rw->Int
 |.put _ k=>k
 |.take _ i=>(c.pieces[i.toNat]?).getD 0
 |.pick _ y=>(c.pieces[(nm n y % (c.pieces.length:Int)).toNat]?).getD 0
 |.two w _ y z=>uE w (nm n y) (nm n z) c.m
 |_=>0
def gq:Rw->Str
 |.put x _=>x
 |.take x _=>x
 |.pick x _=>x
 |.two _ x _ _=>x
 |.ifr x _ _=>x
 |.again x _=>x
def nt(c:Cf)(pl:List Int)(v:Int)(s:Sx):Bool×Sx:=if s.steps.length<c.most then (true,⟨s.nums,s.steps++[(pl,v)]⟩) else (false,s)
def lk(n:gH)(x:Str):Int:=if nm n x=0 then 0 else 1
def g_(c:Cf)(x:Str)(pl:List Int)(body:Nat->Sx->Bool×Sx):Nat->Nat->Sx->Bool×Sx
 |0,_,s=>(false,s)
 |f+1,t,s=>if (nt c (pl++[(t:Int)]) (lk s.nums x) s).1=true then
   (if lk s.nums x=1 then
    (if (body t (nt c (pl++[(t:Int)]) (lk s.nums x) s).2).1=true then g_ c x pl body f (t+1) (body t (nt c (pl++[(t:Int)]) (lk s.nums x) s).2).2 else body t (nt c (pl++[(t:Int)]) (lk s.nums x) s).2)
   else nt c (pl++[(t:Int)]) (lk s.nums x) s)
  else nt c (pl++[(t:Int)]) (lk s.nums x) s
mutual
def kx(c:Cf):Rw->List Int->Sx->Bool×Sx
 |.ifr x a b,pl,s=>if (nt c pl (lk s.nums x) s).1=true then (if lk s.nums x=1 then cw c a (pl++[lk s.nums x]) 0 (nt c pl (lk s.nums x) s).2 else cw c b (pl++[lk s.nums x]) 0 (nt c pl (lk s.nums x) s).2) else nt c pl (lk s.nums x) s
 |.again x a,pl,s=>g_ c x pl (fun t s=>cw c a (pl++[(t:Int)]) 0 s) (c.most+1) 0 s
 |.put x k,pl,s=>if (nt c pl (cm c s.nums (.put x k)) s).1=true then (true,⟨sN s.nums x (cm c s.nums (.put x k)),(nt c pl (cm c s.nums (.put x k)) s).2.steps⟩) else nt c pl (cm c s.nums (.put x k)) s
 |.take x i,pl,s=>if (nt c pl (cm c s.nums (.take x i)) s).1=true then (true,⟨sN s.nums x (cm c s.nums (.take x i)),(nt c pl (cm c s.nums (.take x i)) s).2.steps⟩) else nt c pl (cm c s.nums (.take x i)) s
 |.pick x y,pl,s=>if (nt c pl (cm c s.nums (.pick x y)) s).1=true then (true,⟨sN s.nums x (cm c s.nums (.pick x y)),(nt c pl (cm c s.nums (.pick x y)) s).2.steps⟩) else nt c pl (cm c s.nums (.pick x y)) s
 |.two w x y z,pl,s=>if (nt c pl (cm c s.nums (.two w x y z)) s).1=true then (true,⟨sN s.nums x (cm c s.nums (.two w x y z)),(nt c pl (cm c s.nums (.two w x y z)) s).2.steps⟩) else nt c pl (cm c s.nums (.two w x y z)) s
def cw(c:Cf):List Rw->List Int->Nat->Sx->Bool×Sx
 |[],_,_,s=>(true,s)
 |r::rs,pl,j,s=>if (kx c r (pl++[(j:Int)]) s).1=true then cw c rs pl (j+1) (kx c r (pl++[(j:Int)]) s).2 else kx c r (pl++[(j:Int)]) s
end
def ib(c:Cf)(r:Rw)(pl:List Int)(s:Sx):Bool×Sx:=if s.steps.length<c.most then (true,⟨sN s.nums (gq r) (cm c s.nums r),s.steps++[(pl,cm c s.nums r)]⟩) else (false,s)
def bV:Rw->Bool
 |.ifr _ _ _=>false
 |.again _ _=>false
 |_=>true
theorem bF{c:Cf}{r:Rw}{pl:List Int}{s:Sx}(h:bV r=true):kx c r pl s=ib c r pl s:=by
 cases r with
 |ifr x a b=>simp [bV] at h
 |again x a=>simp [bV] at h
 |put x k=>simp only [kx,ib,nt,gq];split<;>simp_all
 |take x k=>simp only [kx,ib,nt,gq];split<;>simp_all
 |pick x k=>simp only [kx,ib,nt,gq];split<;>simp_all
 |two w x y z=>simp only [kx,ib,nt,gq];split<;>simp_all
theorem ofs_inj(a b:String):(Str.ofString a=Str.ofString b)=(a=b):=by
 refine propext ⟨fun h=>?_,fun h=>by rw [h]⟩
 rw [Str.ofString_eq_byList] at h;have h1:=congrArg (fun x:Str=>x.cps.toList) h;simp only [Str.ofStringByList] at h1;exact String.toList_inj.mp ((List.map_inj_right fun x y e=>Char.toNat_inj.mp e).mp h1)
end Tw
open PySem L2 L3 Tw
local macro_rules | `(tactic| simp! [$a,*]) => do let p <- ("yD xq yw y_ rY uO uI uB r_ um uC so tw tG rW rE sY rV tO sy sX tP sQ tD uT uV sJ rH uH iI sv sH rF nI jh nG rL xU yx x8 q_ pU mj l_ qh ng j5 iG nK mU ms jb iD iR zk xJ y1 qG gD qz nc qt mW iW mY iY eF nA mP ja j9 iM jg lX iT mC y8 lZ nu nB mx iw nO j8 eG mF fF fL rD jP qu rg rC rf qj m8 mG iF iO iX eK j6 iB jd fM m4 iE je ji jf sR uw tL sC ug sV rJ u_ tQ ue sB uo uL uz t9 uN uM t8 sk uF uc eI mH iP mw g9 iC iQ gb nF jn fI jY fX j_ jF jv km jq ko wS xC FR wR uv Fz qY pv zh jc nz fS tW aJ startN ah aS am fD C4 ai cu kA dv bo bH aC d_ ac dC ax vn aE E_ ip Dd o0 CJ oI gr cZ aB aT dk ap frz bE iq fg kt pX ar ag oS cO o8 gT qJ aa af aR bJ bQ cV g6 k6 cy cH Ev lQ aO bM ba kC cb oF dTM n8 gL fH fC bW CS nh gA yE oSl FU jI fY ak cg dP bN jt lS Gw bv eh dw dL gh C8 wN frzs Es we Br".splitOn " ").toArray.mapM (fun s => `(Lean.Parser.Tactic.simpLemma| ↓$(Lean.mkIdent s.toName):ident)); let q <- ("List.map_cons List.map_nil List.cons_append List.nil_append List.length_cons List.length_nil List.getElem?_cons_succ List.getElem?_cons_zero List.set_cons_succ List.set_cons_zero Nat.zero_add Nat.reduceAdd Nat.reduceSub List.replicate_succ List.replicate_zero List.append_nil true_and and_true if_true if_false Bool.false_eq_true decide_eq_true_eq decide_eq_false_iff_not Bool.not_true Bool.not_false Bool.and_true Bool.true_and Bool.and_false Bool.false_and Mem.upd_same Option.isSome_some Option.isSome_none ofs_inj String.reduceEq".splitOn " ").toArray.mapM (fun s => `(Lean.Parser.Tactic.simpLemma| $(Lean.mkIdent s.toName):ident)); let r : Lean.TSyntaxArray [`Lean.Parser.Tactic.simpStar, `Lean.Parser.Tactic.simpErase, `Lean.Parser.Tactic.simpLemma] := (p.map (⟨·.raw⟩)) ++ (q.map (⟨·.raw⟩)) ++ a.getElems; `(tactic| simp -dsimp only [$r,*])
namespace Tw
open PySem L2 L3
theorem gZ{ad:Ad}{M:Mem}{Q:DK}{E:DX}{w:Str}{y z m:Int}(hm:0<m)(hy:0<=y)(hy2:y<1000)(h:Q (.int (uE w y z m)) M):uj ad [.str w,.int y,.int z,.int m] M Q E:=by
 have hc:CMul y z:=.inl ⟨by lia,by lia⟩
 unfold uE at h;simp! [Gm,uA]
 split
 ·rename_i e;rw [if_pos e] at h;exact ⟨hm,aj h⟩
 ·rename_i e;rw [if_neg e] at h
  split
  ·rename_i e;rw [if_pos e] at h;exact ⟨hc,hm,aj h⟩
  ·rename_i e;rw [if_neg e] at h
   split
   ·rename_i e;rw [if_pos e] at h
    split<;>rename_i e2
    ·rw [if_pos e2] at h;exact aj h
    ·rw [if_neg e2] at h;exact aj h
   ·rename_i e;rw [if_neg e] at h
    split<;>rename_i e2
    ·rw [if_pos e2] at h;exact aj h
    ·rw [if_neg e2] at h;exact aj h
def gx(names:List Str)(m many:Int):Rw->Prop
 |.put x k=>x∈names/\0<=k/\k<m
 |.take x i=>x∈names/\0<=i/\i<many
 |.pick x y=>x∈names/\y∈names/\0<many
 |.two w x y z=>(w="sum"\/w="by"\/w="less"\/w="same")/\x∈names/\y∈names/\z∈names
 |_=>False
structure NOk(names:List Str)(m:Int)(n:gH):Prop where
 keys:n.map (·.1)=names
 rng:∀p∈n,0<=p.2/\p.2<m
theorem NOk.at{names:List Str}{m:Int}{n:gH}(h:NOk names m n){x:Str}(hx:x∈names):gN n x=some (nm n x)/\0<=nm n x/\nm n x<m:=by
 have e:gN n x=some (nm n x):=Cr (by rw [h.keys];exact hx)
 refine ⟨e,?_⟩;unfold gN at e;obtain ⟨p,hp,hv⟩:=Option.map_eq_some_iff.mp e;rw [<- hv];exact h.rng p (List.mem_of_find?_eq_some hp)
theorem zY{w:Str}{y z m:Int}(h2:2<=m):0<=uE w y z m/\uE w y z m<m:=by
 unfold uE;have a1:=Int.emod_nonneg (y+z) (show m≠0 by lia)
 have a2:=Int.emod_lt_of_pos (y+z) (show 0<m by lia)
 have a3:=Int.emod_nonneg (y*z) (show m≠0 by lia)
 have a4:=Int.emod_lt_of_pos (y*z) (show 0<m by lia)
 repeat' split
 all_goals lia
structure COk(c:Cf):Prop where
 m2:2<=c.m
 m1:c.m<=997
 rng:∀v∈c.pieces,0<=v/\v<c.m
 few:c.pieces.length<=1000
 most:c.most<=10000
theorem COk.piece{c:Cf}(h:COk c){i:Nat}(hi:i<c.pieces.length):c.pieces[i]?=some ((c.pieces[i]?).getD 0)/\0<=(c.pieces[i]?).getD 0/\(c.pieces[i]?).getD 0<c.m:=by
 rw [List.getElem?_eq_getElem hi];exact ⟨rfl,h.rng _ (List.getElem_mem hi)⟩
theorem rN{c:Cf}(h:COk c){names:List Str}{n:gH}(hn:NOk names c.m n){r:Rw}(hr:gx names c.m c.pieces.length r):0<=cm c n r/\cm c n r<c.m:=by
 cases r with
 |put x k=>exact hr.2
 |take x i=>exact (h.piece (i:=i.toNat) (by have:=hr.2;lia)).2
 |pick x y=>
  have h0:=hr.2.2;have h1:=Int.emod_nonneg (nm n y) (show (c.pieces.length:Int)≠0 by lia)
  have h2:=Int.emod_lt_of_pos (nm n y) h0;exact (h.piece (i:=(nm n y % (c.pieces.length:Int)).toNat) (by lia)).2
 |two w x y z=>exact zY h.m2
 |ifr=>exact hr.elim
 |again=>exact hr.elim
def aK(c:Cf)(names:List Str)(rows:List Rw)(mk:Str):D:=.tup [.int c.m,.tup (names.map D.str),.int (c.pieces.length:Nat),.tup (aL rows),.str mk]
theorem bL{ad:Ad}{M:Mem}{Q:DK}{E:DX}{c:Cf}{names:List Str}{rows:List Rw}{mk:Str}{dn:Addr}{n:gH}{r:Rw}(hn:NOk names c.m n)(hr:gx names c.m c.pieces.length r)(hd:M dn=some (.dK (dj n)))
  (h:Q (match r with|.take _ i=>.int i|.pick _ y=>.int (nm n y % (c.pieces.length:Int))|_=>.non) M):jw ad [aK c names rows mk,.ref dn,r.d] M Q E:=by
 cases r with
 |put x k=>(simp! [kU,fQ,aK,Rw.d,atI_0,atI_2];exact aj h)
 |take x i=>(simp! [kU,fQ,aK,Rw.d,atI_0,atI_2];exact aj h)
 |pick x y=>
  simp! [kU,fQ,aK,Rw.d,atI_0,atI_2,hd,cn,(hn.at hr.2.1).1,Option.map_some];exact ⟨hr.2.2,aj h⟩
 |two w x y z=>
  obtain ⟨hw,_⟩:=hr;rcases hw with rfl|rfl|rfl|rfl<;>(simp! [kU,fQ,aK,Rw.d,atI_0,atI_2];exact aj h)
 |ifr=>exact hr.elim
 |again=>exact hr.elim
theorem jp{ad:Ad}{M:Mem}{Q:DK}{E:DX}{c:Cf}{names:List Str}{rows:List Rw}{mk:Str}{dn:Addr}{n:gH}{r:Rw}(hc:COk c)(hn:NOk names c.m n)(hr:gx names c.m c.pieces.length r)(hd:M dn=some (.dK (dj n)))
  (h:Q (.int (cm c n r)) M):jo ad [aK c names rows mk,.ref dn,.tup (c.pieces.map D.int),r.d] M Q E:=by
 have hm1:=hc.m1;have hm2:=hc.m2;cases r with
 |put x k=>
  simp! [h_,dG,aK,Rw.d,atI_0,atI_2];exact aj h
 |take x i=>
  have hr':=hr;obtain ⟨hx,h0,h1⟩:=hr';have hp:=hc.piece (i:=i.toNat) (by lia)
  have e1:(c.pieces.map D.int)[i.toNat]?=some (.int (cm c n (.take x i))):=by rw [List.getElem?_map,hp.1];rfl
  simp! [h_,dG,aK,Rw.d,atI_0,atI_2];refine aG (d:=.int i) (fun _ _ q=>bL (c:=c) (names:=names) (rows:=rows) (mk:=mk) (r:=.take x i) hn hr hd q) ?_;simp! [bR h0,e1];exact aj h
 |pick x y=>
  have hr':=hr;obtain ⟨hx,hy,h0⟩:=hr';have g0:=Int.emod_nonneg (nm n y) (show (c.pieces.length:Int)≠0 by lia)
  have g1:=Int.emod_lt_of_pos (nm n y) h0;have hp:=hc.piece (i:=(nm n y % (c.pieces.length:Int)).toNat) (by lia)
  have e1:(c.pieces.map D.int)[(nm n y % (c.pieces.length:Int)).toNat]?=some (.int (cm c n (.pick x y))):=by rw [List.getElem?_map,hp.1];rfl
  simp! [h_,dG,aK,Rw.d,atI_0,atI_2];refine aG (d:=.int (nm n y % (c.pieces.length:Int))) (fun _ _ q=>bL (c:=c) (names:=names) (rows:=rows) (mk:=mk) (r:=.pick x y) hn hr hd q) ?_;simp! [bR g0,e1];exact aj h
 |two w x y z=>
  have hr':=hr;obtain ⟨hw,hx,hy,hz⟩:=hr';have a1:=hn.at hy;have a2:=hn.at hz;have hw1:((w=Str.ofString "put")=False):=by rcases hw with rfl|rfl|rfl|rfl<;>exact eq_false (by decide +kernel)
  simp! [h_,dG,aK,Rw.d,atI_0,atI_2,hw1];refine aG (d:=.non) (fun _ _ q=>bL (c:=c) (names:=names) (rows:=rows) (mk:=mk) (r:=.two w x y z) hn hr hd q) ?_;simp! [atI_0,atI_2,atI_3,hd,cn,a1.1,a2.1,Option.map_some];exact aG (d:=.int (cm c n (.two w x y z))) (fun _ _ q=>gZ (by lia) (by lia) (by lia) q) (aj h)
 |ifr=>exact hr.elim
 |again=>exact hr.elim
structure Wk where
 a:Addr
 dn:Addr
 ls:Addr
 h1:a≠dn
 h2:a≠ls
 h3:dn≠ls
def me(l:List Int):D:=.tup (l.map D.int)
def Cy(l:List (List Int×Int)):List D:=l.map fun p=>.tup [me p.1,.int p.2]
def wM(ad:Ad)(k:Wk)(c:Cf)(pD:D)(s:Sx)(M:Mem):Mem:=
 ((M.upd k.a (.ins ad.C_Walk [("plan",pD),("numbers",.ref k.dn),("pieces",.tup (c.pieces.map D.int)),("most",.int (c.most:Nat)),("steps",.ref k.ls)])).upd k.dn (.dK (dj s.nums))).upd k.ls (.lst (Cy s.steps))
section
variable {ad:Ad}{k:Wk}{c:Cf}{pD:D}{s:Sx}{M:Mem}
theorem eQ:wM ad k c pD s M k.a=some (.ins ad.C_Walk [("plan",pD),("numbers",.ref k.dn),("pieces",.tup (c.pieces.map D.int)),("most",.int (c.most:Nat)),("steps",.ref k.ls)]):=by
 unfold wM;rw [ae k.h2,ae k.h1,Mem.upd_same]
theorem k9:wM ad k c pD s M k.dn=some (.dK (dj s.nums)):=by unfold wM;rw [ae k.h3,Mem.upd_same]
theorem Ch:wM ad k c pD s M k.ls=some (.lst (Cy s.steps)):=by unfold wM;rw [Mem.upd_same]
theorem x9{x:List (List Int×Int)}:(wM ad k c pD s M).upd k.ls (.lst (Cy x))=wM ad k c pD ⟨s.nums,x⟩ M:=by unfold wM;rw [Mem.upd_upd]
theorem AM{x:gH}:(wM ad k c pD s M).upd k.dn (.dK (dj x))=wM ad k c pD ⟨x,s.steps⟩ M:=by
 unfold wM;rw [aq (Ne.symm k.h3),Mem.upd_upd]
theorem lf0:List.lookup ("plan":Str) [(("plan":Str),x0),(("numbers":Str),x1),(("pieces":Str),x2),(("most":Str),x3),(("steps":Str),x4)]=some (x0:D):=rfl
theorem pS:List.lookup ("numbers":Str) [(("plan":Str),x0),(("numbers":Str),x1),(("pieces":Str),x2),(("most":Str),x3),(("steps":Str),x4)]=some (x1:D):=rfl
theorem lf2:List.lookup ("pieces":Str) [(("plan":Str),x0),(("numbers":Str),x1),(("pieces":Str),x2),(("most":Str),x3),(("steps":Str),x4)]=some (x2:D):=rfl
theorem lf3:List.lookup ("most":Str) [(("plan":Str),x0),(("numbers":Str),x1),(("pieces":Str),x2),(("most":Str),x3),(("steps":Str),x4)]=some (x3:D):=rfl
theorem lf4:List.lookup ("steps":Str) [(("plan":Str),x0),(("numbers":Str),x1),(("pieces":Str),x2),(("most":Str),x3),(("steps":Str),x4)]=some (x4:D):=rfl
theorem lfm:List.lookup ("note_step":Str) [(("plan":Str),x0),(("numbers":Str),x1),(("pieces":Str),x2),(("most":Str),x3),(("steps":Str),x4)]=(none:Option D):=rfl
theorem lfl:List.lookup ("look":Str) [(("plan":Str),x0),(("numbers":Str),x1),(("pieces":Str),x2),(("most":Str),x3),(("steps":Str),x4)]=(none:Option D):=rfl
theorem el{Q:DK}{E:DX}{pl:List Int}{v:Int}(hc:c.most<=10000)(h1:(nt c pl v s).1=true->Q .non (wM ad k c pD (nt c pl v s).2 M))(h2:(nt c pl v s).1=false->E ad.C_Dry (wM ad k c pD (nt c pl v s).2 M)):
  ra ad [.ref k.a,me pl,.int v] (wM ad k c pD s M) Q E:=by
 unfold nt at h1 h2;simp! [u_q3,zJ,eQ,Ch,lf3,lf4,Cy,List.length_map]
 split
 ·rename_i e
  have:¬s.steps.length<c.most:=by lia
  rw [if_neg this] at h2;exact cP (h2 rfl)
 ·rename_i e
  have hl:s.steps.length<c.most:=by lia
  rw [if_pos hl] at h1;refine ⟨bw (by decide),ma (by lia),aj ?_⟩
  have:=h1 rfl;rw [<- x9] at this;simpa [Cy] using this
end
end Tw
namespace L3
open PySem L2
def eW:Nat->List D->List D
 |_,[]=>[]
 |k,x::xs=>.tup [.int (k:Nat),x]::eW (k+1) xs
theorem pK:∀(xs:List D) (k:Nat),(xs.zipIdx k).map (fun p=>D.tup [.int (p.2:Nat),p.1])=eW k xs
 |[],_=>rfl
 |x::xs,k=>by rw [List.zipIdx_cons,List.map_cons,pK xs (k+1)];rfl
theorem jL(xs:List D):oH xs=eW 0 xs:=pK xs 0
theorem aY{xs:List D}{M:Mem}:DIt.ok ⟨xs,[]⟩ M:=fun _ h=>by cases h
end L3
namespace Tw
open PySem L2 L3
mutual
def ie(names:List Str)(m many:Int):Rw->Prop
 |.ifr x a b=>x∈names/\df names m many a/\df names m many b
 |.again x a=>x∈names/\df names m many a
 |.put x k=>gx names m many (.put x k)
 |.take x k=>gx names m many (.take x k)
 |.pick x k=>gx names m many (.pick x k)
 |.two w x y z=>gx names m many (.two w x y z)
def df(names:List Str)(m many:Int):List Rw->Prop
 |[]=>True
 |r::rs=>ie names m many r/\df names m many rs
end
mutual
def hR:Rw->Nat
 |.ifr _ a b=>1+max (m_ a) (m_ b)
 |.again _ a=>1+m_ a
 |_=>0
def m_:List Rw->Nat
 |[]=>0
 |r::rs=>max (hR r) (m_ rs)
end
section
variable {c:Cf}{names:List Str}
theorem yg{n:gH}(hn:NOk names c.m n){x:Str}{v:Int}(hv:0<=v/\v<c.m):NOk names c.m (sN n x v):=by
 refine ⟨by rw [Bw];exact hn.keys,fun p hp=>?_⟩
 simp only [sN,List.mem_map] at hp;obtain ⟨q,hq,rfl⟩:=hp
 split
 ·exact hv
 ·exact hn.rng q hq
theorem i_{pl:List Int}{v:Int}{s:Sx}:(nt c pl v s).2.nums=s.nums:=by unfold nt;split<;>rfl
theorem iy(hc:COk c){r:Rw}(hr:gx names c.m c.pieces.length r){pl:List Int}{s:Sx}(hn:NOk names c.m s.nums):NOk names c.m (ib c r pl s).2.nums:=by
 unfold ib
 split
 ·exact yg hn (rN hc hn hr)
 ·exact hn
theorem uP{x:Str}{pl:List Int}{body:Nat->Sx->Bool×Sx}(hb:∀t s,NOk names c.m s.nums->NOk names c.m (body t s).2.nums):∀(f t:Nat) (s:Sx),NOk names c.m s.nums->NOk names c.m (g_ c x pl body f t s).2.nums
 |0,_,s,h=>h
 |f+1,t,s,h=>by
  have h1:NOk names c.m (nt c (pl++[(t:Int)]) (lk s.nums x) s).2.nums:=by rw [i_];exact h
  unfold g_
  split
  ·split
   ·split
    ·exact uP hb f (t+1) _ (hb t _ h1)
    ·exact hb t _ h1
   ·exact h1
  ·exact h1
mutual
theorem qe(hc:COk c):∀(r:Rw),ie names c.m c.pieces.length r->∀(pl:List Int) (s:Sx),NOk names c.m s.nums->NOk names c.m (kx c r pl s).2.nums
 |.ifr x a b,h,pl,s,hn=>by
  have h1:NOk names c.m (nt c pl (lk s.nums x) s).2.nums:=by rw [i_];exact hn
  simp only [ie] at h;unfold kx
  split
  ·split
   ·exact eL hc a h.2.1 _ _ _ h1
   ·exact eL hc b h.2.2 _ _ _ h1
  ·exact h1
 |.again x a,h,pl,s,hn=>by
  simp only [ie] at h;unfold kx;exact uP (fun t s hs=>eL hc a h.2 _ _ _ hs) _ _ _ hn
 |.put x k,h,pl,s,hn=>by rw [bF rfl];exact iy hc (by simpa only [ie] using h) hn
 |.take x k,h,pl,s,hn=>by rw [bF rfl];exact iy hc (by simpa only [ie] using h) hn
 |.pick x k,h,pl,s,hn=>by rw [bF rfl];exact iy hc (by simpa only [ie] using h) hn
 |.two w x y z,h,pl,s,hn=>by rw [bF rfl];exact iy hc (by simpa only [ie] using h) hn
theorem eL(hc:COk c):∀(rs:List Rw),df names c.m c.pieces.length rs->∀(pl:List Int) (j:Nat) (s:Sx),NOk names c.m s.nums->NOk names c.m (cw c rs pl j s).2.nums
 |[],_,_,_,s,hn=>by simpa only [cw] using hn
 |r::rs,h,pl,j,s,hn=>by
  simp only [df] at h;unfold cw
  split
  ·exact eL hc rs h.2 _ _ _ (qe hc r h.1 _ _ hn)
  ·exact qe hc r h.1 _ _ hn
end
end
def Post(ad:Ad)(k:Wk)(c:Cf)(pD:D)(r:Bool×Sx)(M:Mem)(d:D)(Q:DK)(E:DX):Prop:=(r.1=true->Q d (wM ad k c pD r.2 M))/\(r.1=false->E ad.C_Dry (wM ad k c pD r.2 M))
theorem bh{ad:Ad}{k:Wk}{c:Cf}{pD:D}{r:Bool×Sx}{M M0:Mem}{d:D}{T:Sd}{ds:List D}{Q:DK}{E:DX}(hm:∀Q' E',Post ad k c pD r M d Q' E'->T ds M0 Q' E'){b:BxQ E Q}(h:Post ad k c pD r M d Q E):calls T E ds M0 Q b:=
 ao fun Q' E' hq he=>hm Q' E' ⟨fun e=>hq _ _ (h.1 e),fun e=>he _ _ (h.2 e)⟩
theorem Post.drp{ad:Ad}{k:Wk}{c:Cf}{pD:D}{r:Bool×Sx}{M:Mem}{d:D}{Q:DK}{E:DX}(h:Post ad k c pD r M d Q E):Post ad k c pD r M d (L3.drp Q) (ay E):=⟨fun e=>aj (h.1 e),fun e=>cP (h.2 e)⟩
section
variable {ad:Ad}{k:Wk}{c:Cf}{s:Sx}{M:Mem}{names:List Str}{rows0:List Rw}{mk:Str}
theorem lC{Q:DK}{E:DX}{pl:List Int}{x:Str}(hc:COk c)(hn:NOk names c.m s.nums)(hx:x∈names)(h:Post ad k c (aK c names rows0 mk) (nt c pl (lk s.nums x) s) M (.int (lk s.nums x)) Q E):
  lg ad [.ref k.a,me pl,.str x] (wM ad k c (aK c names rows0 mk) s M) Q E:=by
 have hv:=hn.at hx;have key:∀v:Int,v=lk s.nums x->calls (ra ad) (ay E) [.ref k.a,me pl,.int v] (wM ad k c (aK c names rows0 mk) s M) (fun _ M1=>L3.drp Q (.int v) M1) ⟨⟩:=by
  rintro v rfl
  exact bh (d:=.non) (fun Q' E' z=>el hc.most z.1 z.2) ⟨fun e=>aj (h.1 e),fun e=>cP (h.2 e)⟩
 simp! [HZ,sh,eQ,k9,pS,lfm,cn,hv.1,Option.map_some]
 split
 ·rename_i e
  exact key 0 (by unfold lk;rw [if_pos e])
 ·rename_i e
  exact key 1 (by unfold lk;rw [if_neg e])
theorem ck{n:Nat}{Q:DK}{E:DX}{pl:List Int}{r:Rw}(hnl:names.length<=1000)(hc:COk c)(hn:NOk names c.m s.nums)(hr:gx names c.m c.pieces.length r)(h:Post ad k c (aK c names rows0 mk) (ib c r pl s) M .non Q E):
  S_q11 ad (n+1) [.ref k.a,r.d,me pl] (wM ad k c (aK c names rows0 mk) s M) Q E:=by
 have fin:calls (jo ad) (ay E) [aK c names rows0 mk,.ref k.dn,.tup (c.pieces.map D.int),r.d] (wM ad k c (aK c names rows0 mk) s M) (fun d M'=>frz d M' fun x M1=>
   ag 3 x [some (.ref k.a),some r.d,some (me pl),none] M1 fun δ M2=>ah (ba (cg ad.C_Walk "note_step" (ra ad) (ay E) 3 (ac 0) (aa (ac 2) (aa (ac 3) af))))
    (ar (ac 3) (gT (aO ad.C_Walk (ac 0) "numbers") (ai aB (ac 1) (dC (.int 1))))) { nx:=fun _ M'=>L3.drp Q .non M',rt:=L3.drp Q } δ M2) ⟨⟩:=by
  refine aG (d:=.int (cm c s.nums r)) (fun _ _ q=>jp hc hn hr k9 q) ?_;simp! [eQ,lfm];refine bh (r:=nt c pl (cm c s.nums r) s) (d:=.non) (fun Q' E' z=>el hc.most z.1 z.2) ?_;unfold ib at h;unfold nt;have hkeys:gq r∈s.nums.map (·.1):=by
   rw [hn.keys];cases r with
   |put x k=>exact hr.1
   |take x k=>exact hr.1
   |pick x k=>exact hr.1
   |two w x y z=>exact hr.2.1
   |ifr=>exact hr.elim
   |again=>exact hr.elim
  split
  ·rename_i hl
   rw [if_pos hl] at h;refine ⟨fun _=>?_,fun e=>by simp at e⟩
   have h2:=h.1 rfl;have e2:wM ad k c (aK c names rows0 mk) ⟨sN s.nums (gq r) (cm c s.nums r),s.steps++[(pl,cm c s.nums r)]⟩ M=(wM ad k c (aK c names rows0 mk) ⟨s.nums,s.steps++[(pl,cm c s.nums r)]⟩ M).upd k.dn (.dK (cT (dj s.nums) (Sum.inr (gq r)) (.int (cm c s.nums r)))):=by
    rw [nJ hkeys,AM]
   rw [e2] at h2;have hlen:(dj s.nums).length<sizeLine:=by rw [dj,List.length_map,<- List.length_map (f:=(·.1)),hn.keys];exact ma (by lia)
   cases r with
   |put x kk=>simp! [Rw.d,eQ,k9,pS,atI_1];exact ⟨hlen,aj h2⟩
   |take x kk=>simp! [Rw.d,eQ,k9,pS,atI_1];exact ⟨hlen,aj h2⟩
   |pick x kk=>simp! [Rw.d,eQ,k9,pS,atI_1];exact ⟨hlen,aj h2⟩
   |two w x y z=>simp! [Rw.d,eQ,k9,pS,atI_1];exact ⟨hlen,aj h2⟩
   |ifr=>exact hr.elim
   |again=>exact hr.elim
  ·rename_i hl
   rw [if_neg hl] at h;exact ⟨fun e=>by simp at e,fun _=>cP (h.2 rfl)⟩
 cases r with
 |put x kk=>simp! [lb,fK,Rw.d,eQ,lf0,pS,lf2,atI_0];exact fin
 |take x kk=>simp! [lb,fK,Rw.d,eQ,lf0,pS,lf2,atI_0];exact fin
 |pick x kk=>simp! [lb,fK,Rw.d,eQ,lf0,pS,lf2,atI_0];exact fin
 |two w x y z=>
  have hw1:((w=Str.ofString "if")=False):=by rcases hr.1 with rfl|rfl|rfl|rfl<;>exact eq_false (by decide +kernel)
  have hw2:((w=Str.ofString "again")=False):=by rcases hr.1 with rfl|rfl|rfl|rfl<;>exact eq_false (by decide +kernel)
  simp! [lb,fK,Rw.d,eQ,lf0,pS,lf2,atI_0,hw1,hw2];exact fin
 |ifr=>exact hr.elim
 |again=>exact hr.elim
end
end Tw
namespace Tw
open PySem L2 L3
section
variable {c:Cf}
def Gr(c:Cf)(s s':Sx):Prop:=s.steps.length<=s'.steps.length/\(s.steps.length<=c.most->s'.steps.length<=c.most)
theorem Gr.refl{s:Sx}:Gr c s s:=⟨Nat.le_refl _,id⟩
theorem Gr.trans{s s1 s2:Sx}(a:Gr c s s1)(b:Gr c s1 s2):Gr c s s2:=⟨Nat.le_trans a.1 b.1,fun h=>b.2 (a.2 h)⟩
theorem nt_gr{pl:List Int}{v:Int}{s:Sx}:Gr c s (nt c pl v s).2:=by
 unfold nt
 split
 ·refine ⟨by simp,fun _=>?_⟩;simp;lia
 ·exact Gr.refl
theorem iV{r:Rw}{pl:List Int}{s:Sx}:Gr c s (ib c r pl s).2:=by
 unfold ib
 split
 ·refine ⟨by simp,fun _=>?_⟩;simp;lia
 ·exact Gr.refl
theorem rS{x:Str}{pl:List Int}{body:Nat->Sx->Bool×Sx}(hb:∀t s,Gr c s (body t s).2):∀(f t:Nat) (s:Sx),Gr c s (g_ c x pl body f t s).2
 |0,_,s=>Gr.refl
 |f+1,t,s=>by
  unfold g_
  split
  ·split
   ·split
    ·exact nt_gr.trans ((hb t _).trans (rS hb f (t+1) _))
    ·exact nt_gr.trans (hb t _)
   ·exact nt_gr
  ·exact nt_gr
mutual
theorem qf:∀(r:Rw) (pl:List Int) (s:Sx),Gr c s (kx c r pl s).2
 |.ifr x a b,pl,s=>by
  unfold kx
  split
  ·split
   ·exact nt_gr.trans (fU a _ _ _)
   ·exact nt_gr.trans (fU b _ _ _)
  ·exact nt_gr
 |.again x a,pl,s=>by
  unfold kx;exact rS (fun t s=>fU a _ _ _) _ _ _
 |.put x k,pl,s=>by rw [bF rfl];exact iV
 |.take x k,pl,s=>by rw [bF rfl];exact iV
 |.pick x k,pl,s=>by rw [bF rfl];exact iV
 |.two w x y z,pl,s=>by rw [bF rfl];exact iV
theorem fU:∀(rs:List Rw) (pl:List Int) (j:Nat) (s:Sx),Gr c s (cw c rs pl j s).2
 |[],_,_,s=>by unfold cw;exact Gr.refl
 |r::rs,pl,j,s=>by
  unfold cw
  split
  ·exact (qf r _ _).trans (fU rs _ _ _)
  ·exact qf r _ _
end
end
theorem dZ{pl:List Int}{v:Int}:D.tup (pl.map D.int++[D.int v])=me (pl++[v]):=by simp [me]
section
variable {ad:Ad}{k:Wk}{c:Cf}{names:List Str}{rows0:List Rw}{mk:Str}
def rX(ad:Ad)(k:Wk)(c:Cf)(names:List Str)(rows0:List Rw)(mk:Str)(n:Nat):Prop:=∀(rs:List Rw) (pl:List Int) (s:Sx) (M:Mem) (Q:DK) (E:DX),df names c.m c.pieces.length rs->3*m_ rs+2<=n->pl.length+2*m_ rs+2<=1000->NOk names c.m s.nums->s.steps.length<=c.most->
 Post ad k c (aK c names rows0 mk) (cw c rs pl 0 s) M .non Q E->S_q33 ad n [.ref k.a,.tup (aL rs),me pl] (wM ad k c (aK c names rows0 mk) s M) Q E
def ET(ad:Ad)(k:Wk)(c:Cf)(names:List Str)(rows0:List Rw)(mk:Str)(n:Nat):Prop:=∀(r:Rw) (pl:List Int) (s:Sx) (M:Mem) (Q:DK) (E:DX),ie names c.m c.pieces.length r->3*hR r+1<=n->pl.length+2*hR r+1<=1000->NOk names c.m s.nums->s.steps.length<=c.most->
 Post ad k c (aK c names rows0 mk) (kx c r pl s) M .non Q E->S_q11 ad n [.ref k.a,r.d,me pl] (wM ad k c (aK c names rows0 mk) s M) Q E
def PIf(ad:Ad)(k:Wk)(c:Cf)(names:List Str)(rows0:List Rw)(mk:Str)(n:Nat):Prop:=∀(x:Str) (a b:List Rw) (pl:List Int) (s:Sx) (M:Mem) (Q:DK) (E:DX),ie names c.m c.pieces.length (.ifr x a b)->3*hR (.ifr x a b)<=n->pl.length+2*hR (.ifr x a b)+1<=1000->NOk names c.m s.nums->s.steps.length<=c.most->
 Post ad k c (aK c names rows0 mk) (kx c (.ifr x a b) pl s) M .non Q E->S_q37 ad n [.ref k.a,(Rw.ifr x a b).d,me pl] (wM ad k c (aK c names rows0 mk) s M) Q E
def PAg(ad:Ad)(k:Wk)(c:Cf)(names:List Str)(rows0:List Rw)(mk:Str)(n:Nat):Prop:=∀(x:Str) (a:List Rw) (pl:List Int) (s:Sx) (M:Mem) (Q:DK) (E:DX),ie names c.m c.pieces.length (.again x a)->3*hR (.again x a)<=n->pl.length+2*hR (.again x a)+1<=1000->NOk names c.m s.nums->s.steps.length<=c.most->
 Post ad k c (aK c names rows0 mk) (kx c (.again x a) pl s) M .non Q E->S_q26 ad n [.ref k.a,(Rw.again x a).d,me pl] (wM ad k c (aK c names rows0 mk) s M) Q E
theorem vD(hc:COk c){n:Nat}(ih:ET ad k c names rows0 mk n):rX ad k c names rows0 mk (n+1):=by
 intro rs pl s M Q E hok hn hpl hno hst h;simp! [GX,rZ,eV,jL]
 refine cY (fun xs δ M'=>∃(rs':List Rw) (j:Nat) (s':Sx) (c3 c4:Option D),xs=eW j (aL rs')/\δ=[some (.ref k.a),some (.tup (aL rs)),some (me pl),c3,c4]/\M'=wM ad k c (aK c names rows0 mk) s' M/\df names c.m c.pieces.length rs'/\3*m_ rs'+2<=n+1/\pl.length+2*m_ rs'+2<=1000/\NOk names c.m s'.nums/\s'.steps.length<=c.most/\
  Post ad k c (aK c names rows0 mk) (cw c rs' pl j s') M .non Q E) (fun _ _ _ _=>aY) ?_ ?_ _ _ _ ⟨rs,0,s,none,none,rfl,rfl,rfl,hok,hn,hpl,hno,hst,h⟩
 ·rintro δ M' ⟨rs',j,s',c3,c4,e1,rfl,rfl,hok,hn,hpl,hno,hst,h⟩
  cases rs' with
  |nil=>exact aj (by simpa [cw] using h.1 (by simp [cw]))
  |cons r rs=>simp [aL,eW] at e1
 ·rintro x xs δ M' ⟨rs',j,s',c3,c4,e1,rfl,rfl,hok,hn,hpl,hno,hst,h⟩ D' hnx _ _ _
  cases rs' with
  |nil=>simp [aL,eW] at e1
  |cons r rs'=>
   simp only [aL,eW,List.cons.injEq] at e1;obtain ⟨rfl,rfl⟩:=e1;simp only [df] at hok;have h1:hR r<=m_ (r::rs')/\m_ rs'<=m_ (r::rs'):=by simp only [m_];lia
   simp! [me,List.length_append,List.length_map];refine ⟨bw (by decide),bw (by lia),?_⟩
   rw [dZ];refine bh (r:=kx c r (pl++[(j:Int)]) s') (d:=.non) (fun Q' E' z=>ih r (pl++[(j:Int)]) s' M Q' E' hok.1 (by lia) (by simp;lia) hno hst z) ?_
   simp only [cw] at h;cases hb:(kx c r (pl++[(j:Int)]) s').1 with
   |true=>
    rw [if_pos hb] at h;refine ⟨fun _=>hnx _ _ ⟨rs',j+1,_,_,_,rfl,rfl,rfl,hok.2,by lia,by lia,qe hc r hok.1 _ _ hno,(qf r _ _).2 hst,h⟩,fun e=>by rw [hb] at e;cases e⟩
   |false=>
    rw [if_neg (by rw [hb];simp)] at h
    exact ⟨fun e=>(by rw [hb] at e;cases e),fun _=>cP (h.2 hb)⟩
theorem wy(hnl:names.length<=1000)(hc:COk c){n:Nat}(ihf:PIf ad k c names rows0 mk n)(iha:PAg ad k c names rows0 mk n):ET ad k c names rows0 mk (n+1):=by
 intro r pl s M Q E hok hn hpl hno hst h;cases r with
 |put x kk=>rw [bF rfl] at h;exact ck hnl hc hno (by simpa only [ie] using hok) h
 |take x kk=>rw [bF rfl] at h;exact ck hnl hc hno (by simpa only [ie] using hok) h
 |pick x kk=>rw [bF rfl] at h;exact ck hnl hc hno (by simpa only [ie] using hok) h
 |two w x y z=>rw [bF rfl] at h;exact ck hnl hc hno (by simpa only [ie] using hok) h
 |ifr x a b=>
  have hf:=fun Q' E' z=>ihf x a b pl s M Q' E' hok (by lia) hpl hno hst z
  simp only [Rw.d] at hf;simp! [lb,fK,Rw.d,atI_0];exact bh hf h.drp
 |again x a=>
  have hf:=fun Q' E' z=>iha x a pl s M Q' E' hok (by lia) hpl hno hst z
  simp only [Rw.d] at hf;simp! [lb,fK,Rw.d,atI_0];exact bh hf h.drp
theorem zR(hc:COk c){n:Nat}(ih:rX ad k c names rows0 mk n):PIf ad k c names rows0 mk (n+1):=by
 intro x a b pl s M Q E hok hn hpl hno hst h;simp only [ie] at hok;simp only [hR] at hn hpl;simp! [Ii,uK,Rw.d,eQ,lfl,atI_1,atI_2,atI_3];refine bh (r:=nt c pl (lk s.nums x) s) (d:=.int (lk s.nums x)) (fun Q' E' z=>lC hc hno hok.1 z) ?_;have hl:lk s.nums x=0\/lk s.nums x=1:=by unfold lk;split<;>simp
 have hno1:NOk names c.m (nt c pl (lk s.nums x) s).2.nums:=by rw [i_];exact hno
 have hst1:=(nt_gr (c:=c) (pl:=pl) (v:=lk s.nums x) (s:=s)).2 hst;unfold kx at h;cases hb:(nt c pl (lk s.nums x) s).1 with
 |false=>
  rw [if_neg (by rw [hb];simp)] at h
  exact ⟨fun e=>(by rw [hb] at e;cases e),fun _=>cP (h.2 hb)⟩
 |true=>
  rw [if_pos hb] at h;refine ⟨fun _=>?_,fun e=>by rw [hb] at e;cases e⟩
  rcases hl with hl|hl
  ·rw [if_neg (by rw [hl];decide)] at h
   rw [hl] at h hno1 hst1 ⊢;simp! [atI_2,atI_3,me,List.length_append,List.length_map,show ((0:Int)=1)=False from eq_false (by decide)]
   refine ⟨bw (by decide),bw (by lia),?_⟩
   rw [dZ];exact bh (fun Q' E' z=>ih b (pl++[0]) _ M Q' E' hok.2.2 (by lia) (by simp;lia) hno1 hst1 z) h.drp
  ·rw [if_pos hl] at h
   rw [hl] at h hno1 hst1 ⊢;simp! [atI_2,atI_3,me,List.length_append,List.length_map];refine ⟨bw (by decide),bw (by lia),?_⟩
   rw [dZ];exact bh (fun Q' E' z=>ih a (pl++[1]) _ M Q' E' hok.2.1 (by lia) (by simp;lia) hno1 hst1 z) h.drp
end
end Tw
namespace Tw
open PySem L2 L3
section
variable {ad:Ad}{k:Wk}{c:Cf}{names:List Str}{rows0:List Rw}{mk:Str}
theorem qA(hc:COk c){n:Nat}(ih:rX ad k c names rows0 mk n):PAg ad k c names rows0 mk (n+1):=by
 intro x a pl s M Q E hok hn hpl hno hst h;simp only [ie] at hok;simp only [hR] at hn hpl;simp! [G4,sm,Rw.d,cE];refine ⟨c.most+1,?_⟩;unfold kx at h
 have key:∀(f t:Nat) (s:Sx) (tc:dz) (tb:au) (DD:DEnds) (b:BxW tc tb DD),NOk names c.m s.nums->s.steps.length<=c.most->c.most<s.steps.length+f->
   tc=am (ai cu (ap (cg ad.C_Walk "look" (lg ad) (ay E) 3 (ac 0) (aa (ai bE (ac 2) (aR (aa (ac 3) af))) (aa (ai aB (ac 1) (dC (.int 1))) af)))) (dC (.int 1)))->
   tb=ah (ba (ak (S_q33 ad n) (ay E) 3 (aa (ac 0) (aa (ai aB (ac 1) (dC (.int 2))) (aa (ai bE (ac 2) (aR (aa (ac 3) af))) af))))) (yE 3 (dC (.int 1)) k_)->
   DD.nx=(fun _ M'=>L3.drp Q .non M')->
   Post ad k c (aK c names rows0 mk) (g_ c x pl (fun t s=>cw c a (pl++[(t:Int)]) 0 s) f t s) M .non Q E->
   bz tc tb DD b f [some (.ref k.a),some (.tup [.str "again",.str x,.tup (aL a)]),some (me pl),some (.int (t:Int))] (wM ad k c (aK c names rows0 mk) s M):=by
  intro f
  induction f with
  |zero=>intro t s tc tb DD b hno hst hf;lia
  |succ f ihf=>
   intro t s tc tb DD b hno hst hf htc htb hDD h;unfold bz;subst htc;simp! [eQ,lfl,atI_1,me,List.length_append,List.length_map];refine ⟨bw (by decide),bw (by lia),?_⟩
   rw [dZ];refine bh (r:=nt c (pl++[(t:Int)]) (lk s.nums x) s) (d:=.int (lk s.nums x)) (fun Q' E' z=>lC hc hno hok.1 z) ?_;have hl:lk s.nums x=0\/lk s.nums x=1:=by unfold lk;split<;>simp
   have hno1:NOk names c.m (nt c (pl++[(t:Int)]) (lk s.nums x) s).2.nums:=by rw [i_];exact hno
   have hst1:=(nt_gr (c:=c) (pl:=pl++[(t:Int)]) (v:=lk s.nums x) (s:=s)).2 hst;unfold g_ at h;cases hb:(nt c (pl++[(t:Int)]) (lk s.nums x) s).1 with
   |false=>
    rw [if_neg (by rw [hb];simp)] at h
    exact ⟨fun e=>(by rw [hb] at e;cases e),fun _=>cP (h.2 hb)⟩
   |true=>
    rw [if_pos hb] at h;refine ⟨fun _=>?_,fun e=>by rw [hb] at e;cases e⟩
    have hlen:(nt c (pl++[(t:Int)]) (lk s.nums x) s).2.steps.length=s.steps.length+1:=by
     unfold nt at hb ⊢
     split at hb
     ·rename_i q;rw [if_pos q];simp
     ·cases hb
    rcases hl with hl|hl
    ·rw [if_neg (by rw [hl];decide)] at h
     rw [hl] at h ⊢;simp! [show ((0:Int)=1)=False from eq_false (by decide)]
     rw [hDD];rw [hl] at hb;exact aj (h.1 hb)
    ·rw [if_pos hl] at h
     rw [hl] at h hno1 hst1 hlen ⊢;simp! [];subst htb;simp! [atI_2,me,List.length_append,List.length_map];refine ⟨bw (by decide),bw (by lia),?_⟩
     rw [dZ];refine bh (r:=cw c a (pl++[(t:Int)]) 0 (nt c (pl++[(t:Int)]) 1 s).2) (fun Q' E' z=>ih a (pl++[(t:Int)]) _ M Q' E' hok.2 (by lia) (by simp;lia) hno1 hst1 z) ?_
     have hg:=fU (c:=c) a (pl++[(t:Int)]) 0 (nt c (pl++[(t:Int)]) 1 s).2;cases hb2:(cw c a (pl++[(t:Int)]) 0 (nt c (pl++[(t:Int)]) 1 s).2).1 with
     |true=>
      rw [if_pos hb2] at h;refine ⟨fun _=>?_,fun e=>by rw [hb2] at e;cases e⟩
      simp! [];exact ihf (t+1) _ _ _ _ _ (eL hc a hok.2 _ _ _ hno1) (hg.2 hst1) (by have:=hg.1;lia) rfl rfl hDD h
     |false=>
      rw [if_neg (by rw [hb2];simp)] at h
      exact ⟨fun e=>(by rw [hb2] at e;cases e),fun _=>cP (h.2 hb2)⟩
 exact key (c.most+1) 0 s _ _ _ _ hno hst (by lia) rfl rfl rfl h
theorem oA(hnl:names.length<=1000)(hc:COk c):∀n:Nat,rX ad k c names rows0 mk n/\ET ad k c names rows0 mk n/\PIf ad k c names rows0 mk n/\PAg ad k c names rows0 mk n
 |0=>⟨fun rs pl s M Q E _ h=>by lia,fun r pl s M Q E _ h=>by lia,fun x a b pl s M Q E _ h=>by simp only [hR] at h;lia,fun x a pl s M Q E _ h=>by simp only [hR] at h;lia⟩
 |n+1=>by
  obtain ⟨h1,h2,h3,h4⟩:=oA hnl hc n;exact ⟨vD hc h2,wy hnl hc h3 h4,zR hc h1,qA hc h1⟩
end
end Tw
namespace Tw
open PySem L2 L3
theorem oX:∀(names:List Str) (nums:List Int) (acc:gH),names.length=nums.length->(acc.map (·.1)++names).Nodup->
  ((names.map (fun x=>(Sum.inr x:aw))).zip (nums.map D.int)).foldl (fun a p=>cT a p.1 p.2) (dj acc)=dj (acc++names.zip nums)
 |[],nums,acc,_,_=>by simp
 |x::names,[],acc,h,_=>by simp at h
 |x::names,v::nums,acc,h,nd=>by
  have hx:x∉acc.map (·.1):=by
   have:=(List.nodup_append.mp nd).2.2;exact fun hm=>this x hm x (by simp) rfl
  have hany:((dj acc).any fun kv=>decide (kv.1=Sum.inr x))=false:=by
   rw [List.any_eq_false];intro p hp;simp only [dj,List.mem_map] at hp;obtain ⟨q,hq,rfl⟩:=hp;simp only [decide_eq_true_eq];intro e;have:q.1=x:=Sum.inr.inj e;exact hx (by rw [<- this];exact List.mem_map_of_mem hq)
  simp only [List.map_cons,List.zip_cons_cons,List.foldl_cons];have e1:cT (dj acc) (Sum.inr x) (.int v)=dj (acc++[(x,v)]):=by
   unfold cT;rw [hany];simp [dj]
  rw [e1,oX names nums (acc++[(x,v)]) (by simpa using h) (by simpa using nd)]
  simp
theorem dQ:∀names:List Str,fC (names.map D.str)=some (names.map fun x=>(Sum.inr x:aw))
 |[]=>rfl
 |x::names=>by simp [fC,bW,dQ names]
theorem h8{names:List Str}{nums:List Int}(h:names.length=nums.length)(nd:names.Nodup):wq (names.map fun x=>(Sum.inr x:aw)) (nums.map D.int)=dj (names.zip nums):=by
 have:=oX names nums [] h (by simpa using nd)
 simpa [wq,dj] using this
theorem dp1{d:D}:bj "plan" d []=[(("plan":Str),d)]:=rfl
theorem dp2{a d:D}:bj "numbers" d [(("plan":Str),a)]=[(("plan":Str),a),(("numbers":Str),d)]:=rfl
theorem dp3{a b d:D}:bj "pieces" d [(("plan":Str),a),(("numbers":Str),b)]=[(("plan":Str),a),(("numbers":Str),b),(("pieces":Str),d)]:=rfl
theorem dp4{a b e d:D}:bj "most" d [(("plan":Str),a),(("numbers":Str),b),(("pieces":Str),e)]=[(("plan":Str),a),(("numbers":Str),b),(("pieces":Str),e),(("most":Str),d)]:=rfl
theorem dp5{a b e g d:D}:bj "steps" d [(("plan":Str),a),(("numbers":Str),b),(("pieces":Str),e),(("most":Str),g)]=[(("plan":Str),a),(("numbers":Str),b),(("pieces":Str),e),(("most":Str),g),(("steps":Str),d)]:=rfl
def eu(nums pieces:List Int):D:=.tup [.tup (nums.map D.int),.tup (pieces.map D.int)]
section
variable {ad:Ad}{c:Cf}{names:List Str}{rows:List Rw}{mk:Str}{M:Mem}{nums:List Int}
theorem vh{a:Addr}{Q:DK}{E:DX}(ha:M a=none)(hl:names.length=nums.length)(nd:names.Nodup)(h0:0<names.length)(h1:names.length<=1000)
  (h:∀(k:Wk),k.a=a->M k.dn=none->M k.ls=none->Q .non (wM ad k c (aK c names rows mk) ⟨names.zip nums,[]⟩ M)):
  zL ad [.ref a,aK c names rows mk,eu nums c.pieces,.int (c.most:Nat)] (M.upd a (.ins ad.C_Walk [])) Q E:=by
 simp! [u_q5,AS,aK,eu,Mem.upd_upd,atI_0,atI_1,dQ,List.length_map,dp1];refine ⟨by decide,hl,h0,h1,fun dn hdn=>?_⟩
 have n1:a≠dn:=Mem.ne Mem.upd_same hdn;have hdn':M dn=none:=by rw [ae (Ne.symm n1)] at hdn;exact hdn
 simp! [ae n1,Mem.upd_same,dp2,aq (Ne.symm n1),Mem.upd_upd,h8 hl nd];refine ⟨by simp,?_⟩
 simp! [ae n1,Mem.upd_same,dp3,aq (Ne.symm n1),Mem.upd_upd];refine ⟨by simp,?_⟩
 simp! [ae n1,Mem.upd_same,dp4,aq (Ne.symm n1),Mem.upd_upd];refine ⟨by simp,bw (by simp),fun ls hls=>?_⟩
 have n2:a≠ls:=by
  intro e;subst e;rw [ae n1,Mem.upd_same] at hls;cases hls
 have n3:dn≠ls:=by
  intro e;subst e;rw [Mem.upd_same] at hls;cases hls
 have hls':M ls=none:=by rw [ae (Ne.symm n3),ae (Ne.symm n2)] at hls;exact hls
 simp! [ae n2,ae n1,Mem.upd_same,dp5];refine ⟨by simp,aj ?_⟩
 have:=h ⟨a,dn,ls,n1,n2,n3⟩ rfl hdn' hls';have e:wM ad ⟨a,dn,ls,n1,n2,n3⟩ c (aK c names rows mk) ⟨names.zip nums,[]⟩ M=(((M.upd a (.ins ad.C_Walk [("plan",aK c names rows mk),("numbers",.ref dn),("pieces",.tup (c.pieces.map D.int)),("most",.int (c.most:Nat))])).upd dn (.dK (dj (names.zip nums)))).upd ls (.lst [])).upd a (.ins ad.C_Walk [("plan",aK c names rows mk),("numbers",.ref dn),("pieces",.tup (c.pieces.map D.int)),("most",.int (c.most:Nat)),("steps",.ref ls)]):=by
  unfold wM;rw [aq (Ne.symm n2),aq (Ne.symm n1),Mem.upd_upd];rfl
 rw [e] at this;exact this
def fG(c:Cf)(names:List Str)(rows:List Rw)(nums:List Int):Bool×Sx:=cw c rows [] 0 ⟨names.zip nums,[]⟩
def rk(names:List Str)(r:Bool×Sx):D:=if r.1=true then .tup (names.map fun x=>.int (nm r.2.nums x)) else .non
structure PlOk(c:Cf)(names:List Str)(rows:List Rw)(nums:List Int):Prop where
 co:COk c
 ln:names.length=nums.length
 nd:names.Nodup
 l0:0<names.length
 l1:names.length<=1000
 rng:∀v∈nums,0<=v/\v<c.m
 ok:df names c.m c.pieces.length rows
 h:m_ rows<=7
theorem pc:∀{names:List Str} {nums:List Int},names.length=nums.length->(names.zip nums).map (·.1)=names
 |[],[],_=>rfl
 |[],_::_,h=>by simp at h
 |_::_,[],h=>by simp at h
 |x::xs,v::vs,h=>by simp [pc (by simpa using h)]
theorem PlOk.nok(p:PlOk c names rows nums):NOk names c.m (names.zip nums):=⟨pc p.ln,fun q hq=>p.rng _ (List.of_mem_zip hq).2⟩
theorem wF{Q:DK}{E:DX}(p:PlOk c names rows nums)(h:∀l,M l=none->Q (.tup [.ref l,rk names (fG c names rows nums)]) (M.upd l (.lst (Cy (fG c names rows nums).2.steps)))):
  nV ad [aK c names rows mk,eu nums c.pieces,.int (c.most:Nat)] M Q E:=by
 simp! [Ig,tI];intro a ha;refine ao fun Q' E' hq _=>vh ha p.ln p.nd p.l0 p.l1 fun k hk hdn hls=>hq _ _ ?_;subst hk;have hsub:∀(s':Sx),∀b o,(M.upd k.ls (.lst (Cy s'.steps))) b=some o->wM ad k c (aK c names rows mk) s' M b=some o:=by
  intro s' b o e
  by_cases h1:b=k.ls
  ·subst h1;rw [Mem.upd_same] at e;rw [Ch];exact e
  ·rw [ae h1] at e
   have h2:b≠k.dn:=by rintro rfl;rw [hdn] at e;cases e
   have h3:b≠k.a:=by rintro rfl;rw [ha] at e;cases e
   unfold wM;rw [ae h1,ae h2,ae h3];exact e
 have hr:=(oA (ad:=ad) (k:=k) (rows0:=rows) (mk:=mk) p.l1 p.co 24).1 rows [] ⟨names.zip nums,[]⟩ M;unfold aK at hr;simp! [aK,atI_3];refine ⟨bw (by decide),?_⟩
 refine ao fun Q2 E2 hq2 he2=>hr Q2 E2 p.ok (by have:=p.h;lia) (by have:=p.h;simp;lia) p.nok (Nat.zero_le _) ⟨fun e=>hq2 _ _ ?_,fun e=>he2 _ _ ⟨rfl,?_⟩⟩
 ·have hn:NOk names c.m (fG c names rows nums).2.nums:=eL p.co rows p.ok [] 0 ⟨names.zip nums,[]⟩ p.nok
  have e':(fG c names rows nums).1=true:=e;simp! [eQ,lf4,atI_1,aV]
  refine cr (fun xs acc δ M'=>∃n1 n2 c0,names=n1++n2/\xs=n2.map D.str/\acc=n1.map (fun x=>D.int (nm (fG c names rows nums).2.nums x))/\δ=[c0,some (.ref k.a)]/\M'=wM ad k c (aK c names rows mk) (fG c names rows nums).2 M)
   (fun _ _ _ _ _=>aY) ?_ ?_ ?_ _ _ _ _ ⟨[],names,none,rfl,rfl,rfl,rfl,rfl⟩
  ·rintro acc δ M' ⟨n1,n2,c0,e1,e2,rfl,rfl,rfl⟩
   have:n2=[]:=by cases n2 with|nil=>rfl|cons _ _=>simp at e2
   subst this;intro q hq;simp! [Mem.upd_upd,Mem.upd_del,aM hq];refine ⟨bw (by decide),⟨_,hsub _,?_⟩⟩
   have:=h k.ls hls;unfold rk at this;rw [if_pos e'] at this;have en:n1=names:=by simpa using e1.symm
   rw [en];exact this
  ·rintro x xs acc δ M' ⟨n1,n2,c0,e1,e2,rfl,rfl,rfl⟩ N hN _
   cases n2 with
   |nil=>simp at e2
   |cons y n2=>
    simp only [List.map_cons,List.cons.injEq] at e2;obtain ⟨rfl,rfl⟩:=e2;have hy:y∈names:=by rw [e1];simp
    simp! [eQ,k9,pS,cn,(hn.at hy).1,Option.map_some];refine hN _ _ _ ?_ ⟨n1++[y],n2,_,by simp [e1],rfl,by simp,rfl,rfl⟩
    have hl:=congrArg List.length e1;have:=p.l1;simp at hl ⊢;exact ma (by lia)
  ·rintro x xs acc δ M' ⟨n1,n2,c0,e1,e2,rfl,rfl,rfl⟩
   have hl:=congrArg List.length e1;have:=p.l1;simp at hl ⊢;exact ma (by lia)
 ·have e':(fG c names rows nums).1=false:=e
  simp! [eQ,lf4];refine ⟨bw (by decide),⟨_,hsub _,?_⟩⟩
  have:=h k.ls hls;unfold rk at this;rw [if_neg (by rw [e'];simp)] at this
  exact this
end
end Tw
namespace Tw
open PySem L2 L3
structure Pt where
 p:Addr
 q:Addr
 ne:p≠q
def Has(k:Pt)(M:Mem):Prop:=∃(cells:List Int) (t h sd:Int),cells.length<=63/\M k.p=some (.lst [.ref k.q,.int t,.int h,.int sd])/\M k.q=some (.lst (cells.map D.int))
def Dr(k:Pt)(M M':Mem):Prop:=Has k M'/\∀b,b≠k.p->b≠k.q->M' b=M b
theorem Has.refl{k:Pt}{M:Mem}(h:Has k M):Dr k M M:=⟨h,fun _ _ _=>rfl⟩
theorem Dr.trans{k:Pt}{M M1 M2:Mem}(a:Dr k M M1)(b:Dr k M1 M2):Dr k M M2:=⟨b.1,fun x h1 h2=>(b.2 x h1 h2).trans (a.2 x h1 h2)⟩
theorem Has.nep{k:Pt}{M:Mem}(h:Has k M){l:Addr}(hl:M l=none):l≠k.p/\l≠k.q:=by
 obtain ⟨cells,t,hh,sd,_,e1,e2⟩:=h;exact ⟨fun e=>(by rw [e,e1] at hl;cases hl),fun e=>(by rw [e,e2] at hl;cases hl)⟩
theorem Has.upd{k:Pt}{M:Mem}{l:Addr}{o:MO}(h:Has k M)(h1:l≠k.p/\l≠k.q):Has k (M.upd l o):=by
 obtain ⟨cells,t,hh,sd,hc,e1,e2⟩:=h;exact ⟨cells,t,hh,sd,hc,by rw [ae (Ne.symm h1.1)];exact e1,by rw [ae (Ne.symm h1.2)];exact e2⟩
theorem Has.del{k:Pt}{M:Mem}{l:Addr}(h:Has k M)(h1:l≠k.p/\l≠k.q):Has k (M.del l):=by
 obtain ⟨cells,t,hh,sd,hc,e1,e2⟩:=h;refine ⟨cells,t,hh,sd,hc,?_,?_⟩
 ·unfold Mem.del;rw [if_neg (Ne.symm h1.1)];exact e1
 ·unfold Mem.del;rw [if_neg (Ne.symm h1.2)];exact e2
theorem Dr.none{k:Pt}{M M':Mem}(h0:Has k M)(h:Dr k M M'){l:Addr}(hl:M l=none):M' l=none:=by
 have:=h0.nep hl;rw [h.2 l this.1 this.2];exact hl
theorem gz:∀(n:Nat) (cs:List Int),bH n (cs.map D.int)=true
 |_,[]=>by unfold bH;rfl
 |n,c::cs=>by
  rw [List.map_cons];unfold bH;rw [gz n cs];cases n<;>rfl
theorem fN{ad:Ad}{M:Mem}{Q:DK}{E:DX}{a b:Int}(h:∀r,Q (.int r) M):jO ad [.int a,.int b] M Q E:=by
 simp! [HI,uX];refine ⟨.inr (by decide),.inr (by decide),by decide,⟨by decide,by decide⟩,.inr (by decide),by decide,⟨by decide,by decide⟩,aj (h _)⟩
theorem Hm{α:Type}{x:α}{xs:List α}:atI (x::xs) 0=some x:=by rw [atI_0];rfl
theorem oZ{a m:Int}(h:0<m):0<=a % m/\a % m<m:=⟨Int.emod_nonneg _ (by lia),Int.emod_lt_of_pos _ h⟩
theorem gS{n:Nat}{i:Int}(h:0<=i)(h2:i<n):nP n i=some i.toNat:=by unfold nP;rw [if_pos h,if_pos h2]
theorem ix0{n:Nat}:nP (n+1) 0=some 0:=gS (by decide) (by lia)
theorem BO:nP 4 2=some 2:=rfl
theorem bS{s u:au}{D0:DEnds}{δ:Dl}{M:Mem}(h:s { D0 with nx:=u D0 } δ M):ah s u D0 δ M:=h
theorem B5{D0:DEnds}{δ:Dl}{M:Mem}{k:Pt}{t hh sd:Int}(h0:δ[0]?=some (some (.ref k.p)))(e1:M k.p=some (.lst [.ref k.q,.int t,.int hh,.int sd]))(h:D0.nx δ (M.upd k.p (.lst [.ref k.q,.int (t+1),.int hh,.int sd]))):
  ar (ai bE (ai aB (ac 0) (dC (.int 1))) (dC (.int 1))) (gT (ac 0) (dC (.int 1))) D0 δ M:=by
 simp! [h0,e1,atI_1,gS (n:=4) (i:=1) (by decide) (by decide),show (1:Int).toNat=1 from rfl]
 exact h
theorem rT{ad:Ad}{EE:DX}{D0:DEnds}{M:Mem}{k:Pt}{t hh sd many:Int}{c2:Option D}(h0:0<many)(h1:many<2 ^ 62)(e1:M k.p=some (.lst [.ref k.q,.int t,.int hh,.int sd]))
  (ha:∀r,D0.rt (.int (r % many)) M) (hb:D0.rt (.int (hh % many)) (M.upd k.p (.lst [.ref k.q,.int t,.int (hh / many),.int sd]))):
  (ah (aS (am (ai cu (ai aB (ac 0) (dC (.int 2))) (dC (.int 0)))) (ax (ai dY (ap (ak (jO ad) EE 2 (aa (ai aB (ac 0) (dC (.int 3))) (aa (ai aB (ac 0) (dC (.int 1))) af)))) (ac 1))) aE)
  (ah (ar (ai dY (ai aB (ac 0) (dC (.int 2))) (ac 1)) (ag 3))
  (ah (ar (ai eX (ai aB (ac 0) (dC (.int 2))) (ac 1)) (gT (ac 0) (dC (.int 2))))
  (ax (ac 3))))) D0 [some (.ref k.p),some (.int many),c2,none] M:=by
 simp! [e1,atI_1,atI_2,atI_3]
 by_cases ez:hh=0
 ·rw [if_pos ez]
  refine ao fun Q' E' hq _=>fN fun r=>hq _ _ ?_;simp! [];exact ⟨h0,ha r⟩
 ·rw [if_neg ez]
  simp! [e1,BO];exact ⟨h0,⟨h0,by lia⟩,hb⟩
theorem AZ{ad:Ad}{EE:DX}{D0:DEnds}{M:Mem}{k:Pt}{t hh sd many:Int}{cells:List Int}(h0:0<many)(e1:M k.p=some (.lst [.ref k.q,.int t,.int hh,.int sd]))(e2:M k.q=some (.lst (cells.map D.int)))
  (hA:D0.nx [some (.ref k.p),some (.int many),none,none] M)
  (hB:∀c cs,hh=0->cells=c::cs->∀r,D0.rt (.int (r % many)) (M.upd k.q (.lst (cs.map D.int))))
  (hC:∀c cs,hh=0->cells=c::cs->¬c<10 ^ Int.toNat 18->D0.nx [some (.ref k.p),some (.int many),some (.int c),none] ((M.upd k.q (.lst (cs.map D.int))).upd k.p (.lst [.ref k.q,.int t,.int c,.int sd]))):
  aS (ip (am (ai cu (ai aB (ac 0) (dC (.int 2))) (dC (.int 0)))) (am (ai kA (ai aB (ac 0) (dC (.int 0))) (ap (bJ af))))) (ah (ar (kC "list" oF (ai aB (ac 0) (dC (.int 0))) (aa (dC (.int 0)) af)) (ag 2))
   (ah (aS (am (ai oLt (ac 2) (ai Ft (dC (.int 10)) (dC (.int 18))))) (ax (ai dY (ap (ak (jO ad) EE 2 (aa (ac 2) (aa (ai aB (ac 0) (dC (.int 1))) af)))) (ac 1))) aE)
   (ar (ac 2) (gT (ac 0) (dC (.int 2)))))) aE D0 [some (.ref k.p),some (.int many),none,none] M:=by
 have hne:=k.ne;simp! [e1,atI_2,Hm]
 by_cases ez:hh=0
 ·rw [if_pos ez]
  refine ⟨bw (by decide),fun p hp=>?_⟩
  simp only [Mem.upd_del,aM hp,e2];cases cells with
  |nil=>
   simp! [];exact hA
  |cons c cs=>
   have g2:∀o',(M.upd k.q o') k.p=some (.lst [.ref k.q,.int t,.int hh,.int sd]):=fun o'=>by rw [ae hne,e1]
   simp! [Hm,e1,e2,g2,gz,ix0,BO,List.eraseIdx_zero,List.tail_cons,atI_1,atI_2,atI_3];refine ⟨⟨by decide,by decide,by decide⟩,?_⟩
   by_cases hb:c<10 ^ Int.toNat 18
   ·rw [if_pos hb]
    refine ao fun Q' E' hq _=>fN fun r=>hq _ _ ?_;simp! [];exact ⟨h0,hB c cs ez rfl r⟩
   ·rw [if_neg hb]
    exact hC c cs ez rfl hb
 ·rw [if_neg ez]
  exact hA
theorem kY{ad:Ad}{M:Mem}{Q:DK}{E:DX}{k:Pt}{many:Int}(hp:Has k M)(h0:0<many)(h1:many<2 ^ 62)(h:∀r M',0<=r->r<many->Dr k M M'->Q (.int r) M'):
  dB ad [.ref k.p,.int many] M Q E:=by
 obtain ⟨cells,t,hh,sd,hc,e1,e2⟩:=hp;have hne:=k.ne;have fin:∀(r:Int) (M':Mem) (cells':List Int) (t' hh' sd':Int),cells'.length<=63->(∀b,b≠k.p->b≠k.q->M' b=M b)->M' k.p=some (.lst [.ref k.q,.int t',.int hh',.int sd'])->M' k.q=some (.lst (cells'.map D.int))->drp Q (.int (r % many)) M':=by
  intro r M' cells' t' hh' sd' a1 a2 a3 a4;exact aj (h _ _ (oZ h0).1 (oZ h0).2 ⟨⟨cells',t',hh',sd',a1,a3,a4⟩,a2⟩)
 have g1:∀o,(M.upd k.p o) k.q=some (.lst (cells.map D.int)):=fun o=>by rw [ae (Ne.symm hne)];exact e2
 rw [G1 (n:=0)];unfold rQ;refine bS (B5 rfl e1 ?_);dsimp only;refine bS (AZ h0 Mem.upd_same (g1 _) ?_ (fun c cs ez ec r=>?_) (fun c cs ez ec hb=>?_))
 ·dsimp only
  refine rT h0 h1 Mem.upd_same (fun r=>?_) ?_
  ·exact fin _ _ cells _ _ _ hc (fun b b1 b2=>ae b1) Mem.upd_same (g1 _)
  ·exact fin _ _ cells _ _ _ hc (fun b b1 b2=>by rw [ae b1,ae b1]) Mem.upd_same (by rw [ae (Ne.symm hne),g1])
 ·subst ec
  exact fin _ _ cs _ _ _ (by simp at hc;lia) (fun b b1 b2=>by rw [ae b2,ae b1]) (by rw [ae hne,Mem.upd_same]) Mem.upd_same
 ·subst ec
  dsimp only;refine rT h0 h1 Mem.upd_same (fun r=>?_) ?_
  ·exact fin _ _ cs _ _ _ (by simp at hc;lia) (fun b b1 b2=>by rw [ae b1,ae b2,ae b1]) Mem.upd_same (by rw [ae (Ne.symm hne),Mem.upd_same])
  ·exact fin _ _ cs _ _ _ (by simp at hc;lia) (fun b b1 b2=>by rw [ae b1,ae b1,ae b2,ae b1]) Mem.upd_same (by rw [ae (Ne.symm hne),ae (Ne.symm hne),Mem.upd_same])
end Tw
namespace Tw
open PySem L2 L3
theorem AV{xs:List D}{k:Nat}:mJ xs none (some (k:Int))=xs.take k:=by
 unfold mJ;rw [HT.wV,HT.A1,List.drop_zero,Nat.sub_zero];rcases Nat.le_total k xs.length with h|h
 ·rw [Nat.min_eq_left h]
 ·rw [Nat.min_eq_right h,List.take_of_length_le (Nat.le_refl _),List.take_of_length_le h]
theorem x_{ad:Ad}{M:Mem}{Q:DK}{E:DX}{ns:List Int}(h:∀(k:Pt) M',Has k M'->(∀b,b≠k.p->b≠k.q->M' b=M b)->Q (.ref k.p) M'):uS ad [.ml (ns.map D.int)] M Q E:=by
 have c63:mJ (ns.map D.int) none (some 63)=(ns.take 63).map D.int:=by rw [List.map_take];exact AV (k:=63)
 simp! [G8,ut,eV,c63];intro a ha;refine cY (fun xs δ M'=>∃(cs:List Int) (sd:Int) (c2:Option D),xs=cs.map D.int/\δ=[some (.ml (ns.map D.int)),some (.int sd),c2]/\M'=M) (fun _ _ _ _=>aY) ?_ ?_ _ _ _ ⟨ns.take 63,7,none,rfl,rfl,by rw [Mem.upd_del,aM ha]⟩
 ·rintro δ M' ⟨cs,sd,c2,_,rfl,rfl⟩
  simp! [c63];intro b hb;rw [Mem.upd_del,aM hb];intro q hq;refine ⟨bw (by decide),fun p hp=>?_⟩
  have ne:p≠q:=by intro e;subst e;rw [Mem.upd_same] at hp;cases hp
  refine aj (h ⟨p,q,ne⟩ _ ⟨ns.take 63,0,0,sd,by simp;lia,Mem.upd_same,?_⟩ fun b b1 b2=>?_)
  ·show ((M'.upd q _).upd p _) q=_
   rw [ae (Ne.symm ne),Mem.upd_same]
  ·rw [ae b1,ae b2]
 ·rintro x xs δ M' ⟨cs,sd,c2,e1,rfl,rfl⟩ D' hnx _ _ _
  cases cs with
  |nil=>simp at e1
  |cons c cs=>
   simp only [List.map_cons,List.cons.injEq] at e1;obtain ⟨rfl,rfl⟩:=e1;simp! [];exact ⟨.inr (by decide),by decide,hnx _ _ ⟨cs,_,_,rfl,rfl,rfl⟩⟩
end Tw
namespace Tw
open PySem L2 L3
def Gn:Nat->D->Prop
 |_,.non=>True
 |_,.bl _=>True
 |_,.int _=>True
 |_,.str _=>True
 |n+1,.tup xs=>xs.length<=100000/\∀x∈xs,Gn n x
 |n+1,.lst xs=>xs.length<=100000/\∀x∈xs,Gn n x
 |_,_=>False
theorem fB:∀n:Nat,lQ (List.replicate n (.bl true))=some (List.replicate n true)
 |0=>rfl
 |n+1=>by rw [List.replicate_succ,lQ,fB n];rfl
theorem nY{n:Nat}:(List.replicate n true).all id=true:=by simp
theorem i1:bb "tuple" "bool"=false:=by decide +kernel
theorem i2:bb "tuple" "int"=false:=by decide +kernel
theorem i3:bb "tuple" "str"=false:=by decide +kernel
theorem i4:bb "tuple" "tuple"=true:=by decide +kernel
theorem i5:bb "tuple" "list"=false:=by decide +kernel
theorem i6:bb "list" "bool"=false:=by decide +kernel
theorem i7:bb "list" "int"=false:=by decide +kernel
theorem i8:bb "list" "str"=false:=by decide +kernel
theorem i9:bb "list" "tuple"=false:=by decide +kernel
theorem i10:bb "list" "list"=true:=by decide +kernel
theorem i11:bb "bool" "bool"=true:=by decide +kernel
theorem i12:bb "int" "bool"=false:=by decide +kernel
theorem i13:bb "int" "int"=true:=by decide +kernel
theorem i14:bb "str" "bool"=false:=by decide +kernel
theorem i15:bb "str" "int"=false:=by decide +kernel
theorem i16:bb "str" "str"=true:=by decide +kernel
theorem t1:k4 "bool"=true:=by decide +kernel
theorem t2:k4 "int"=true:=by decide +kernel
theorem t3:k4 "str"=true:=by decide +kernel
theorem t4:k4 "tuple"=true:=by decide +kernel
theorem t5:k4 "list"=true:=by decide +kernel
theorem jZ:∀xs:List D,qo xs xs=xs.map (fun z=>D.tup [z,z])
 |[]=>rfl
 |x::xs=>by
  have:=jZ xs;simp only [qo] at this ⊢;simp [this]
theorem fj{ad:Ad}:∀(n:Nat) (x:D) (M:Mem) (Q:DK) (E:DX),Gn n x->Q (.bl true) M->S_q13 ad (n+1) [x,x] M Q E
 |n,x,M,Q,E,hx,h=>by
  cases x with
  |non=>simp! [lK,gg];exact aj h
  |bl b=>simp! [lK,gg,i11,t1,beq_self_eq_true];exact aj h
  |int i=>simp! [lK,gg,i12,i13,t1,t2];exact aj h
  |str i=>simp! [lK,gg,i14,i15,i16,t1,t2,t3];exact aj h
  |tup xs=>
   cases n with
   |zero=>exact hx.elim
   |succ n=>
    obtain ⟨hl,hx⟩:=hx;simp! [lK,gg,i1,i2,i3,i4,i5,t1,t2,t3,t4,t5,aV];rw [if_neg (by decide),if_neg (by decide),if_neg (by decide)]
    refine cr (fun ys acc δ M'=>∃(zs:List D) (j:Nat) (c0 c1:Option D),ys=zs.map (fun z=>D.tup [z,z])/\(∀z∈zs,Gn n z)/\zs.length+j<=100000/\acc=List.replicate j (.bl true)/\δ=[c0,c1]/\M'=M) (fun _ _ _ _ _=>aY) ?_ ?_ ?_ _ _ _ _ ⟨xs,0,none,none,jZ xs,hx,by omega,rfl,rfl,rfl⟩
    ·rintro acc δ M' ⟨zs,j,c0,c1,e1,e2,e3,rfl,rfl,rfl⟩ p hpn
     simp! [Mem.upd_del,aM hpn,fB,nY];exact aj h
    ·rintro y ys acc δ M' ⟨zs,j,c0,c1,e1,e2,e3,rfl,rfl,rfl⟩ N hN _
     cases zs with
     |nil=>simp at e1
     |cons z zs=>
      simp only [List.map_cons,List.cons.injEq] at e1;obtain ⟨rfl,rfl⟩:=e1;simp only [List.length_cons] at e3;simp! [];refine aG (d:=.bl true) (fun Q' E' q=>fj n z M' Q' E' (e2 z (List.mem_cons_self ..)) q) ?_;simp! [];exact hN _ _ _ (by simp;exact ma (by omega)) ⟨zs,j+1,_,_,rfl,fun w hw=>e2 w (List.mem_cons_of_mem _ hw),by omega,by rw [List.replicate_succ'],rfl,rfl⟩
    ·rintro y ys acc δ M' ⟨zs,j,c0,c1,e1,e2,e3,rfl,rfl,rfl⟩
     simp;exact ma (by omega)
  |lst xs=>
   cases n with
   |zero=>exact hx.elim
   |succ n=>
    obtain ⟨hl,hx⟩:=hx;simp! [lK,gg,i6,i7,i8,i9,i10,t1,t2,t3,t4,t5,aV];rw [if_neg (by decide),if_neg (by decide),if_neg (by decide)]
    refine cr (fun ys acc δ M'=>∃(zs:List D) (j:Nat) (c0 c1:Option D),ys=zs.map (fun z=>D.tup [z,z])/\(∀z∈zs,Gn n z)/\zs.length+j<=100000/\acc=List.replicate j (.bl true)/\δ=[c0,c1]/\M'=M) (fun _ _ _ _ _=>aY) ?_ ?_ ?_ _ _ _ _ ⟨xs,0,none,none,jZ xs,hx,by omega,rfl,rfl,rfl⟩
    ·rintro acc δ M' ⟨zs,j,c0,c1,e1,e2,e3,rfl,rfl,rfl⟩ p hpn
     simp! [Mem.upd_del,aM hpn,fB,nY];exact aj h
    ·rintro y ys acc δ M' ⟨zs,j,c0,c1,e1,e2,e3,rfl,rfl,rfl⟩ N hN _
     cases zs with
     |nil=>simp at e1
     |cons z zs=>
      simp only [List.map_cons,List.cons.injEq] at e1;obtain ⟨rfl,rfl⟩:=e1;simp only [List.length_cons] at e3;simp! [];refine aG (d:=.bl true) (fun Q' E' q=>fj n z M' Q' E' (e2 z (List.mem_cons_self ..)) q) ?_;simp! [];exact hN _ _ _ (by simp;exact ma (by omega)) ⟨zs,j+1,_,_,rfl,fun w hw=>e2 w (List.mem_cons_of_mem _ hw),by omega,by rw [List.replicate_succ'],rfl,rfl⟩
    ·rintro y ys acc δ M' ⟨zs,j,c0,c1,e1,e2,e3,rfl,rfl,rfl⟩
     simp;exact ma (by omega)
  |_=>cases n<;>exact hx.elim
end Tw
namespace Tw
open PySem L2 L3
section
variable {te:aZ}{M:Mem}
theorem eD{tt:dz}{ok:Mem->Prop}{Q:List D->Mem->Prop}{b:BxC (ag 0) tt te ok Q}{rest:Dl}{c:Option D}{xs:List D}(p:D->Bool)(f:D->D)(ho:ok M)(hl:xs.length<=100000)
  (ht:∀x∈xs,∀K:Bool->Mem->Prop,K (p x) M->tt (some x::rest) M K) (he:∀x∈xs,p x=true->∀K:DK,K (f x) M->te (some x::rest) M K) (h:Q ((xs.filter p).map f) M):
  ce (ag 0) tt te ok Q b xs [] (c::rest) M:=by
 refine cr (fun ys acc δ N=>∃(us:List D) (c0:Option D),xs=us++ys/\acc=(us.filter p).map f/\δ=c0::rest/\M=N) (fun _ _ _ _ z=>by obtain ⟨_,_,_,_,_,rfl⟩:=z;exact ho) ?_ ?_ ?_ _ _ _ _ ⟨[],c,rfl,rfl,rfl,rfl⟩
 ·rintro acc δ N ⟨us,c0,e1,rfl,rfl,rfl⟩
  rw [List.append_nil] at e1;subst e1;exact h
 ·rintro y ys acc δ N ⟨us,c0,e1,rfl,rfl,rfl⟩ N' hN1 hN2
  have hy:y∈xs:=by rw [e1];simp
  have h2:=congrArg List.length e1;simp only [List.length_append,List.length_cons] at h2;have h3:=List.length_filter_le p us;simp only [ag,List.set];refine ht y hy _ ?_;cases hp:p y with
  |true=>
   rw [if_pos rfl];exact he y hy hp _ (hN1 _ _ _ (by rw [List.length_map];exact ma (by lia)) ⟨us++[y],_,by simp [e1],by simp [hp],rfl,rfl⟩)
  |false=>
   rw [if_neg (by simp)]
   exact hN2 .non _ _ ⟨us++[y],_,by simp [e1],by simp [hp],rfl,rfl⟩
 ·rintro y ys acc δ N ⟨us,c0,e1,rfl,rfl,rfl⟩
  have h2:=congrArg List.length e1;simp only [List.length_append,List.length_cons] at h2;have h3:=List.length_filter_le p us;rw [List.length_map];exact ma (by lia)
theorem de{ok:Mem->Prop}{Q:List D->Mem->Prop}{b:BxC (ag 0) dw te ok Q}{rest:Dl}{c:Option D}{xs:List D}(f:D->D)(ho:ok M)(hl:xs.length<=100000)
  (he:∀x∈xs,∀K:DK,K (f x) M->te (some x::rest) M K) (h:Q (xs.map f) M):ce (ag 0) dw te ok Q b xs [] (c::rest) M:=by
 refine eD (fun _=>true) f ho hl (fun x _ K q=>q) (fun x hx _=>he x hx) ?_;rw [List.filter_eq_self.mpr fun _ _=>rfl];exact h
end
instance lawKey:LawfulBEq aw where
 eq_of_beq {a b} h:=by
  cases a<;>cases b
  ·exact congrArg Sum.inl (eq_of_beq (α:=Int) h)
  ·cases h
  ·cases h
  ·exact congrArg Sum.inr (eq_of_beq (α:=Str) h)
 rfl {a}:=by
  cases a
  ·exact beq_self_eq_true (α:=Int) _
  ·exact beq_self_eq_true (α:=Str) _
def kD:aw->D
 |.inl i=>.int i
 |.inr x=>.str x
theorem F9(n:Nat)(a:aw):bo n (kD a)=true:=by cases a<;>cases n<;>rfl
theorem t0(n:Nat):∀ks:List aw,bH n (ks.map kD)=true
 |[]=>by cases n<;>rfl
 |k::ks=>by simp only [List.map_cons,bH,F9,t0 n ks,Bool.and_self]
def mxD(ks:List aw):D:=.lst (ks.map kD)
structure Cse where
 w:Int
 many:Nat
 names:List Str
 rows:List Rw
 mn:Str
 most:Nat
structure Sta where
 nums:List Int
 pieces:List Int
def Sta.d(s:Sta):D:=eu s.nums s.pieces
def Cse.cf(C:Cse)(s:Sta):Cf:=⟨C.w,s.pieces,C.most⟩
def Cse.d(C:Cse):D:=.tup [.int C.w,.tup (C.names.map D.str),.int (C.many:Nat),.tup (aL C.rows),.str C.mn]
structure Cse.Ok(C:Cse):Prop where
 m2:2<=C.w
 m1:C.w<=997
 few:C.many<=100
 most:C.most<=10000
 nd:C.names.Nodup
 l0:0<C.names.length
 l1:C.names.length<=100
 ok:df C.names C.w C.many C.rows
 h:m_ C.rows<=7
 mn:C.mn∈C.names
structure SOk(C:Cse)(s:Sta):Prop where
 ln:s.nums.length=C.names.length
 lp:s.pieces.length=C.many
 rn:∀v∈s.nums,0<=v/\v<C.w
 rp:∀v∈s.pieces,0<=v/\v<C.w
def vP(mk:Str)(r:Bool×Sx):D:=if r.1=true then .int (nm r.2.nums mk) else .non
def Cse.run(C:Cse)(s:Sta):Bool×Sx:=fG (C.cf s) C.names C.rows s.nums
def Cse.mark(C:Cse)(s:Sta):D:=vP C.mn (C.run s)
section
variable {C:Cse}{s:Sta}{ad:Ad}{M:Mem}{Q:DK}{E:DX}
theorem Cse.Ok.pl(o:C.Ok)(k:SOk C s):PlOk (C.cf s) C.names C.rows s.nums:=
 ⟨⟨o.m2,o.m1,k.rp,by show s.pieces.length<=1000;rw [k.lp];have:=o.few;lia,o.most⟩,k.ln.symm,o.nd,o.l0,by have:=o.l1;lia,k.rn,by show df C.names C.w s.pieces.length C.rows;rw [k.lp];exact o.ok,o.h⟩
theorem SOk.pd(k:SOk C s):C.d=aK (C.cf s) C.names C.rows C.mn:=by unfold Cse.d aK Cse.cf;rw [k.lp]
theorem pY(C:Cse)(s:Sta):C.mark s=.non\/∃v,C.mark s=.int v:=by
 unfold Cse.mark vP
 split
 ·exact .inr ⟨_,rfl⟩
 ·exact .inl rfl
theorem oY{Q:DK}(h:Q (C.mark s) M):frz (C.mark s) M Q:=by rcases pY C s with e|⟨v,e⟩<;>rw [e] at h ⊢<;>exact h
theorem qq{mk:Str}:∀{names:List Str},mk∈names->∃j,names.findIdx? (fun y=>decide (y=mk))=some j/\names[j]?=some mk
 |[],h=>by simp at h
 |x::names,h=>by
  by_cases e:x=mk
  ·subst e;exact ⟨0,by simp [List.findIdx?_cons],rfl⟩
  ·have h2:mk∈names:=by
    rcases List.mem_cons.mp h with z|z
    ·exact absurd z.symm e
    ·exact z
   obtain ⟨j,h3,h4⟩:=qq h2;exact ⟨j+1,by simp [List.findIdx?_cons,e,h3],by simpa using h4⟩
theorem fk:∀names:List Str,gL (names.map D.str)=some names
 |[]=>rfl
 |x::names=>by rw [List.map_cons,gL,fk names]
def D5(names:List Str)(r:Bool×Sx):D:=.tup [.lst (Cy r.2.steps),rk names r]
theorem yI{c:Cf}{names:List Str}{rows:List Rw}{mk:Str}{nums:List Int}{EE:DX}{b:BxQ EE fun d M'=>wN d M' Q}(p:PlOk c names rows nums)(h:Q (D5 names (fG c names rows nums)) M):
  calls (nV ad) EE [aK c names rows mk,eu nums c.pieces,.int (c.most:Nat)] M (fun d M'=>wN d M' Q) b:=by
 refine ao fun Q' E' hq _=>wF p fun l hl=>hq _ _ ?_;unfold D5 rk at h;unfold rk;cases e:(fG c names rows nums).1 with
 |true=>
  rw [e,if_pos rfl] at h;rw [if_pos rfl];simp! [Mem.upd_del,aM hl];exact h
 |false=>
  rw [e,if_neg (by simp)] at h
  rw [if_neg (by simp)]
  simp! [Mem.upd_del,aM hl];exact h
theorem vM{c:Cf}{names:List Str}{rows:List Rw}{mk:Str}{nums:List Int}(p:PlOk c names rows nums)(hm:mk∈names)(h:Q (vP mk (fG c names rows nums)) M):kQ ad [aK c names rows mk,eu nums c.pieces,.int (c.most:Nat)] M Q E:=by
 have l1:=p.l1;obtain ⟨j,e1,e2⟩:=qq hm;simp! [G2,sM];refine yI p ?_;simp! [D5,atI_1];unfold vP at h;unfold rk;cases e:(fG c names rows nums).1 with
 |true=>
  rw [e,if_pos rfl] at h;rw [if_pos rfl];simp! [aK,atI_1,atI_4,fk,e1];refine ⟨l1,?_⟩;have e3:atI (names.map fun x=>D.int (nm (fG c names rows nums).2.nums x)) (j:Nat)=some (.int (nm (fG c names rows nums).2.nums mk)):=by
   rw [bR (by lia),Int.toNat_natCast,List.getElem?_map,e2];rfl
  simp! [e3];exact aj h
 |false=>
  rw [e,if_neg (by simp)] at h
  rw [if_neg (by simp)]
  simp! [];exact aj h
theorem lJ{EE:DX}{b:BxQ EE Q}(o:C.Ok)(k:SOk C s)(h:Q (C.mark s) M):calls (kQ ad) EE [C.d,s.d,.int (C.most:Nat)] M Q b:=by
 refine aG (d:=C.mark s) (fun Q' E' q=>?_) h;rw [k.pd];exact vM (o.pl k) o.mn q
def bu(C:Cse)(s t:Sta):D:=.tup [C.d,s.d,t.d,.int (C.most:Nat)]
def ei(C:Cse):List aw:=C.names.map Sum.inr++(List.range C.many).map fun (i:Nat)=>Sum.inl (i:Int)
def b9(C:Cse)(s:Sta):aw->Int
 |.inl i=>(s.pieces[i.toNat]?).getD 0
 |.inr x=>nm (C.names.zip s.nums) x
theorem yL:∀{names:List Str} {nums:List Int} {j:Nat} {x:Str},names.Nodup->names.length=nums.length->names[j]?=some x->nums[j]?=some (nm (names.zip nums) x)
 |[],_,j,x,_,_,h=>by simp at h
 |y::names,[],j,x,_,h,_=>by simp at h
 |y::names,v::nums,0,x,nd,hl,h=>by
  simp at h;subst h;simp [nm,gN]
 |y::names,v::nums,j+1,x,nd,hl,h=>by
  simp only [List.getElem?_cons_succ] at h ⊢;have nd':=List.nodup_cons.mp nd;have hne:¬y=x:=fun e=>nd'.1 (e▸List.mem_of_getElem? h);rw [yL nd'.2 (by simpa using hl) h]
  simp [nm,gN,hne]
theorem mm{k:aw}(h:k∈ei C):(∃x,x∈C.names/\k=.inr x)\/∃i:Nat,i<C.many/\k=.inl (i:Int):=by
 rcases List.mem_append.mp h with q|q
 ·obtain ⟨x,hx,rfl⟩:=List.mem_map.mp q
  exact .inl ⟨x,hx,rfl⟩
 ·obtain ⟨i,hi,rfl⟩:=List.mem_map.mp q
  exact .inr ⟨i,List.mem_range.mp hi,rfl⟩
theorem lB(o:C.Ok)(k:SOk C s){t:aw}(ht:t∈ei C):0<=b9 C s t/\b9 C s t<C.w:=by
 rcases mm ht with ⟨x,hx,rfl⟩|⟨i,hi,rfl⟩
 ·exact ((o.pl k).nok.at hx).2
 ·exact ((o.pl k).co.piece (i:=(i:Int).toNat) (by show _<s.pieces.length;rw [k.lp];lia)).2
theorem cG(o:C.Ok)(k:SOk C s){t:aw}(ht:t∈ei C)(h:Q (.int (b9 C s t)) M):h9 ad [C.d,s.d,kD t] M Q E:=by
 have l1:=o.l1;rcases mm ht with ⟨x,hx,rfl⟩|⟨i,hi,rfl⟩
 ·obtain ⟨j,e1,e2⟩:=qq hx
  have e3:atI (s.nums.map D.int) (j:Nat)=some (.int (nm (C.names.zip s.nums) x)):=by
   rw [bR (by lia),Int.toNat_natCast,List.getElem?_map,yL o.nd k.ln.symm e2];rfl
  simp! [Cn,o4,kD,Cse.d,Sta.d,eu,bb,k4,atI_0,atI_1,fk,e1,String.reduceBEq,Bool.or_true,Bool.or_false,Bool.false_or,Bool.true_or];refine ⟨by lia,?_⟩
  simp! [e3];exact aj h
 ·have e3:atI (s.pieces.map D.int) (i:Nat)=some (.int ((s.pieces[(i:Int).toNat]?).getD 0)):=by
   rw [bR (by lia),Int.toNat_natCast,List.getElem?_map,List.getElem?_eq_getElem (by rw [k.lp];exact hi)];rfl
  simp! [Cn,o4,kD,Cse.d,Sta.d,eu,bb,k4,atI_0,atI_1,e3,String.reduceBEq,Bool.or_true,Bool.or_false,Bool.false_or,Bool.true_or,Bool.false_and,Bool.and_false];exact aj h
end
end Tw
namespace Tw
open PySem L2 L3
theorem whT{c3:dz}{tb:au}{D':DEnds}{bx:BxW c3 tb D'}{n:Nat}{δ:Dl}{M:Mem}(ht:∀K:Bool->Mem->Prop,K true M->c3 δ M K)(h:tb { D' with nx:=bz c3 tb D' bx n,ct:=bz c3 tb D' bx n,bk:=D'.nx } δ M):bz c3 tb D' bx (n+1) δ M:=by
 unfold bz;refine ht _ ?_;rw [if_pos rfl];exact h
theorem whF{c3:dz}{tb:au}{D':DEnds}{bx:BxW c3 tb D'}{n:Nat}{δ:Dl}{M:Mem}(ht:∀K:Bool->Mem->Prop,K false M->c3 δ M K)(h:D'.nx δ M):bz c3 tb D' bx (n+1) δ M:=by
 unfold bz;refine ht _ ?_;rw [if_neg (by simp)]
 exact h
theorem bA{M:Mem}{Q:DK}{p:Addr}{xs:List D}(hp:M p=none)(h:Q (.lst xs) M):frz (.ref p) (M.upd p (.lst xs)) Q:=by
 simp only [frz,Mem.upd_same,Mem.upd_del,aM hp];exact h
section
variable {C:Cse}{s t:Sta}{ad:Ad}{M:Mem}{Q:DK}{E:DX}{ks:List aw}
def az(C:Cse)(s t:Sta):List aw:=(ei C).filter fun k=>decide (b9 C s k≠b9 C t k)
theorem om(o:C.Ok)(h:∀p,M p=none->Q (.ref p) (M.upd p (.lst ((ei C).map kD)))):pb ad [C.d] M Q E:=by
 have l1:=o.l1;have few:=o.few;rw [Ht (n:=0)];unfold uu Cse.d;simp! [atI_1,atI_2];intro p1 h1;simp only [Mem.upd_del,aM h1];refine ⟨⟨by lia,by lia⟩,fun p2 h2=>?_⟩
 simp only [Mem.upd_del,aM h2];refine ⟨bw (by simp [cW];lia),fun p3 h3=>aj ?_⟩
 have:=h p3 h3;have e:(ei C).map kD=C.names.map D.str++cW 0 (Int.toNat (C.many:Nat)):=by simp only [ei,cW,List.map_append,List.map_map,Int.toNat_natCast];congr 1;exact List.map_congr_left fun i _=>by simp [kD]
 rw [e] at this;exact this
theorem xh(o:C.Ok)(hs:SOk C s)(ht:SOk C t)(h:∀p,M p=none->Q (.ref p) (M.upd p (.lst ((az C s t).map kD)))):sL ad [C.d,s.d,t.d] M Q E:=by
 have l1:=o.l1;have few:=o.few;have tl:(ei C).length=C.names.length+C.many:=by simp [ei]
 rw [GH (n:=0)];unfold tS;simp only [ax,aV,bN,ap,ak,aa,ac,af,List.getElem?_cons_succ,List.getElem?_cons_zero];refine ⟨rfl,ao fun Q' E' hq _=>om o fun p hp=>hq _ _ (bA hp ?_)⟩;simp only [aT,bv,bq,List.map_cons,List.map_nil,List.cons_append,List.nil_append,List.getElem?_cons_succ,List.getElem?_cons_zero,Option.join_some];refine eD (fun d=>match bW d with|some k=>decide (b9 C s k≠b9 C t k)|none=>false) id aY (by simp;lia) (fun x hx K q=>?_) (fun x hx _ K q=>q) ?_
 ·obtain ⟨k,hk,rfl⟩:=List.mem_map.mp hx
  simp only [am,ai,ap,ak,aa,ac,af,List.getElem?_cons_succ,List.getElem?_cons_zero];refine ⟨rfl,aG (fun _ _ q=>cG o hs hk q) ?_⟩;refine ⟨rfl,aG (fun _ _ q=>cG o ht hk q) ?_⟩;show bo 60 (.int _)=true/\bo 60 (.int _)=true/\_;refine ⟨rfl,rfl,?_⟩;have e:bW (kD k)=some k:=by cases k<;>rfl
  simp only [e] at q;simpa [dv,aC] using q
 ·intro p hp
  have e:(((ei C).map kD).filter fun d=>match bW d with|some k=>decide (b9 C s k≠b9 C t k)|none=>false).map id=(az C s t).map kD:=by
   rw [List.map_id,List.filter_map];congr 1;refine List.filter_congr fun k _=>?_;cases k<;>rfl
  rw [e];exact aj (h p hp)
theorem ke{a b:Int}(o:C.Ok)(hs:SOk C s)(ht:SOk C t)(ea:C.mark s=.int a)(eb:C.mark t=.int b)(hab:a≠b)(h:Q (.tup [.int a,.int b]) M):ot ad [bu C s t] M Q E:=by
 rw [Gi (n:=0)];unfold tM nG;generalize hK:jh ad (ay E)=K;simp! [bu,atI_0,atI_1,atI_2,atI_3];refine lJ o hs (oY ?_);rw [ea];simp! [];refine lJ o ht (oY ?_);rw [eb];simp! [List.set];rw [<- hK];unfold jh nI;simp! [hab,decide_false];exact ⟨bw (by decide),aj h⟩
theorem io{a b:Int}{m:D}(hm:m=.non\/∃v,m=.int v)(h:Q (.str (if aC m (.int a)=true then "sound" else if aC m (.int b)=true then "faulty" else "other")) M):sw ad [.tup [.int a,.int b],m] M Q E:=by
 rcases hm with rfl|⟨v,rfl⟩
 ·simp! [BV,pC,atI_0,atI_1]
  exact aj h
 ·simp! [BV,pC,atI_0,atI_1]
  simp only [aC,decide_eq_true_eq] at h
  split
  ·rename_i q;rw [if_pos q] at h;exact aj h
  ·rename_i q;rw [if_neg q] at h
   split
   ·rename_i q;rw [if_pos q] at h;exact aj h
   ·rename_i q;rw [if_neg q] at h;exact aj h
end
end Tw
namespace Tw
open PySem L2 L3
section
variable {κ:Type}[DecidableEq κ]
theorem Au{kvs:List (κ×D)}{k j:κ}{v:D}:(b_ (cT kvs k v) j).isSome=(decide (j=k)||(b_ kvs j).isSome):=by
 unfold cT
 split
 ·rename_i h
  induction kvs with
  |nil=>simp at h
  |cons p r ih=>
   obtain ⟨k1,d1⟩:=p;simp only [List.map_cons,b_,List.find?_cons] at*
   by_cases e:k1=k
   ·subst e
    by_cases e2:k1=j
    ·subst e2;simp
    ·have e3:¬j=k1:=fun z=>e2 z.symm
     simp only [if_pos,e2,decide_false,e3,Bool.false_or]
     by_cases h2:(r.any fun kv=>decide (kv.1=k1))=true
     ·have:=ih h2
      simp only [e3,decide_false,Bool.false_or] at this;exact this
     ·have:r.map (fun kv=>if kv.1=k1 then (kv.1,v) else kv)=r:=by
       conv=>rhs;rw [<- List.map_id r]
       refine List.map_congr_left fun q hq=>?_;have:¬q.1=k1:=fun z=>h2 (List.any_eq_true.mpr ⟨q,hq,by simp [z]⟩)
       simp [this]
      rw [this]
   ·rw [if_neg e]
    by_cases e2:k1=j
    ·subst e2;simp
    ·simp only [e2,decide_false]
     exact ih (by simpa [e] using h)
 ·rename_i h
  unfold b_;rw [List.find?_append];cases q:kvs.find? fun kv=>decide (kv.1=j) with
  |some x=>simp
  |none=>
   by_cases e:j=k
   ·subst e;simp
   ·have e2:¬k=j:=fun z=>e z.symm
    simp [e,e2]
theorem jG{kvs:List (κ×D)}{j:κ}:∀{a0:List (κ×D)},(b_ (kvs.foldl (fun a p=>cT a p.1 p.2) a0) j).isSome=(decide (j∈kvs.map (·.1))||(b_ a0 j).isSome):=by
 induction kvs with
 |nil=>simp
 |cons p r ih=>
  intro a0;rw [List.foldl_cons,ih,Au,List.map_cons]
  by_cases e:j=p.1
  ·simp [e]
  ·simp only [List.mem_cons,e,false_or,decide_false,Bool.false_or]
theorem uR{kvs:List (κ×D)}:∀{a0:List (κ×D)},(a0.map (·.1)++kvs.map (·.1)).Nodup->kvs.foldl (fun a p=>cT a p.1 p.2) a0=a0++kvs:=by
 induction kvs with
 |nil=>simp
 |cons p r ih=>
  intro a0 h;rw [List.foldl_cons];have e:cT a0 p.1 p.2=a0++[p]:=by
   unfold cT;rw [if_neg];intro z;obtain ⟨q,hq,e⟩:=List.any_eq_true.mp z;have e:=of_decide_eq_true e;rw [List.map_cons] at h;exact (List.nodup_append.mp h).2.2 q.1 (List.mem_map_of_mem hq) p.1 List.mem_cons_self e
  rw [e,ih]
  ·simp
  ·simpa using h
end
def uD(u:List aw):List (aw×D):=u.map fun k=>(k,D.bl true)
theorem jk{u:List aw}:(uD u).map (·.1)=u:=by
 unfold uD;rw [List.map_map];exact List.map_id u
theorem iL{u:List aw}{k:aw}:(b_ (uD u) k).isSome=decide (k∈u):=by
 have:=@jG aw _ (uD u) k [];rw [jk] at this
 induction u with
 |nil=>rfl
 |cons a r ih=>
  unfold uD b_;rw [List.map_cons,List.find?_cons]
  by_cases e:a=k
  ·subst e;simp
  ·have e2:¬k=a:=fun z=>e z.symm
   simp only [e,decide_false,List.mem_cons,e2,false_or];exact ih (@jG aw _ (uD r) k [] |>.trans (by rw [jk]))
theorem pz{u:List aw}{k:aw}:lD (uD u) k=uD (u.filter fun x=>decide (x≠k)):=by
 unfold lD uD;rw [List.filter_map];rfl
theorem gG:∀ks:List aw,og (ks.map fun k=>D.tup [kD k,.bl true])=some (uD ks)
 |[]=>rfl
 |k::ks=>by
  have e:bW (kD k)=some k:=by cases k<;>rfl
  simp only [List.map_cons,og,e,gG ks];rfl
section
variable {C:Cse}{s t:Sta}{ad:Ad}{M:Mem}{Q:DK}{E:DX}
theorem da{k:aw}:bW (kD k)=some k:=by cases k<;>rfl
theorem my{a:Addr}{kvs:List (aw×D)}{k:aw}(h:M a=some (.dK kvs)):we M (kD k) (.ref a)=some (b_ kvs k).isSome:=by
 unfold we;have:aT M (.ref a)=none:=by simp only [aT,h]
 rw [this];unfold nh;simp only [h,da]
theorem mM{ks:List aw}(o:C.Ok)(hk:ks.length<=1000)(h:∀p,M p=none->Q (.ref p) (M.upd p (.lst (((ei C).filter fun k=>decide (k∈ks)).map kD)))):uZ ad [C.d,mxD ks] M Q E:=by
 have l1:=o.l1;have few:=o.few;have tl:(ei C).length=C.names.length+C.many:=by simp [ei]
 rw [FZ (n:=0)];unfold uy;generalize hK:iI ad (ay E)=K;unfold mxD;simp only [ah,ar,bQ,aa,ap,aV,bN,ac,af,List.getElem?_cons_succ,List.getElem?_cons_zero,aT,bv,bq,List.map_cons,List.map_nil,List.cons_append,List.nil_append];refine de (fun d=>.tup [d,.bl true]) aY (by simp;lia) (fun x hx K q=>?_) ?_
 ·simp only [aR,aa,ac,dC,af,List.getElem?_cons_succ,List.getElem?_cons_zero]
  exact ⟨bw (by simp),q⟩
 ·intro p hp
  refine bA hp ?_;have e:(ks.map kD).map (fun d=>D.tup [d,.bl true])=ks.map fun k=>D.tup [kD k,.bl true]:=by simp
  rw [e];simp only [dM,xo,dk,gG];refine ⟨trivial,by simp [uD];lia,fun p1 h1=>?_⟩
  simp only [ag,List.set];rw [<- hK];unfold iI;simp only [ax,aV,bN,ap,ak,aa,ac,af,List.getElem?_cons_succ,List.getElem?_cons_zero];refine ⟨rfl,ao fun Q' E' hq _=>om o fun p2 h2=>hq _ _ (bA h2 ?_)⟩;simp only [aT,bv,bq,List.map_cons,List.map_nil,List.cons_append,List.nil_append,List.getElem?_cons_succ,List.getElem?_cons_zero,Option.join_some];refine eD (fun d=>match bW d with|some k=>decide (k∈ks)|none=>false) id aY (by simp;lia) (fun x hx K q=>?_) (fun x hx _ K q=>q) ?_
  ·obtain ⟨k,hk,rfl⟩:=List.mem_map.mp hx
   simp only [da] at q;simp only [am,ai,ac,List.getElem?_cons_succ,List.getElem?_cons_zero,Br,my (Mem.upd_same),jG,jk];simpa [b_] using q
  ·intro p3 h3
   have e:(((ei C).map kD).filter fun d=>match bW d with|some k=>decide (k∈ks)|none=>false).map id=((ei C).filter fun k=>decide (k∈ks)).map kD:=by
    rw [List.map_id,List.filter_map];congr 1;refine List.filter_congr fun k _=>?_;simp only [Function.comp,da]
   rw [e];have n1:p3≠p1:=fun z=>by rw [z,Mem.upd_same] at h3;cases h3
   rw [ae n1] at h3;refine ⟨M.upd p3 (.lst (((ei C).filter fun k=>decide (k∈ks)).map kD)),fun b ob e=>?_,h p3 h3⟩
   by_cases hb:b=p3
   ·subst hb;rw [Mem.upd_same] at e ⊢;exact e
   ·rw [ae hb] at e ⊢
    rw [ae (fun z=>by rw [z,h1] at e;cases e)]
    exact e
def eN:Rw->List Str
 |.pick _ y=>[y]
 |.two _ _ y z=>[y,z]
 |.ifr x _ _=>[x]
 |.again x _=>[x]
 |_=>[]
theorem jz{names:List Str}{m many:Int}{r:Rw}(hr:ie names m many r)(h:∀p,M p=none->Q (.ref p) (M.upd p (.lst ((eN r).map D.str)))):uY ad [r.d] M Q E:=by
 cases r with
 |put x k=>simp! [lL,g8,Rw.d,atI_0];exact ⟨bw (by decide),fun p hp=>aj (h p hp)⟩
 |take x i=>simp! [lL,g8,Rw.d,atI_0];exact ⟨bw (by decide),fun p hp=>aj (h p hp)⟩
 |pick x y=>simp! [lL,g8,Rw.d,atI_0];exact fun p hp=>aj (h p hp)
 |two w x y z=>
  obtain ⟨hw,_⟩:=hr;rcases hw with rfl|rfl|rfl|rfl<;>(simp! [lL,g8,Rw.d,atI_0];exact fun p hp=>aj (h p hp))
 |ifr x a b=>simp! [lL,g8,Rw.d,atI_0,atI_1];exact ⟨bw (by decide),fun p hp=>aj (h p hp)⟩
 |again x a=>simp! [lL,g8,Rw.d,atI_0,atI_1];exact ⟨bw (by decide),fun p hp=>aj (h p hp)⟩
end
end Tw
namespace Tw
open PySem L2 L3
structure Gk where
 a:Addr
 dn:Addr
 lp:Addr
 du:Addr
 h1:a≠dn
 h2:a≠lp
 h3:a≠du
 h4:dn≠lp
 h5:dn≠du
 h6:lp≠du
structure Gs where
 n:gH
 ps:List Int
 u:List aw
 td:List Rw
 left:Int
def ku:List Rw->D
 |[]=>.non
 |r::rs=>.tup [r.d,ku rs]
def gF(k:Gk)(td:D)(left:Int):List (Str×D):=[("numbers",.ref k.dn),("pieces",.ref k.lp),("unsettled",.ref k.du),("todo",td),("left",.int left)]
def gM(ad:Ad)(k:Gk)(g:Gs)(M:Mem):Mem:=(((M.upd k.a (.ins ad.C_Going (gF k (ku g.td) g.left))).upd k.dn (.dK (dj g.n))).upd k.lp (.lst (g.ps.map D.int))).upd k.du (.dK (uD g.u))
section
variable {ad:Ad}{k:Gk}{g:Gs}{M:Mem}
theorem dU:gM ad k g M k.du=some (.dK (uD g.u)):=by unfold gM;rw [Mem.upd_same]
theorem lm:gM ad k g M k.lp=some (.lst (g.ps.map D.int)):=by unfold gM;rw [ae k.h6,Mem.upd_same]
theorem dI:gM ad k g M k.dn=some (.dK (dj g.n)):=by unfold gM;rw [ae k.h5,ae k.h4,Mem.upd_same]
theorem bT:gM ad k g M k.a=some (.ins ad.C_Going (gF k (ku g.td) g.left)):=by unfold gM;rw [ae k.h3,ae k.h2,ae k.h1,Mem.upd_same]
theorem ik{b:Addr}(h1:b≠k.a)(h2:b≠k.dn)(h3:b≠k.lp)(h4:b≠k.du):gM ad k g M b=M b:=by
 unfold gM;rw [ae h4,ae h3,ae h2,ae h1]
structure Gk.Fr(k:Gk)(M:Mem):Prop where
 a:M k.a=none
 dn:M k.dn=none
 lp:M k.lp=none
 du:M k.du=none
theorem bC{b:Addr}(h:gM ad k g M b=none):b≠k.a/\b≠k.dn/\b≠k.lp/\b≠k.du/\M b=none:=by
 have h1:b≠k.a:=fun z=>by rw [z,bT] at h;cases h
 have h2:b≠k.dn:=fun z=>by rw [z,dI] at h;cases h
 have h3:b≠k.lp:=fun z=>by rw [z,lm] at h;cases h
 have h4:b≠k.du:=fun z=>by rw [z,dU] at h;cases h
 rw [ik h1 h2 h3 h4] at h;exact ⟨h1,h2,h3,h4,h⟩
theorem cD(f:k.Fr M){b:Addr}{o:MO}(e:M b=some o):gM ad k g M b=some o:=by
 rw [ik (fun z=>by rw [z,f.a] at e;cases e) (fun z=>by rw [z,f.dn] at e;cases e) (fun z=>by rw [z,f.lp] at e;cases e) (fun z=>by rw [z,f.du] at e;cases e)]
 exact e
theorem nD(f:k.Fr M){b:Addr}{o o':MO}(e:M b=some o):(gM ad k g M).upd b o'=gM ad k g (M.upd b o'):=by
 have n1:k.a≠b:=fun z=>by rw [<- z,f.a] at e;cases e
 have n2:k.dn≠b:=fun z=>by rw [<- z,f.dn] at e;cases e
 have n3:k.lp≠b:=fun z=>by rw [<- z,f.lp] at e;cases e
 have n4:k.du≠b:=fun z=>by rw [<- z,f.du] at e;cases e
 unfold gM;rw [aq n4,aq n3,aq n2,aq n1]
theorem uU{td:List Rw}{left:Int}:(gM ad k g M).upd k.a (.ins ad.C_Going (gF k (ku td) left))=gM ad k { g with td:=td,left:=left } M:=by
 unfold gM;rw [aq (Ne.symm k.h3),aq (Ne.symm k.h2),aq (Ne.symm k.h1),Mem.upd_upd]
theorem Cd{n:gH}:(gM ad k g M).upd k.dn (.dK (dj n))=gM ad k { g with n:=n } M:=by
 unfold gM;rw [aq (Ne.symm k.h5),aq (Ne.symm k.h4),Mem.upd_upd]
theorem Hd{ps:List Int}:(gM ad k g M).upd k.lp (.lst (ps.map D.int))=gM ad k { g with ps:=ps } M:=by
 unfold gM;rw [aq (Ne.symm k.h6),Mem.upd_upd]
theorem Cg{u:List aw}:(gM ad k g M).upd k.du (.dK (uD u))=gM ad k { g with u:=u } M:=by
 unfold gM;rw [Mem.upd_upd]
end
section
variable {k:Gk}{td:D}{left:Int}
theorem BW:List.lookup ("numbers":Str) (gF k td left)=some (.ref k.dn):=rfl
theorem gf1:List.lookup ("pieces":Str) (gF k td left)=some (.ref k.lp):=rfl
theorem Cm:List.lookup ("unsettled":Str) (gF k td left)=some (.ref k.du):=rfl
theorem Er:List.lookup ("todo":Str) (gF k td left)=some td:=rfl
theorem gf4:List.lookup ("left":Str) (gF k td left)=some (.int left):=rfl
theorem gfs:List.lookup ("settled":Str) (gF k td left)=none:=rfl
theorem C_{d:D}:bj "todo" d (gF k td left)=gF k d left:=rfl
theorem gfp4{v:Int}:bj "left" (.int v) (gF k td left)=gF k td v:=rfl
theorem gfl:(gF k td left).length=5:=rfl
end
section
variable {C:Cse}{s t:Sta}{ad:Ad}{M:Mem}{Q:DK}{E:DX}
theorem cX{rs td:List Rw}(h:Q (ku (rs++td)) M):jU ad [.tup (aL rs),ku td] M Q E:=by
 rw [Gx (n:=0)];unfold s_;simp only [ah,eV,Fz,aa,ac,af,List.getElem?_cons_succ,List.getElem?_cons_zero];refine cY (fun ys δ N=>∃(c:Option D) (us vs:List Rw),rs=us++vs/\ys=(aL us).reverse/\δ=[some (.tup (aL rs)),some (ku (vs++td)),c]/\N=M) (fun _ _ _ _=>aY) ?_ ?_ _ _ _ ⟨none,rs,[],by simp,rfl,rfl,rfl⟩
 ·rintro δ N ⟨c,us,vs,e1,e2,rfl,rfl⟩
  have:us=[]:=by
   cases us with
   |nil=>rfl
   |cons a b=>rw [aL] at e2;simp at e2
  subst this;rw [List.nil_append] at e1;subst e1;simp only [ax,ac,List.getElem?_cons_succ,List.getElem?_cons_zero];exact aj h
 ·rintro y ys δ N ⟨c,us,vs,e1,e2,rfl,rfl⟩ D' hD _ _ _
  obtain ⟨us',r,rfl⟩:∃us' r,us=us'++[r]:=by
   rcases List.eq_nil_or_concat us with z|⟨us',r,z⟩
   ·subst z;rw [aL] at e2;simp at e2
   ·exact ⟨us',r,by simpa using z⟩
  rw [aX,List.map_append,List.reverse_append] at e2;simp only [List.map_cons,List.map_nil,List.reverse_cons,List.reverse_nil,List.nil_append,List.cons_append,List.cons.injEq] at e2;obtain ⟨rfl,rfl⟩:=e2;simp only [ag,List.set];unfold ng;simp only [ar,aR,aa,ac,af,ag,List.set,List.getElem?_cons_succ,List.getElem?_cons_zero];exact ⟨bw (by simp),hD _ _ ⟨_,us',r::vs,by simp [e1],by rw [aX],rfl,rfl⟩⟩
end
end Tw
namespace Tw
open PySem L2 L3
structure GOk(C:Cse)(g:Gs):Prop where
 n:NOk C.names C.w g.n
 lp:g.ps.length=C.many
 rp:∀v∈g.ps,0<=v/\v<C.w
 td:df C.names C.w C.many g.td
def Gs.cf(C:Cse)(g:Gs):Cf:=⟨C.w,g.ps,C.most⟩
section
variable {C:Cse}{g:Gs}
theorem GOk.pd(k:GOk C g):C.d=aK (g.cf C) C.names C.rows C.mn:=by unfold Cse.d aK Gs.cf;rw [k.lp]
theorem GOk.co(k:GOk C g)(o:C.Ok):COk (g.cf C):=⟨o.m2,o.m1,k.rp,by show g.ps.length<=_;rw [k.lp];have:=o.few;lia,o.most⟩
def yC(C:Cse)(n:gH):Rw->Option Int
 |.take _ i=>some i
 |.pick _ y=>some (nm n y % (C.many:Int))
 |_=>none
def Ds(o:Option Int):D:=match o with
 |some i=>.int i
 |none=>.non
theorem iA{names:List Str}{m many:Int}{r:Rw}(h:ie names m many r)(hs:bV r=true):gx names m many r:=by
 cases r<;>first|exact h|cases hs
end
section
variable {C:Cse}{s t:Sta}{ad:Ad}{M:Mem}{Q:DK}{E:DX}{g:Gs}{r:Rw}
theorem hW{dn:Addr}(k:GOk C g)(hr:ie C.names C.w C.many r)(hd:M dn=some (.dK (dj g.n)))(h:Q (Ds (yC C g.n r)) M):jw ad [C.d,.ref dn,r.d] M Q E:=by
 cases hs:bV r with
 |true=>
  rw [k.pd];refine bL (c:=g.cf C) (names:=C.names) k.n (by have:=iA hr hs;rw [<- k.lp] at this;exact this) hd ?_
  have e:((g.cf C).pieces.length:Int)=(C.many:Int):=by show ((g.ps.length:Nat):Int)=_;rw [k.lp]
  cases r with
  |pick x y=>
   show Q (.int (nm g.n y % ((g.cf C).pieces.length:Int))) M;rw [e];exact h
  |_=>exact h
 |false=>
  cases r with
  |ifr x a b=>simp! [kU,fQ,Cse.d,Rw.d,atI_0,atI_2];exact aj h
  |again x a=>simp! [kU,fQ,Cse.d,Rw.d,atI_0,atI_2];exact aj h
  |_=>cases hs
theorem qC{dn lp:Addr}(o:C.Ok)(k:GOk C g)(hr:ie C.names C.w C.many r)(hs:bV r=true)(hd:M dn=some (.dK (dj g.n)))(hl:M lp=some (.lst (g.ps.map D.int)))(h:Q (.int (cm (g.cf C) g.n r)) M):
  jo ad [C.d,.ref dn,.ref lp,r.d] M Q E:=by
 have hm1:=o.m1;have hm2:=o.m2;have hc:=k.co o;have hrw:=iA hr hs;have hlp:=k.lp;have hpl:∀i:Nat,i<C.many->(g.ps.map D.int)[i]?=some (.int ((g.ps[i]?).getD 0)):=fun i hi=>by
  rw [List.getElem?_map,List.getElem?_eq_getElem (by lia)];rfl
 have pr:∀{K:DK},K (Ds (yC C g.n r)) M->∀Q' E',(∀d M,K d M->Q' d M)->jw ad [C.d,.ref dn,r.d] M Q' E':=fun {K} q Q' E' hq=>hW k hr hd (hq _ _ q);have hcd:C.d=.tup [.int C.w,.tup (C.names.map D.str),.int (C.many:Nat),.tup (aL C.rows),.str C.mn]:=rfl;cases r with
 |put x v=>
  simp! [h_,dG,hcd,Rw.d,atI_0,atI_2];exact aj h
 |take x i=>
  obtain ⟨hx,h0,h1⟩:=hrw;have e1:=hpl i.toNat (by lia)
  rw [Rw.d] at pr ⊢;simp! [h_,dG,atI_0,atI_2];refine ao fun Q' E' hq _=>pr (K:=fun d M=>_) ?_ Q' E' hq;simp! [yC,Ds,hl,bR h0,e1];exact aj h
 |pick x y=>
  obtain ⟨hx,hy,h0⟩:=hrw;have g0:=Int.emod_nonneg (nm g.n y) (show (C.many:Int)≠0 by lia)
  have g1:=Int.emod_lt_of_pos (nm g.n y) h0;have e1:=hpl (nm g.n y % (C.many:Int)).toNat (by lia)
  have e2:cm (g.cf C) g.n (.pick x y)=(g.ps[(nm g.n y % (C.many:Int)).toNat]?).getD 0:=by show (g.ps[(nm g.n y % (g.ps.length:Int)).toNat]?).getD 0=_;rw [hlp]
  rw [e2] at h;rw [Rw.d] at pr ⊢;simp! [h_,dG,atI_0,atI_2];refine ao fun Q' E' hq _=>pr (K:=fun d M=>_) ?_ Q' E' hq;simp! [yC,Ds,hl,bR g0,e1];exact aj h
 |two w x y z=>
  obtain ⟨hw,hx,hy,hz⟩:=hrw;have a1:=k.n.at hy;have a2:=k.n.at hz;have hw1:((w=Str.ofString "put")=False):=by rcases hw with rfl|rfl|rfl|rfl<;>exact eq_false (by decide +kernel)
  rw [Rw.d] at pr ⊢;simp! [h_,dG,atI_0,atI_2,hw1];refine ao fun Q' E' hq _=>pr (K:=fun d M=>_) ?_ Q' E' hq;simp! [yC,Ds,hcd,atI_0,atI_2,atI_3,hd,cn,a1.1,a2.1,Option.map_some];exact aG (d:=.int (cm (g.cf C) g.n (.two w x y z))) (fun _ _ q=>gZ (by lia) (by lia) (by lia) q) (aj h)
 |ifr=>cases hs
 |again=>cases hs
end
end Tw
namespace Tw
open PySem L2 L3
def cv(C:Cse)(g:Gs)(r:Rw):Option aw:=
 if g.u=[] then none else match (ei C).filter fun k=>decide (k∈((eN r).filter fun x=>decide ((Sum.inr x:aw)∈g.u)).map Sum.inr) with
  |k::_=>some k
  |[]=>match yC C g.n r with
   |some i=>if (Sum.inl i:aw)∈g.u then some (.inl i) else none
   |none=>none
def wl:Option aw->D
 |some k=>kD k
 |none=>.non
section
variable {C:Cse}{s t:Sta}{ad:Ad}{M:Mem}{Q:DK}{E:DX}{g:Gs}{r:Rw}{k:Gk}
theorem Be{names:List Str}{m many:Int}(h:ie names m many r):∀x∈eN r,x∈names:=by
 cases r with
 |put=>simp [eN]
 |take=>simp [eN]
 |pick x y=>intro z hz;simp [eN] at hz;subst hz;exact h.2.1
 |two w x y z=>intro v hv;simp [eN] at hv;rcases hv with rfl|rfl;exact h.2.2.1;exact h.2.2.2
 |ifr x a b=>intro z hz;simp [eN] at hz;subst hz;exact h.1
 |again x a=>intro z hz;simp [eN] at hz;subst hz;exact h.1
theorem xB:(eN r).length<=2:=by cases r<;>simp [eN]
theorem EG{u:List aw}:(uD u).isEmpty=u.isEmpty:=by cases u<;>rfl
theorem wE{x:Str}:we (gM ad k g M) (.str x) (.ref k.du)=some (decide ((Sum.inr x:aw)∈g.u)):=by
 have:=my (k:=.inr x) (dU (ad:=ad) (k:=k) (g:=g) (M:=M));rw [iL] at this;exact this
theorem mQ(o:C.Ok)(ok:GOk C g)(hr:ie C.names C.w C.many r)(h:Q (wl (cv C g r)) (gM ad k g M)):tm ad [C.d,.ref k.a,r.d] (gM ad k g M) Q E:=by
 have hin:=Be hr;have hl2:=xB (r:=r);rw [Hx (n:=0)];unfold sK;generalize hK5:iR ad (ay E)=K5;simp only [ah,aS,E_,fD,aO,ac,List.getElem?_cons_succ,List.getElem?_cons_zero,bT,Cm,C4,dU,EG];refine ⟨trivial,?_⟩;unfold cv at h;cases hu:g.u with
 |nil=>
  rw [if_pos hu] at h;simp only [List.isEmpty_nil,Bool.not_true,Bool.not_false,if_true,ax,dC];exact aj h
 |cons u0 ur=>
  rw [if_neg (by rw [hu];simp)] at h
  rw [if_neg (by simp)]
  simp only [aE];rw [<- hK5];unfold iR;generalize hK4:iD ad (ay E)=K4;simp only [ah,dL,eh,aV,bN,ap,ak,aa,ac,af,List.getElem?_cons_succ,List.getElem?_cons_zero];refine ⟨rfl,ao fun Q' E' hq _=>jz hr fun p hp=>hq _ _ (bA hp ?_)⟩;simp only [aT,bv,bq,List.map_cons,List.map_nil,List.cons_append,List.nil_append,List.getElem?_cons_succ,List.getElem?_cons_zero,Option.join_some];refine eD (fun d=>match d with|.str x=>decide ((Sum.inr x:aw)∈g.u)|_=>false) id aY (by simp;lia) (fun x hx K q=>?_) (fun x hx _ K q=>q) ?_
  ·obtain ⟨y,hy,rfl⟩:=List.mem_map.mp hx
   simp only [am,ai,ac,aO,List.getElem?_cons_succ,List.getElem?_cons_zero,bT,Cm,Br,wE];exact ⟨trivial,q⟩
  ·intro p hp
   generalize hf:((eN r).filter fun x=>decide ((Sum.inr x:aw)∈g.u))=fnd at h;have e:(((eN r).map D.str).filter fun d=>match d with|.str x=>decide ((Sum.inr x:aw)∈g.u)|_=>false).map id=(fnd.map Sum.inr).map kD:=by
    rw [List.map_id,List.filter_map,<- hf,List.map_map];rfl
   have hfn:∀x∈fnd,x∈C.names:=fun x hx=>by rw [<- hf] at hx;exact hin x (List.mem_filter.mp hx).1
   have hfl:fnd.length<=2:=by rw [<- hf];exact Nat.le_trans (List.length_filter_le _ _) hl2
   rw [e];simp only [gh,List.set,List.getElem?_cons_succ,List.getElem?_cons_zero];refine bA (Q:=fun d M'=>K4 _ [some C.d,some (.ref k.a),some r.d,some d,none] M') hp ?_;rw [<- hK4];unfold iD;generalize hK3:jb ad (ay E)=K3;simp only [ah,aS,fD,ac,List.getElem?_cons_succ,List.getElem?_cons_zero,C4];cases hc:fnd with
   |nil=>
    have hz:((ei C).filter fun k=>decide (k∈(fnd.map Sum.inr:List aw)))=[]:=by rw [hc];simp
    rw [hz] at h;simp only [List.map_nil,List.isEmpty_nil,Bool.not_true];rw [if_neg (by simp)]
    simp only [aE];rw [<- hK3];unfold jb ms;simp only [ah,ar,ap,ak,aa,ac,af,aO,List.getElem?_cons_succ,List.getElem?_cons_zero,bT,BW];refine ⟨trivial,rfl,aG (fun _ _ q=>hW ok hr dI q) ?_⟩;cases hp:yC C g.n r with
    |none=>
     simp only [hp] at h;simp only [Ds,frz,ag,List.set,ax,vn,am,ai,ac,dC,aO,List.getElem?_cons_succ,List.getElem?_cons_zero,bT,Cm,wR,uv,dU];refine ⟨trivial,?_⟩;rw [if_neg (by simp)]
     exact aj h
    |some i=>
     simp only [hp] at h;have hi:=my (k:=.inl i) (dU (ad:=ad) (k:=k) (g:=g) (M:=M));rw [iL] at hi;simp only [kD] at hi;simp only [Ds,frz,ag,List.set,ax,vn,am,ai,ac,dC,aO,List.getElem?_cons_succ,List.getElem?_cons_zero,bT,Cm,wR,uv,hi];refine ⟨trivial,?_⟩
     by_cases c:(Sum.inl i:aw)∈g.u
     ·rw [if_pos c] at h
      rw [if_pos (by simpa using c)]
      exact aj h
     ·rw [if_neg c] at h
      rw [if_neg (by simpa using c)]
      exact aj h
   |cons f0 fr=>
    have hmem:∃k0 kr,((ei C).filter fun k=>decide (k∈(fnd.map Sum.inr:List aw)))=k0::kr:=by
     have:(Sum.inr f0:aw)∈(ei C).filter fun k=>decide (k∈(fnd.map Sum.inr:List aw)):=by
      refine List.mem_filter.mpr ⟨List.mem_append_left _ (List.mem_map_of_mem (hfn f0 (by rw [hc];simp))),?_⟩
      rw [hc];simp
     cases q:(ei C).filter fun k=>decide (k∈(fnd.map Sum.inr:List aw)) with
     |nil=>rw [q] at this;cases this
     |cons a b=>exact ⟨a,b,rfl⟩
    obtain ⟨k0,kr,e0⟩:=hmem;rw [e0] at h;simp only at h;have hne:((f0::fr).map (Sum.inr:Str->aw)).map kD≠[]:=by simp
    rw [if_pos (by simp)]
    unfold mU;simp only [ax,ai,ap,ak,aa,ac,af,dC,List.getElem?_cons_succ,List.getElem?_cons_zero];refine ⟨rfl,ao fun Q' E' hq _=>mM (ks:=(f0::fr).map Sum.inr) o (by rw [<- hc,List.length_map];lia) fun p hp=>hq _ _ (bA hp ?_)⟩
    rw [<- hc,e0];simp only [aB,aT,List.map_cons,atI_0,List.getElem?_cons_zero];exact aj h
end
end Tw
namespace Tw
open PySem L2 L3
theorem okRs_app{names:List Str}{m many:Int}:∀{a b:List Rw},df names m many (a++b)↔df names m many a/\df names m many b
 |[],b=>by simp [df]
 |r::a,b=>by simp [df,okRs_app,and_assoc]
def iU(C:Cse)(g:Gs)(rest:List Rw):Rw->Gs
 |.ifr x a b=>{ g with left:=g.left-1,td:=(if nm g.n x=0 then b else a)++rest }
 |.again x a=>{ g with left:=g.left-1,td:=if nm g.n x=0 then rest else a++(.again x a::rest) }
 |r=>{ g with left:=g.left-1,td:=rest,n:=sN g.n (gq r) (cm (g.cf C) g.n r),u:=g.u.filter fun k=>decide (k≠.inr (gq r)) }
theorem pf{C:Cse}{g:Gs}{rest:List Rw}{r:Rw}:(iU C g rest r).left=g.left-1:=by cases r<;>rfl
section
variable {C:Cse}{s t:Sta}{ad:Ad}{M:Mem}{Q:DK}{E:DX}{g:Gs}{r:Rw}{k:Gk}{rest:List Rw}
theorem xk(o:C.Ok)(ok:GOk C g)(hr:ie C.names C.w C.many r)(hs:bV r=true):0<=cm (g.cf C) g.n r/\cm (g.cf C) g.n r<C.w:=
 rN (ok.co o) (names:=C.names) ok.n (by have:=iA hr hs;rw [<- ok.lp] at this;exact this)
theorem xa(o:C.Ok)(ok:GOk C g)(e:g.td=r::rest):GOk C (iU C g rest r):=by
 have h:=ok.td;rw [e] at h;obtain ⟨hr,hrest⟩:=h;have hset:bV r=true->GOk C { g with left:=g.left-1,td:=rest,n:=sN g.n (gq r) (cm (g.cf C) g.n r),u:=g.u.filter fun k=>decide (k≠.inr (gq r)) }:=fun hs=>
  ⟨yg (c:=g.cf C) ok.n (xk o ok hr hs),ok.lp,ok.rp,hrest⟩
 cases r with
 |ifr x a b=>
  refine ⟨ok.n,ok.lp,ok.rp,okRs_app.mpr ⟨?_,hrest⟩⟩
  split
  ·exact hr.2.2
  ·exact hr.2.1
 |again x a=>
  refine ⟨ok.n,ok.lp,ok.rp,?_⟩;show df _ _ _ (if nm g.n x=0 then rest else a++(.again x a::rest))
  split
  ·exact hrest
  ·exact okRs_app.mpr ⟨hr.2,hr,hrest⟩
 |put x v=>exact hset rfl
 |take x v=>exact hset rfl
 |pick x y=>exact hset rfl
 |two w x y z=>exact hset rfl
theorem D7{names:List Str}{m many:Int}(h:gx names m many r):gq r∈names:=by
 cases r with
 |put x v=>exact h.1
 |take x v=>exact h.1
 |pick x v=>exact h.1
 |two w x y z=>exact h.2.1
 |ifr=>exact h.elim
 |again=>exact h.elim
theorem za:FR (gM ad k g M) (.ref k.du)=true:=by simp only [FR,dU]
theorem ui{u:List aw}{k:aw}(h:k∉u):u.filter (fun x=>decide (x≠k))=u:=List.filter_eq_self.mpr fun x hx=>by
 have:x≠k:=fun z=>h (z▸hx);simp [this]
theorem CO{D':DEnds}{EE:DX}(o:C.Ok)(ok:GOk C g)(hr:ie C.names C.w C.many r)(hs:bV r=true)
  (h:D'.nx [some C.d,some (.ref k.a),some r.d] (gM ad k { g with n:=sN g.n (gq r) (cm (g.cf C) g.n r),u:=g.u.filter fun k=>decide (k≠.inr (gq r)) } M)):
  gD ad EE D' [some C.d,some (.ref k.a),some r.d] (gM ad k g M):=by
 have hx:=D7 (iA hr hs);have ix1:∀{M:Mem} {K:DK},K (.str (gq r)) M->aB r.d (.int 1) M K:=fun q=>by
  cases r with
  |ifr=>cases hs
  |again=>cases hs
  |_=>simp only [Rw.d,aB,aT,atI_1,List.getElem?_cons_succ,List.getElem?_cons_zero];exact q
 have keys:gq r∈g.n.map (·.1):=by rw [ok.n.keys];exact hx
 unfold gD qG;simp only [ah,ar,ap,ak,aa,ac,af,aO,List.getElem?_cons_succ,List.getElem?_cons_zero,bT,BW,gf1];refine ⟨trivial,trivial,rfl,aG (fun _ _ q=>qC o ok hr hs dI lm q) ?_⟩;simp only [frz,gT,aO,ai,ac,dC,List.getElem?_cons_succ,List.getElem?_cons_zero,bT,BW];refine ⟨trivial,ix1 ?_⟩;have nl:(dj g.n).length<sizeLine:=by
  have h1:(dj g.n).length=C.names.length:=by rw [<- ok.n.keys];simp [dj]
  have:=o.l1;exact ma (by lia)
 simp only [qJ,dI,bW,nJ keys,Cd];refine ⟨nl,?_⟩;simp only [ba,xC,aO,ai,ac,dC,List.getElem?_cons_succ,List.getElem?_cons_zero,bT,Cm,za];refine ⟨trivial,trivial,ix1 ?_⟩;simp only [dU,bW];cases hv:b_ (uD g.u) (.inr (gq r)) with
 |some v=>simp only [pz,Cg];exact h
 |none=>
  have hn:(Sum.inr (gq r):aw)∉g.u:=fun z=>by
   have:=iL (u:=g.u) (k:=.inr (gq r));rw [hv] at this;simp [z] at this
  rw [ui hn] at h;exact h
theorem rA(o:C.Ok)(ok:GOk C g)(e:g.td=r::rest)(h:Q .non (gM ad k (iU C g rest r) M)):zT ad [C.d,.ref k.a,r.d] (gM ad k g M) Q E:=by
 have htd:=ok.td;rw [e] at htd;obtain ⟨hr,hrest⟩:=htd;have ok1:GOk C { g with td:=rest,left:=g.left-1 }:=⟨ok.n,ok.lp,ok.rp,hrest⟩;rw [u_q9 (n:=0)];unfold A7 qt;generalize hK:nc ad (ay E)=K;have etd:ku g.td=.tup [r.d,ku rest]:=by rw [e];rfl
 have u1:=uU (ad:=ad) (k:=k) (g:=g) (M:=M) (td:=g.td) (left:=g.left-1);simp only [ah,nz,bM,aO,ai,ac,dC,List.getElem?_cons_succ,List.getElem?_cons_zero,bT,gf4,gfl,gfp4,u1];refine ⟨trivial,by decide,trivial,trivial,?_⟩
 have u2:=uU (ad:=ad) (k:=k) (g:={ g with left:=g.left-1 }) (M:=M) (td:=rest) (left:=g.left-1);simp only [Er,etd,aB,aT,atI_1,List.getElem?_cons_succ,List.getElem?_cons_zero,bT,gfl,C_,u2];refine ⟨trivial,by decide,?_⟩
 rw [<- hK];unfold nc qz;have hset:bV r=true->∀{D':DEnds} {EE:DX},D'.nx [some C.d,some (.ref k.a),some r.d] (gM ad k (iU C g rest r) M)->gD ad EE D' [some C.d,some (.ref k.a),some r.d] (gM ad k { g with td:=rest,left:=g.left-1 } M):=fun hs D' EE q=>CO o ok1 hr hs (by
  cases r with
  |ifr=>cases hs
  |again=>cases hs
  |_=>exact q)
 generalize hK5:gD ad (ay E)=K5;have hset':bV r=true->K5 { nx:=fun _ M'=>drp Q .non M',rt:=drp Q } [some C.d,some (.ref k.a),some r.d] (gM ad k { g with td:=rest,left:=g.left-1 } M):=fun hs=>by
  rw [<- hK5];exact hset hs (aj h)
 cases r with
 |ifr x a b=>
  have hx:x∈C.names:=hr.1;have hn:=(ok1.n.at hx).1;have u3:=fun l=>uU (ad:=ad) (k:=k) (g:={ g with td:=rest,left:=g.left-1 }) (M:=M) (td:=l) (left:=g.left-1);have fin:∀l:List Rw,(iU C g rest (.ifr x a b)).td=l++rest->calls (jU ad) (ay E) [.tup (aL l),ku rest] (gM ad k { g with td:=rest,left:=g.left-1 } M) (fun d M'=>frz d M' fun y M1=>match M1 k.a with
    |some (MO.ins C' fs)=>C'=ad.C_Going/\fs.length<1000/\drp Q D.non (M1.upd k.a (MO.ins ad.C_Going (bj (Str.ofString "todo") y fs)))
    |_=>False) ⟨⟩:=fun l hl=>by
   refine aG (fun _ _ q=>cX q) ?_;have ft:∀{l:List Rw} {M:Mem} {Q:DK},Q (ku l) M->frz (ku l) M Q:=fun {l} {M} {Q} q=>by cases l<;>exact q
   refine ft ?_;simp only [bT,gfl,C_,u3];rw [<- hl];exact ⟨trivial,by decide,aj h⟩
  simp only [Rw.d];simp! [atI_0,atI_1,atI_2,atI_3,bT,BW,Er,dI,cn,hn,Option.map_some]
  by_cases c:nm g.n x=0
  ·simp only [c,decide_true,if_true]
   exact fin b (by simp only [iU,c,if_true])
  ·simp only [c,decide_false]
   exact fin a (by simp only [iU,c,if_false])
 |again x a=>
  have hx:x∈C.names:=hr.1;have hn:=(ok1.n.at hx).1;have u3:=fun l=>uU (ad:=ad) (k:=k) (g:={ g with td:=rest,left:=g.left-1 }) (M:=M) (td:=l) (left:=g.left-1);simp only [Rw.d];simp! [atI_0,atI_1,atI_2,bT,BW,Er,dI,cn,hn,Option.map_some]
  by_cases c:nm g.n x=0
  ·simp only [c,decide_true,Bool.not_true]
   refine aj ?_;have:iU C g rest (.again x a)={ g with td:=rest,left:=g.left-1 }:=by simp only [iU,c,if_true]
   rw [<- this];exact h
  ·simp only [c,decide_false,Bool.not_false,if_true]
   refine ⟨bw (by decide),?_⟩
   refine aG (fun _ _ q=>cX (td:=.again x a::rest) q) ?_;have ft:∀{l:List Rw} {M:Mem} {Q:DK},Q (ku l) M->frz (ku l) M Q:=fun {l} {M} {Q} q=>by cases l<;>exact q
   refine ft ?_;simp only [ac,List.getElem?_cons_succ,List.getElem?_cons_zero,bT,gfl,C_,u3];have:iU C g rest (.again x a)={ g with td:=a++(.again x a::rest),left:=g.left-1 }:=by simp only [iU,c,if_false]
   rw [<- this];exact ⟨trivial,by decide,aj h⟩
 |put x v=>simp only [Rw.d] at hset' ⊢;simp! [atI_0];exact hset' rfl
 |take x v=>simp only [Rw.d] at hset' ⊢;simp! [atI_0];exact hset' rfl
 |pick x y=>simp only [Rw.d] at hset' ⊢;simp! [atI_0];exact hset' rfl
 |two w x y z=>
  obtain ⟨hw,_⟩:=hr;have h1:((w=Str.ofString "if")=False):=by rcases hw with rfl|rfl|rfl|rfl<;>exact eq_false (by decide +kernel)
  have h2:((w=Str.ofString "again")=False):=by rcases hw with rfl|rfl|rfl|rfl<;>exact eq_false (by decide +kernel)
  simp only [Rw.d] at hset' ⊢;simp! [atI_0,h1,h2];exact hset' rfl
end
end Tw
namespace Tw
open PySem L2 L3
def bn(C:Cse):Nat->Gs->Option aw×Gs
 |0,g=>(none,g)
 |f+1,g=>match g.td with
  |[]=>(if (Sum.inr C.mn:aw)∈g.u then some (.inr C.mn) else none,g)
  |r::rest=>if g.left<=0 then (none,g) else match cv C g r with
   |some k=>(some k,g)
   |none=>bn C f (iU C g rest r)
section
variable {C:Cse}{s t:Sta}{ad:Ad}{M:Mem}{Q:DK}{E:DX}{g:Gs}{k:Gk}
theorem y3{td:List Rw}:kt (ku td)=td.isEmpty:=by cases td<;>rfl
theorem sP(o:C.Ok):∀(f:Nat) (g:Gs),GOk C g->GOk C (bn C f g).2
 |0,g,h=>h
 |f+1,g,h=>by
  unfold bn;cases e:g.td with
  |nil=>exact h
  |cons r rest=>
   dsimp only
   split
   ·exact h
   ·cases a:cv C g r with
    |some k=>exact h
    |none=>exact sP o f _ (xa o h e)
theorem Ay{EE:DX}{D':DEnds}{r:Rw}{rest:List Rw}{c2 c3:Option D}(o:C.Ok)(ok:GOk C g)(e:g.td=r::rest)(h1:g.left<=0->D'.rt .non (gM ad k g M))(h2:¬g.left<=0->∀q,cv C g r=some q->D'.rt (kD q) (gM ad k g M))
  (h3:¬g.left<=0->cv C g r=none->∀c2 c3,D'.nx [some C.d,some (.ref k.a),c2,c3] (gM ad k (iU C g rest r) M)):eF ad EE D' [some C.d,some (.ref k.a),c2,c3] (gM ad k g M):=by
 have htd:=ok.td;rw [e] at htd;obtain ⟨hr,hrest⟩:=htd;have etd:ku g.td=.tup [r.d,ku rest]:=by rw [e];rfl
 unfold eF;generalize hK4:iY ad EE=K4;simp only [ah,aS,am,ai,aO,ac,dC,oLe,gr,List.getElem?_cons_succ,List.getElem?_cons_zero,bT,gf4];refine ⟨trivial,?_⟩
 by_cases hl:g.left<=0
 ·rw [if_pos (by simpa using hl)]
  exact h1 hl
 ·rw [if_neg (by simpa using hl)]
  simp only [aE];rw [<- hK4];unfold iY mY;generalize hK2:iW ad EE=K2;simp only [ah,ar,ai,aO,ac,dC,List.getElem?_cons_succ,List.getElem?_cons_zero,bT,Er,etd,aB,aT,atI_0,ag,List.set,ap,ak,aa,af];refine ⟨trivial,rfl,aG (fun _ _ q=>mQ o ok hr q) ?_⟩;have fo:∀{q:Option aw} {M:Mem} {Q:DK},Q (wl q) M->frz (wl q) M Q:=fun {q} {M} {Q} z=>by
   cases q with
   |none=>exact z
   |some k=>cases k<;>exact z
  refine fo ?_;rw [<- hK2];unfold iW mW;have nn:kt (wl (cv C g r))=(cv C g r).isNone:=by
   cases cv C g r with
   |none=>rfl
   |some k=>cases k<;>rfl
  simp only [ah,aS,am,ai,ac,dC,fg,List.getElem?_cons_succ,List.getElem?_cons_zero,nn];cases ha:cv C g r with
  |some q=>
   rw [if_pos (by simp)]
   exact h2 hl q ha
  |none=>
   rw [if_neg (by simp)]
   simp only [aE,ba,ak,aa,ac,af,List.getElem?_cons_succ,List.getElem?_cons_zero];exact ⟨rfl,ao fun Q' E' hq _=>rA o ok e (hq _ _ (h3 hl ha _ _))⟩
theorem kZ{EE:DX}{D':DEnds}{bx:BxW (am (ai fg (aO ad.C_Going (ac 1) "todo") (dC .non))) (eF ad EE) D'}(o:C.Ok):∀(f:Nat) (g:Gs) (c2 c3:Option D),GOk C g->g.left<f->
  (∀c2 c3 g',(bn C f g)=(if (Sum.inr C.mn:aw)∈g'.u then some (.inr C.mn) else none,g')->g'.td=[]->D'.nx [some C.d,some (.ref k.a),c2,c3] (gM ad k g' M))->
  (∀g' q,bn C f g=(q,g')->D'.rt (wl q) (gM ad k g' M))->0<=g.left->
  bz (am (ai fg (aO ad.C_Going (ac 1) "todo") (dC .non))) (eF ad EE) D' bx (f+1) [some C.d,some (.ref k.a),c2,c3] (gM ad k g M)
 |0,g,c2,c3,ok,hf,h1,h2,h0=>by lia
 |f+1,g,c2,c3,ok,hf,h1,h2,h0=>by
  have tst:∀K:Bool->Mem->Prop,K (!g.td.isEmpty) (gM ad k g M)->am (ai fg (aO ad.C_Going (ac 1) "todo") (dC .non)) [some C.d,some (.ref k.a),c2,c3] (gM ad k g M) K:=fun K q=>by
   simp only [am,ai,aO,ac,dC,List.getElem?_cons_succ,List.getElem?_cons_zero,bT,Er,fg,y3];exact ⟨trivial,q⟩
  cases e:g.td with
  |nil=>
   refine whF (fun K q=>tst K (by rw [e];exact q)) (h1 c2 c3 g ?_ e)
   unfold bn;rw [e]
  |cons r rest=>
   have eg:bn C (f+1) g=if g.left<=0 then (none,g) else match cv C g r with
    |some k=>(some k,g)
    |none=>bn C f (iU C g rest r):=by conv=>lhs;unfold bn;rw [e]
   have hdl:(iU C g rest r).left=g.left-1:=pf;refine whT (fun K q=>tst K (by rw [e];exact q)) (Ay o ok e (fun hl=>?_) (fun hl q ha=>?_) fun hl ha c2 c3=>?_)
   ·rw [if_pos hl] at eg
    exact h2 g none eg
   ·rw [if_neg hl,ha] at eg
    exact h2 g (some q) eg
   ·rw [if_neg hl,ha] at eg
    exact kZ o f _ _ _ (xa o ok e) (by lia) (fun c2 c3 g' q=>h1 c2 c3 g' (eg.trans q)) (fun g' q z=>h2 g' q (eg.trans z)) (by lia)
theorem vI{f:Nat}(o:C.Ok)(ok:GOk C g)(h0:0<=g.left)(hf:g.left<f)(h:Q (wl (bn C f g).1) (gM ad k (bn C f g).2 M)):sD ad [C.d,.ref k.a] (gM ad k g M) Q E:=by
 rw [FX (n:=0)];unfold tV;simp only [ah,cE];refine ⟨f+1,kZ o f g _ _ ok hf (fun c2 c3 g' e _=>?_) (fun g' q e=>?_) h0⟩
 ·unfold nA
  rw [e] at h;have hcd:C.d=.tup [.int C.w,.tup (C.names.map D.str),.int (C.many:Nat),.tup (aL C.rows),.str C.mn]:=rfl;simp only [hcd,ax,vn,am,ai,aO,ac,dC,List.getElem?_cons_succ,List.getElem?_cons_zero,aB,aT,atI_4,bT,Cm,Br,wE];refine ⟨trivial,?_⟩
  by_cases c:(Sum.inr C.mn:aw)∈g'.u
  ·simp only [if_pos c,wl,kD] at h
   rw [if_pos (by simpa using c)]
   exact aj h
  ·simp only [if_neg c,wl] at h
   rw [if_neg (by simpa using c)]
   exact aj h
 ·rw [e] at h
  exact aj h
def AN(C:Cse)(g:Gs):D:=if g.td=[] then .int (nm g.n C.mn) else .non
theorem oE(o:C.Ok)(ok:GOk C g)(h:Q (AN C g) (gM ad k g M)):rP ad [C.d,.ref k.a] (gM ad k g M) Q E:=by
 have hn:=(ok.n.at o.mn).1;have hcd:C.d=.tup [.int C.w,.tup (C.names.map D.str),.int (C.many:Nat),.tup (aL C.rows),.str C.mn]:=rfl;rw [GE (n:=0)];unfold uk;simp only [hcd,ax,vn,am,ai,aO,ac,dC,List.getElem?_cons_succ,List.getElem?_cons_zero,bT,Er,iq,y3];refine ⟨trivial,?_⟩;unfold AN at h;cases e:g.td with
 |nil=>
  rw [if_pos e] at h;simp only [List.isEmpty_nil,if_true,BW,aB,aT,atI_4,List.getElem?_cons_succ,List.getElem?_cons_zero,dI,nh,bW,cn,hn,Option.map_some];exact ⟨trivial,aj h⟩
 |cons r rest=>
  rw [if_neg (by rw [e];simp)] at h
  rw [if_neg (by simp)]
  exact aj h
end
end Tw
namespace Tw
open PySem L2 L3
def cz(g:Gs)(q:aw)(v:Int):Gs:=match q with
 |.inl i=>{ g with u:=g.u.filter fun k=>decide (k≠q),ps:=g.ps.set i.toNat v }
 |.inr x=>{ g with u:=g.u.filter fun k=>decide (k≠q),n:=sN g.n x v }
section
variable {C:Cse}{s t:Sta}{ad:Ad}{M:Mem}{Q:DK}{E:DX}{g:Gs}{k:Gk}{q:aw}{v:Int}
theorem ud(ok:GOk C g)(hv:0<=v/\v<C.w):GOk C (cz g q v):=by
 cases q with
 |inl i=>
  refine ⟨ok.n,by show (g.ps.set _ _).length=_;rw [List.length_set];exact ok.lp,fun z hz=>?_,ok.td⟩
  rcases List.mem_or_eq_of_mem_set hz with h|h
  ·exact ok.rp z h
  ·rw [h];exact hv
 |inr x=>exact ⟨yg (c:=g.cf C) ok.n hv,ok.lp,ok.rp,ok.td⟩
theorem ju:(cz g q v).u=g.u.filter fun k=>decide (k≠q):=by cases q<;>rfl
theorem lc:(cz g q v).left=g.left:=by cases q<;>rfl
theorem kh{x:Addr}{d1 d2 d3 td:D}{left:Int}(h:Q .non (M.upd x (.ins ad.C_Going [("numbers",d1),("pieces",d2),("unsettled",d3),("todo",td),("left",.int left)]))):
  y6 ad [.ref x,d1,d2,d3,td,.int left] (M.upd x (.ins ad.C_Going [])) Q E:=by
 have e1:bj ("numbers":Str) d1 []=[(("numbers":Str),d1)]:=rfl;have e2:bj ("pieces":Str) d2 [(("numbers":Str),d1)]=[(("numbers":Str),d1),(("pieces":Str),d2)]:=rfl;have e3:bj ("unsettled":Str) d3 [(("numbers":Str),d1),(("pieces":Str),d2)]=[(("numbers":Str),d1),(("pieces":Str),d2),(("unsettled":Str),d3)]:=rfl;have e4:bj ("todo":Str) td [(("numbers":Str),d1),(("pieces":Str),d2),(("unsettled":Str),d3)]=[(("numbers":Str),d1),(("pieces":Str),d2),(("unsettled":Str),d3),(("todo":Str),td)]:=rfl;have e5:bj ("left":Str) (.int left) [(("numbers":Str),d1),(("pieces":Str),d2),(("unsettled":Str),d3),(("todo":Str),td)]=[(("numbers":Str),d1),(("pieces":Str),d2),(("unsettled":Str),d3),(("todo":Str),td),(("left":Str),.int left)]:=rfl;rw [u_q2 (n:=0)];unfold zV;simp! [Mem.upd_same,Mem.upd_upd,e1,e2,e3,e4,e5,List.length_nil,List.length_cons];exact ⟨by decide,by decide,by decide,by decide,by decide,aj h⟩
structure Gat(ad:Ad)(k:Gk)(g:Gs)(N:Mem):Prop where
 a:N k.a=some (.ins ad.C_Going (gF k (ku g.td) g.left))
 dn:N k.dn=some (.dK (dj g.n))
 lp:N k.lp=some (.lst (g.ps.map D.int))
 du:N k.du=some (.dK (uD g.u))
theorem Gat.of:Gat ad k g (gM ad k g M):=⟨bT,dI,lm,dU⟩
theorem Gat.more{k1:Gk}{g1:Gs}(h:Gat ad k g M)(f:k1.Fr M):Gat ad k g (gM ad k1 g1 M):=⟨cD f h.a,cD f h.dn,cD f h.lp,cD f h.du⟩
theorem mL{N:Mem}(at':Gat ad k g N)(o:C.Ok)(ok:GOk C g)(hk:q∈ei C)(hu:q∈g.u)(h:∀k':Gk,k'.Fr N->Q (.ref k'.a) (gM ad k' (cz g q v) N)):
  vC ad [.ref k.a,kD q,.int v] N Q E:=by
 obtain ⟨ha,hdn,hlp,hdu⟩:=at';rw [u_q6 (n:=0)];unfold AL;generalize hK:l_ ad (ay E)=K;simp only [ah,ar,dP,aa,af,bQ,aO,ac,List.getElem?_cons_succ,List.getElem?_cons_zero,ha,BW,ko,hdn];refine ⟨trivial,fun p1 h1=>?_⟩;have a1:k.a≠p1:=Mem.ne ha h1;have l1:k.lp≠p1:=Mem.ne hlp h1;have u1:k.du≠p1:=Mem.ne hdu h1;simp only [ae a1,ha,gf1,g6,aT,ae l1,hlp];refine ⟨trivial,fun p2 h2=>?_⟩;have n21:p1≠p2:=Mem.ne Mem.upd_same h2;rw [ae n21.symm] at h2;have a2:k.a≠p2:=Mem.ne ha h2;have u2:k.du≠p2:=Mem.ne hdu h2;simp only [ae a2,ae a1,ha,Cm,ae u2,ae u1,hdu];refine ⟨trivial,fun p3 h3=>?_⟩;have n32:p2≠p3:=Mem.ne Mem.upd_same h3;rw [ae n32.symm] at h3;have n31:p1≠p3:=Mem.ne Mem.upd_same h3;rw [ae n31.symm] at h3;have a3:k.a≠p3:=Mem.ne ha h3;simp only [ae a3,ae a2,ae a1,ha,Er,gf4];refine ⟨trivial,trivial,rfl,fun x hx=>?_⟩;have n43:p3≠x:=Mem.ne Mem.upd_same hx;rw [ae n43.symm] at hx;have n42:p2≠x:=Mem.ne Mem.upd_same hx;rw [ae n42.symm] at hx;have n41:p1≠x:=Mem.ne Mem.upd_same hx;rw [ae n41.symm] at hx;refine ao fun Q' E' hq _=>kh (hq _ _ ?_);have key:((((N.upd p1 (.dK (dj g.n))).upd p2 (.lst (g.ps.map D.int))).upd p3 (.dK (uD g.u))).upd x (.ins ad.C_Going [("numbers",.ref p1),("pieces",.ref p2),("unsettled",.ref p3),("todo",ku g.td),("left",.int g.left)]))=gM ad ⟨x,p1,p2,p3,n41.symm,n42.symm,n43.symm,n21,n31,n32⟩ g N:=by
  unfold gM gF;rw [aq n43,aq n42,aq n41]
 rw [key];have hfr:Gk.Fr ⟨x,p1,p2,p3,n41.symm,n42.symm,n43.symm,n21,n31,n32⟩ N:=⟨hx,h1,h2,h3⟩;have hh:=h _ hfr;generalize hk':(⟨x,p1,p2,p3,n41.symm,n42.symm,n43.symm,n21,n31,n32⟩:Gk)=k' at *;have ex:x=k'.a:=by rw [<- hk']
 rw [ex];simp only [ag,List.set];rw [<- hK];unfold l_;generalize hK3:mj ad (ay E)=K3;have hv:∃w,b_ (uD g.u) q=some w:=Option.isSome_iff_exists.mp (by rw [iL];simpa using hu)
 obtain ⟨w,hv⟩:=hv;simp only [ah,ba,wS,aO,ac,List.getElem?_cons_succ,List.getElem?_cons_zero,bT,Cm,za,dU,da,hv,pz,Cg];refine ⟨trivial,trivial,?_⟩;rw [<- hK3];unfold mj q_ pU;rcases mm hk with ⟨y,hy,rfl⟩|⟨i,hi,rfl⟩
 ·have keys:y∈g.n.map (·.1):=by rw [ok.n.keys];exact hy
  have nl:(dj g.n).length<sizeLine:=by
   have h1:(dj g.n).length=C.names.length:=by rw [<- ok.n.keys];simp [dj]
   have:=o.l1;exact ma (by lia)
  simp only [kD] at hh ⊢;simp! [bb,k4,String.reduceBEq,Bool.or_true,Bool.or_false,Bool.false_or,Bool.true_or,bT,BW,dI,nJ keys,Cd];exact ⟨nl,aj hh⟩
 ·have e3:nP (g.ps.map D.int).length (i:Nat)=some i:=by
   rw [gS (by lia) (by rw [List.length_map,ok.lp];lia),Int.toNat_natCast]
  have e4:(g.ps.map D.int).set i (.int v)=(g.ps.set i v).map D.int:=by rw [List.map_set]
  simp only [kD] at hh ⊢;simp! [bb,k4,String.reduceBEq,Bool.or_true,Bool.or_false,Bool.false_or,Bool.true_or,Bool.false_and,Bool.and_false,bT,gf1,lm,e3,e4,Hd];exact aj hh
end
end Tw
namespace Tw
open PySem L2 L3
def eO(ad:Ad)(L c:Nat):MO:=.ins ad.C_Ends [("limit",.int (L:Nat)),("count",.int (c:Nat))]
inductive Tr where
 |e (m:D)|a (q:aw) (x y:Tr)
def Tr.d:Tr->D
 |.e m=>.tup [.str "end",m]
 |.a q x y=>.tup [.str "ask",kD q,x.d,y.d]
def Tr.asks:Tr->Nat
 |.e _=>0
 |.a _ x y=>1+x.asks+y.asks
def cc(C:Cse)(s t:Sta):Nat->Gs->Tr
 |0,_=>.e .non
 |n+1,g=>match (bn C (C.most+1) g).1 with
  |none=>.e (AN C (bn C (C.most+1) g).2)
  |some q=>.a q (cc C s t n (cz (bn C (C.most+1) g).2 q (b9 C s q))) (cc C s t n (cz (bn C (C.most+1) g).2 q (b9 C t q)))
section
variable {C:Cse}{s t:Sta}{ad:Ad}{M:Mem}{Q:DK}{E:DX}{g:Gs}{k:Gk}{q:aw}
theorem f_{e:Addr}{L c:Nat}(he:M e=some (eO ad L c))(hc:c+1<=L)(h:Q .non (M.upd e (eO ad L (c+1)))):yb ad [.ref e] M Q E:=by
 have l1:List.lookup ("count":Str) [(("limit":Str),D.int (L:Nat)),(("count":Str),D.int (c:Nat))]=some (.int (c:Nat)):=rfl;have l2:∀v,bj ("count":Str) (.int v) [(("limit":Str),D.int (L:Nat)),(("count":Str),D.int (c:Nat))]=[(("limit":Str),D.int (L:Nat)),(("count":Str),D.int v)]:=fun _=>rfl;have l3:∀v,List.lookup ("count":Str) [(("limit":Str),D.int (L:Nat)),(("count":Str),D.int v)]=some (.int v):=fun _=>rfl;have l4:∀v,List.lookup ("limit":Str) [(("limit":Str),D.int (L:Nat)),(("count":Str),D.int v)]=some (.int (L:Nat)):=fun _=>rfl;have hd:decide (((L:Nat):Int)<((c:Nat):Int)+1)=false:=decide_eq_false (by lia)
 unfold eO at he h;rw [u_q4 (n:=0)];unfold AH qh;simp only [ah,mD,aS,am,ai,aO,ac,dC,aE,List.getElem?_cons_zero,he,l1,l2,l3,l4,Mem.upd_same,vA,gr,hd];refine ⟨trivial,by simp,trivial,trivial,trivial,?_⟩
 rw [if_neg (by simp)]
 refine aj ?_;have e:(((c:Nat):Int)+1)=((c+1:Nat):Int):=by lia
 rw [e];exact h
theorem xS{a:Addr}{fs:List (Str×D)}{Cl:Addr}{m:Str}{T:Sd}{EE:DX}{n:Nat}{ta:aZ}{t:dm}{δ:Dl}(hx:∀K:DK,K (.ref a) M->ta δ M K)(ha:M a=some (.ins Cl fs))(hm:fs.lookup m=none)
  (h:t δ M fun ds M2=>ds.length+1=n/\calls T EE (.ref a::ds) M2 Q ⟨⟩):cg Cl m T EE n ta t δ M Q:=by
 unfold cg;refine hx _ ?_;simp only [ha];exact ⟨trivial,hm,h⟩
theorem Hk{N:Mem}{z:Sta}{K:DK}(at':Gat ad k g N)(o:C.Ok)(hz:SOk C z)(ok:GOk C g)(hk:q∈ei C)(hu:q∈g.u)(h:∀k1:Gk,k1.Fr N->K (.ref k1.a) (gM ad k1 (cz g q (b9 C z q)) N)):
  ap (cg ad.C_Going "settled" (vC ad) pQ 3 (ac 2) (aa (ac 1) (aa (ap (ak (h9 ad) pQ 3 (aa (ai aB (ac 3) (dC (.int 0))) (aa (ac 0) (aa (ac 1) af))))) af))) [some z.d,some (kD q),some (.ref k.a),some (bu C s t)] N K:=by
 have fi:∀{v:Int} {M:Mem} {Q:DK},Q (.int v) M->frz (.int v) M Q:=fun z=>z;have fr:∀{a:Addr} {M:Mem} {Q:DK} {fs:List (Str×D)},M a=some (.ins ad.C_Going fs)->Q (.ref a) M->frz (.ref a) M Q:=fun {a M Q fs} e z=>by simp only [frz,e];exact z
 unfold ap;refine xS (fun K q=>q) at'.a gfs ?_;unfold bu;simp only [aa,ac,ak,af,ai,dC,List.getElem?_cons_succ,List.getElem?_cons_zero,aB,aT,atI_0];refine ⟨rfl,aG (fun _ _ z=>cG o hz hk z) (fi ?_)⟩;exact ⟨rfl,ao fun Q' E' hq _=>mL at' o ok hk hu fun k1 hk1=>hq _ _ (fr bT (h k1 hk1))⟩
theorem kH{N:Mem}(at':Gat ad k g N)(o:C.Ok)(hs:SOk C s)(ht:SOk C t)(ok:GOk C g)(hk:q∈ei C)(hu:q∈g.u)
  (h:∀(k1 k2:Gk) (p:Addr),k1.Fr N->k2.Fr (gM ad k1 (cz g q (b9 C s q)) N)->gM ad k2 (cz g q (b9 C t q)) (gM ad k1 (cz g q (b9 C s q)) N) p=none->
   Q (.ref p) ((gM ad k2 (cz g q (b9 C t q)) (gM ad k1 (cz g q (b9 C s q)) N)).upd p (.lst [.ref k1.a,.ref k2.a]))):
  uG ad [bu C s t,.ref k.a,kD q] N Q E:=by
 have hcs:bu C s t=.tup [C.d,s.d,t.d,.int (C.most:Nat)]:=rfl;rw [Gv (n:=0)];unfold tX;simp only [ax,aV,bN,FU,jI,fY,ac,dC,List.getElem?_cons_succ,List.getElem?_cons_zero,bq,List.map_cons,List.map_nil,List.cons_append,List.nil_append,Option.join_some];have ec:mJ [C.d,s.d,t.d,D.int (C.most:Nat)] (some 1) (some 3)=[s.d,t.d]:=rfl;generalize hte:ap (cg ad.C_Going "settled" (vC ad) pQ 3 (ac 2) (aa (ac 1) (aa (ap (ak (h9 ad) pQ 3 (aa (ai aB (ac 3) (dC (.int 0))) (aa (ac 0) (aa (ac 1) af))))) af)))=te;have hw:∀{N:Mem} {z:Sta} {K:DK},Gat ad k g N->SOk C z->(∀k1:Gk,k1.Fr N->K (.ref k1.a) (gM ad k1 (cz g q (b9 C z q)) N))->te [some z.d,some (kD q),some (.ref k.a),some (bu C s t)] N K:=fun {N z K} a1 hz hh=>by
  rw [<- hte];exact Hk a1 o hz ok hk hu hh
 simp only [hcs,ap,ac,dC,List.getElem?_cons_zero,oSl,ec,frz,aT,bv];rw [<- hcs];unfold ce;refine ⟨aY,?_⟩;simp only [ag,List.set,dw,if_true];refine hw at' hs fun k1 hk1=>⟨ma (by simp),?_⟩
 unfold ce;refine ⟨aY,?_⟩;simp only [ag,List.set,dw,if_true];refine hw (at'.more hk1) ht fun k2 hk2=>⟨ma (by simp),?_⟩
 unfold ce;exact ⟨aY,fun p hp=>aj (h k1 k2 p hk1 hk2 hp)⟩
end
end Tw
namespace Tw
open PySem L2 L3
theorem k8{M:Mem}{b:Addr}{o:MO}(h:M b=some o):M.upd b o=M:=by
 funext c;unfold Mem.upd
 split
 ·rename_i e;rw [e,h]
 ·rfl
theorem Bu{ad:Ad}{k1 k2:Gk}{g1 g2:Gs}{N:Mem}(h:k2.Fr (gM ad k1 g1 N)):gM ad k2 g2 (gM ad k1 g1 N)=gM ad k1 g1 (gM ad k2 g2 N):=by
 obtain ⟨a1,a2,a3,a4,_⟩:=bC h.a;obtain ⟨b1,b2,b3,b4,_⟩:=bC h.dn;obtain ⟨c1,c2,c3,c4,_⟩:=bC h.lp;obtain ⟨d1,d2,d3,d4,_⟩:=bC h.du;funext b
 by_cases e1:b=k2.a
 ·subst e1;rw [bT,ik a1 a2 a3 a4,bT]
 by_cases e2:b=k2.dn
 ·subst e2;rw [dI,ik b1 b2 b3 b4,dI]
 by_cases e3:b=k2.lp
 ·subst e3;rw [lm,ik c1 c2 c3 c4,lm]
 by_cases e4:b=k2.du
 ·subst e4;rw [dU,ik d1 d2 d3 d4,dU]
 rw [ik e1 e2 e3 e4];unfold gM;simp only [Mem.upd,e1,e2,e3,e4,if_false]
section
variable {C:Cse}{s t:Sta}{ad:Ad}{M:Mem}{Q:DK}{E:DX}{g:Gs}{k:Gk}{q:aw}
theorem Fh{r:Rw}(h:cv C g r=some q):q∈g.u:=by
 unfold cv at h
 split at h
 ·cases h
 ·split at h
  ·rename_i k0 kr e
   cases h;have:q∈(ei C).filter fun k=>decide (k∈((eN r).filter fun x=>decide ((Sum.inr x:aw)∈g.u)).map Sum.inr):=by rw [e];simp
   have:=(List.mem_filter.mp this).2;obtain ⟨x,hx,rfl⟩:=List.mem_map.mp (of_decide_eq_true this);exact of_decide_eq_true (List.mem_filter.mp hx).2
  ·split at h
   ·split at h
    ·rename_i c;cases h;exact c
    ·cases h
   ·cases h
theorem HL{r:Rw}{rest:List Rw}:(iU C g rest r).u.length<=g.u.length/\∀x∈(iU C g rest r).u,x∈g.u:=by
 have hf:∀z:aw,(g.u.filter fun k=>decide (k≠z)).length<=g.u.length/\∀x∈g.u.filter (fun k=>decide (k≠z)),x∈g.u:=fun z=>⟨List.length_filter_le _ _,fun x hx=>(List.mem_filter.mp hx).1⟩;cases r with
 |ifr=>exact ⟨Nat.le_refl _,fun _ h=>h⟩
 |again=>exact ⟨Nat.le_refl _,fun _ h=>h⟩
 |_=>exact hf _
theorem qa:∀(f:Nat) (g:Gs),((bn C f g).2.u.length<=g.u.length/\∀x∈(bn C f g).2.u,x∈g.u)/\(0<=g.left->0<=(bn C f g).2.left/\(bn C f g).2.left<=g.left)/\∀q,(bn C f g).1=some q->q∈(bn C f g).2.u
 |0,g=>⟨⟨Nat.le_refl _,fun _ h=>h⟩,fun h=>⟨h,Int.le_refl _⟩,fun q h=>by cases h⟩
 |f+1,g=>by
  unfold bn;cases e:g.td with
  |nil=>
   refine ⟨⟨Nat.le_refl _,fun _ h=>h⟩,fun h=>⟨h,Int.le_refl _⟩,fun q h=>?_⟩;dsimp only at h ⊢
   split at h
   ·rename_i c;cases h;exact c
   ·cases h
  |cons r rest=>
   dsimp only
   split
   ·exact ⟨⟨Nat.le_refl _,fun _ h=>h⟩,fun h=>⟨h,Int.le_refl _⟩,fun q h=>by cases h⟩
   ·rename_i hl
    cases a:cv C g r with
    |some k=>
     refine ⟨⟨Nat.le_refl _,fun _ h=>h⟩,fun h=>⟨h,Int.le_refl _⟩,fun q h=>?_⟩;cases h;exact Fh a
    |none=>
     obtain ⟨⟨h1,h2⟩,h3,h4⟩:=qa f (iU C g rest r);obtain ⟨d1,d2⟩:=HL (C:=C) (g:=g) (r:=r) (rest:=rest);have hd:(iU C g rest r).left=g.left-1:=pf;refine ⟨⟨Nat.le_trans h1 d1,fun x hx=>d2 x (h2 x hx)⟩,fun h=>?_,h4⟩;have:=h3 (by lia)
     exact ⟨this.1,by dsimp only;lia⟩
theorem zZ{u:List aw}(h:q∈u):(u.filter fun k=>decide (k≠q)).length<u.length:=by
 rw [List.length_filter_lt_length_iff_exists];exact ⟨q,h,by simp⟩
theorem fA{e:Addr}{L:Nat}(o:C.Ok)(hs:SOk C s)(ht:SOk C t):∀(n:Nat) (g:Gs) (k:Gk) (M:Mem) (c:Nat) (Q:DK) (E:DX),GOk C g->0<=g.left->g.left<=C.most->(∀x∈g.u,x∈ei C)->g.u.length<n->M e=some (eO ad L c)->k.Fr M->
  c+(cc C s t n g).asks<=L->Q (cc C s t n g).d (M.upd e (eO ad L (c+(cc C s t n g).asks)))->S_q41 ad n [bu C s t,.ref k.a,.ref e] (gM ad k g M) Q E
 |0,g,k,M,c,Q,E,ok,h0,hm,hu,hn,he,hf,hc,h=>by lia
 |n+1,g,k,M,c,Q,E,ok,h0,hm,hu,hn,he,hf,hc,h=>by
  have hcs:bu C s t=.tup [C.d,s.d,t.d,.int (C.most:Nat)]:=rfl;have ok1:=sP o (C.most+1) g ok;obtain ⟨⟨hlen,hsub⟩,hlft,hask⟩:=qa (C:=C) (C.most+1) g;rw [Gc];unfold uh;generalize hK5:jg ad (S_q41 ad n) (ay E)=K5;simp only [ah,ar,ap,ak,aa,af,ai,ac,dC,List.getElem?_cons_succ,List.getElem?_cons_zero,hcs,aB,aT,atI_0];refine ⟨rfl,ao fun Q' E' hq _=>vI (f:=C.most+1) o ok h0 (by lia) (hq _ _ ?_)⟩
  have fo:∀{q:Option aw} {M:Mem} {Q:DK},Q (wl q) M->frz (wl q) M Q:=fun {q} {M} {Q} z=>by
   cases q with
   |none=>exact z
   |some k=>cases k<;>exact z
  refine fo ?_;simp only [ag,List.set];rw [<- hK5];unfold cc at h hc;generalize hgo:bn C (C.most+1) g=go at *;obtain ⟨a,g'⟩:=go;dsimp only at *;unfold jg;generalize hK4:iM ad (S_q41 ad n) (ay E)=K4;cases a with
  |none=>
   unfold mP;simp only [ah,aS,am,ai,ac,dC,wl,iq,kt,if_true,ax,aR,aa,af,ak,List.getElem?_cons_succ,List.getElem?_cons_zero,aB,aT,atI_0];refine ⟨rfl,aG (fun _ _ z=>oE o ok1 z) ⟨bw (by simp),?_⟩⟩
   simp only [Tr.asks,Tr.d,Nat.add_zero,k8 he] at h;exact ⟨M,fun b ob eb=>cD hf eb,h⟩
  |some q=>
   have hqu:=hask q rfl;have hqt:=hu q (hsub q hqu);have fl:=zZ hqu;simp only [Tr.asks,Tr.d] at h hc;have nn:kt (kD q)=false:=by cases q<;>rfl
   simp only [ah,aS,am,ai,ac,dC,wl,iq,nn,aE,List.getElem?_cons_succ,List.getElem?_cons_zero];rw [if_neg (by simp),<- hK4]
   unfold iM;generalize hK3:j9 ad (S_q41 ad n) (ay E)=K3;simp only [ah,ba];have lo:List.lookup ("one_more":Str) [(("limit":Str),D.int (L:Nat)),(("count":Str),D.int (c:Nat))]=none:=rfl;refine xS (a:=e) (fs:=[("limit",.int (L:Nat)),("count",.int (c:Nat))]) (fun K q=>q) (cD hf he) lo ?_;simp only [af];refine ⟨rfl,ao fun Q' E' hq _=>f_ (cD hf he) (by lia) (hq _ _ ?_)⟩
   rw [nD hf he,<- hK3];have he1:(M.upd e (eO ad L (c+1))) e=some (eO ad L (c+1)):=Mem.upd_same;have hf1:∀{o':MO},k.Fr (M.upd e o'):=fun {o'}=>⟨by rw [ae (fun z=>by rw [<- z,hf.a] at he;cases he)];exact hf.a,by rw [ae (fun z=>by rw [<- z,hf.dn] at he;cases he)];exact hf.dn,by rw [ae (fun z=>by rw [<- z,hf.lp] at he;cases he)];exact hf.lp,by rw [ae (fun z=>by rw [<- z,hf.du] at he;cases he)];exact hf.du⟩
   unfold j9;generalize hK2:ja ad (S_q41 ad n) (ay E)=K2;simp only [ah,ar,ap,ak,aa,af,ac,List.getElem?_cons_succ,List.getElem?_cons_zero];refine ⟨rfl,ao fun Q' E' hq _=>kH .of o hs ht ok1 hqt hqu fun k1 k2 p h1 h2 hp=>hq _ _ (bA hp ?_)⟩;simp only [ag,List.set];rw [<- hK2];unfold ja;simp only [ax,aR,aa,af,ak,ac,dC,ai,List.getElem?_cons_succ,List.getElem?_cons_zero,aB,aT,atI_0,atI_1];generalize hg1:cz g' q (b9 C s q)=g1 at *;generalize hg2:cz g' q (b9 C t q)=g2 at *;have k1u:g1.u.length<n/\(∀x∈g1.u,x∈ei C)/\g1.left=g'.left/\GOk C g1:=by
    rw [<- hg1];exact ⟨by rw [ju];lia,fun x hx=>by rw [ju] at hx;exact hu x (hsub x (List.mem_filter.mp hx).1),lc,ud ok1 (lB o hs hqt)⟩
   have k2u:g2.u.length<n/\(∀x∈g2.u,x∈ei C)/\g2.left=g'.left/\GOk C g2:=by
    rw [<- hg2];exact ⟨by rw [ju];lia,fun x hx=>by rw [ju] at hx;exact hu x (hsub x (List.mem_filter.mp hx).1),lc,ud ok1 (lB o ht hqt)⟩
   have hll:=hlft h0;rw [Bu h2];have h2N:k2.Fr (gM ad k g' (M.upd e (eO ad L (c+1)))):=⟨(bC h2.a).2.2.2.2,(bC h2.dn).2.2.2.2,(bC h2.lp).2.2.2.2,(bC h2.du).2.2.2.2⟩;obtain ⟨a1,a2,a3,a4,_⟩:=bC h2.a;obtain ⟨b1,b2,b3,b4,_⟩:=bC h2.dn;obtain ⟨c1,c2,c3,c4,_⟩:=bC h2.lp;obtain ⟨d1,d2,d3,d4,_⟩:=bC h2.du;have h1N:k1.Fr (gM ad k2 g2 (gM ad k g' (M.upd e (eO ad L (c+1))))):=⟨by rw [ik a1.symm b1.symm c1.symm d1.symm];exact h1.a,by rw [ik a2.symm b2.symm c2.symm d2.symm];exact h1.dn,by rw [ik a3.symm b3.symm c3.symm d3.symm];exact h1.lp,by rw [ik a4.symm b4.symm c4.symm d4.symm];exact h1.du⟩
   have heN:gM ad k g' (M.upd e (eO ad L (c+1))) e=some (eO ad L (c+1)):=cD hf1 he1;refine ⟨rfl,ao fun Q' E' hq _=>fA o hs ht n g1 k1 _ (c+1) _ _ k1u.2.2.2 (by lia) (by lia) k1u.2.1 k1u.1 (cD h2N heN) h1N (by lia) (hq _ _ ?_)⟩
   rw [nD h2N heN,nD hf1 he1,Mem.upd_upd];have h2N':k2.Fr (gM ad k g' (M.upd e (eO ad L (c+1+(cc C s t n g1).asks)))):=by
    have z:∀{b:Addr},gM ad k g' (M.upd e (eO ad L (c+1))) b=none->gM ad k g' (M.upd e (eO ad L (c+1+(cc C s t n g1).asks))) b=none:=fun {b} hb=>by
     obtain ⟨n1,n2,n3,n4,n5⟩:=bC hb;rw [ik n1 n2 n3 n4];have:b≠e:=fun z=>by rw [z,Mem.upd_same] at n5;cases n5
     rw [ae this] at n5 ⊢;exact n5
    exact ⟨z h2N.a,z h2N.dn,z h2N.lp,z h2N.du⟩
   refine ⟨rfl,ao fun Q' E' hq _=>fA o hs ht n g2 k2 _ (c+1+(cc C s t n g1).asks) _ _ k2u.2.2.2 (by lia) (by lia) k2u.2.1 k2u.1 (cD hf1 Mem.upd_same) h2N' (by lia) (hq _ _ ?_)⟩
   rw [nD hf1 Mem.upd_same,Mem.upd_upd];refine ⟨bw (by simp),M.upd e (eO ad L (c+(1+(cc C s t n g1).asks+(cc C s t n g2).asks))),fun b ob eb=>?_,h⟩
   have ec:c+1+(cc C s t n g1).asks+(cc C s t n g2).asks=c+(1+(cc C s t n g1).asks+(cc C s t n g2).asks):=by lia
   rw [ec];exact cD hf1 eb
end
end Tw
namespace Tw
open PySem L2 L3
def g0(C:Cse)(s t:Sta):Gs:=⟨C.names.zip s.nums,s.pieces,az C s t,C.rows,(C.most:Nat)⟩
section
variable {C:Cse}{s t:Sta}{ad:Ad}{M:Mem}{Q:DK}{E:DX}
theorem ub(o:C.Ok):(az C s t).Nodup:=by
 refine List.Pairwise.filter _ ?_;show (ei C).Nodup;unfold ei;rw [List.nodup_append];refine ⟨?_,?_,?_⟩
 ·exact List.Pairwise.map _ (fun a b h z=>h (Sum.inr.inj z)) o.nd
 ·exact List.Pairwise.map _ (fun a b h z=>h (by have:=Sum.inl.inj z;lia)) List.nodup_range
 ·intro a ha b hb z
  obtain ⟨x,_,rfl⟩:=List.mem_map.mp ha;obtain ⟨y,_,rfl⟩:=List.mem_map.mp hb;cases z
theorem zA:∀x∈az C s t,x∈ei C:=fun x hx=>(List.mem_filter.mp hx).1
theorem pL(o:C.Ok):(az C s t).length<=200:=by
 have h1:(az C s t).length<=(ei C).length:=List.length_filter_le _ _;have h2:(ei C).length=C.names.length+C.many:=by simp [ei]
 have:=o.l1;have:=o.few;lia
theorem bK(o:C.Ok)(hs:SOk C s)(ht:SOk C t)(h:∀p,M p=none->Q (.ref p) (M.upd p (.lst ((az C s t).map kD)))):h7 ad [bu C s t] M Q E:=by
 rw [GU (n:=0)];unfold si bu;simp only [ax,ak,aa,ai,ac,dC,af,List.getElem?_cons_zero,List.getElem?_cons_succ,aB,aT,atI_0,atI_1,atI_2];exact ⟨rfl,ao fun Q' E' hq _=>xh o hs ht fun p hp=>hq _ _ (aj (h p hp))⟩
theorem Gz(o:C.Ok)(hs:SOk C s):GOk C (g0 C s t):=⟨(o.pl hs).nok,hs.lp,hs.rp,o.ok⟩
theorem qU(o:C.Ok)(hs:SOk C s)(ht:SOk C t)(h:∀k:Gk,k.Fr M->Q (.ref k.a) (gM ad k (g0 C s t) M)):tu ad [bu C s t] M Q E:=by
 have ul:=pL (s:=s) (t:=t) o;have hcs:bu C s t=.tup [C.d,s.d,t.d,.int (C.most:Nat)]:=rfl;have hcd:C.d=.tup [.int C.w,.tup (C.names.map D.str),.int (C.many:Nat),.tup (aL C.rows),.str C.mn]:=rfl;have hsd:s.d=.tup [.tup (s.nums.map D.int),.tup (s.pieces.map D.int)]:=rfl;rw [Hc (n:=0)];unfold tE nK;generalize hK2:iG ad (ay E)=K2;simp only [ah,ar,ai,ac,dC,ag,List.set,List.getElem?_cons_zero,List.getElem?_cons_succ,hcs,aB,aT,atI_0,atI_1];rw [<- hcs,<- hK2];unfold iG;generalize hK1:j5 ad (ay E)=K1;simp only [ah,ar,bQ,aa,af,ap,aV,bN,ak,ac,bq,List.map_cons,List.map_nil,List.cons_append,List.nil_append,List.getElem?_cons_zero,List.getElem?_cons_succ];refine ⟨rfl,ao fun Q' E' hq _=>bK o hs ht fun p hp=>hq _ _ (bA hp ?_)⟩;simp only [aT,bv];refine de (fun d=>.tup [d,.bl true]) aY (by simp;lia) (fun x hx K q=>?_) ?_
 ·simp only [aR,aa,ac,dC,af,List.getElem?_cons_succ,List.getElem?_cons_zero]
  exact ⟨bw (by simp),q⟩
 intro p hp;refine bA hp ?_;have e:((az C s t).map kD).map (fun d=>D.tup [d,.bl true])=(az C s t).map fun k=>D.tup [kD k,.bl true]:=by simp
 rw [e];have hnd:(([]:List (aw×D)).map (·.1)++(uD (az C s t)).map (·.1)).Nodup:=by rw [jk];exact ub o
 simp only [dM,xo,dk,gG,uR hnd,List.nil_append];refine ⟨trivial,by simp [uD];lia,fun p3 h3=>?_⟩
 simp only [ag,List.set];rw [<- hK1];unfold j5;simp only [ax,dP,aa,fH,ai,ac,dC,af,bQ,ak,ap,List.getElem?_cons_zero,List.getElem?_cons_succ,hcd,hsd,aB,aT,atI_0,atI_1,dQ,List.length_map];refine ⟨hs.ln.symm,o.l0,Nat.le_trans o.l1 (by decide),fun p1 h1=>?_⟩
 have n31:p3≠p1:=Mem.ne Mem.upd_same h1;rw [ae n31.symm] at h1;simp only [g6,aT];intro p2 h2;have n12:p1≠p2:=Mem.ne Mem.upd_same h2;rw [ae n12.symm] at h2;have n32:p3≠p2:=Mem.ne Mem.upd_same h2;rw [ae n32.symm] at h2;simp only [hcs,atI_3,List.getElem?_cons_zero,List.getElem?_cons_succ];refine ⟨rfl,aG (fun _ _ q=>cX (td:=[]) q) ?_⟩;have ft:∀{l:List Rw} {M:Mem} {Q:DK},Q (ku l) M->frz (ku l) M Q:=fun {l} {M} {Q} q=>by cases l<;>exact q
 rw [List.append_nil];refine ft ?_;refine ⟨rfl,fun x hx=>?_⟩;have n2x:p2≠x:=Mem.ne Mem.upd_same hx;rw [ae n2x.symm] at hx;have n1x:p1≠x:=Mem.ne Mem.upd_same hx;rw [ae n1x.symm] at hx;have n3x:p3≠x:=Mem.ne Mem.upd_same hx;rw [ae n3x.symm] at hx;refine ao fun Q' E' hq _=>kh (hq _ _ ?_);rw [h8 hs.ln.symm o.nd];have key:((((M.upd p3 (.dK (uD (az C s t)))).upd p1 (.dK (dj (C.names.zip s.nums)))).upd p2 (.lst (s.pieces.map D.int))).upd x (.ins ad.C_Going [("numbers",.ref p1),("pieces",.ref p2),("unsettled",.ref p3),("todo",ku C.rows),("left",.int (C.most:Nat))]))=gM ad ⟨x,p1,p2,p3,n1x.symm,n2x.symm,n3x.symm,n12,n31.symm,n32.symm⟩ (g0 C s t) M:=by
  unfold gM gF g0;rw [aq n2x,aq n1x,aq n3x,aq (a:=p3) (b:=p1) n31,aq (a:=p3) (b:=p2) n32]
 rw [key];exact aj (h ⟨x,p1,p2,p3,n1x.symm,n2x.symm,n3x.symm,n12,n31.symm,n32.symm⟩ ⟨hx,h1,h2,h3⟩)
def Cse.tree(C:Cse)(s t:Sta):Tr:=cc C s t 24 (g0 C s t)
theorem wb{L:Nat}{a b:Int}(o:C.Ok)(hs:SOk C s)(ht:SOk C t)(ea:C.mark s=.int a)(eb:C.mark t=.int b)(hab:a≠b)(hu:(az C s t).length<24)(hc:1+(C.tree s t).asks<=L)(h:Q (C.tree s t).d M):
  tq ad [bu C s t,.int (L:Nat)] M Q E:=by
 rw [Ip (n:=0)];unfold tj mC;generalize hK2:iT ad (ay E)=K2;simp only [ah,ba,ak,aa,ac,af,ar,dP,List.getElem?_cons_zero,List.getElem?_cons_succ];refine ⟨rfl,aG (fun _ _ q=>ke o hs ht ea eb hab q) ⟨rfl,fun e he=>?_⟩⟩;have e1:bj ("limit":Str) (.int (L:Nat)) []=[(("limit":Str),D.int (L:Nat))]:=rfl;have e2:bj ("count":Str) (.int 0) [(("limit":Str),D.int (L:Nat))]=[(("limit":Str),D.int (L:Nat)),(("count":Str),D.int 0)]:=rfl;refine ao fun Q' E' hq _=>?_;rw [u_q7 (n:=0)];unfold BF;simp! [Mem.upd_same,Mem.upd_upd,e1,e2,List.length_nil,List.length_cons];refine ⟨by decide,by decide,aj (hq _ _ ?_)⟩
 simp only [ag,List.set];rw [<- hK2];unfold iT lX;simp only [ah,ba];have lo:List.lookup ("one_more":Str) [(("limit":Str),D.int (L:Nat)),(("count":Str),D.int 0)]=none:=rfl;refine xS (a:=e) (fun K q=>q) Mem.upd_same lo ?_;simp only [af];refine ⟨rfl,ao fun Q' E' hq _=>f_ (L:=L) (c:=0) Mem.upd_same (by lia) (hq _ _ ?_)⟩
 rw [Mem.upd_upd];simp only [ax,ak,aa,ac,af,ap,List.getElem?_cons_zero,List.getElem?_cons_succ];refine ⟨rfl,ao fun Q' E' hq _=>qU o hs ht fun k hk=>hq _ _ ?_⟩;have fr:∀{M:Mem} {Q:DK} {fs:List (Str×D)},M k.a=some (.ins ad.C_Going fs)->Q (.ref k.a) M->frz (.ref k.a) M Q:=fun {M Q fs} e z=>by simp only [frz,e];exact z
 refine fr bT ⟨rfl,ao fun Q' E' hq _=>fA o hs ht 24 _ k _ 1 _ _ (Gz o hs) (by show (0:Int)<=((C.most:Nat):Int);lia) (Int.le_refl _) zA hu Mem.upd_same hk hc (hq _ _ ?_)⟩
 rw [Mem.upd_upd];refine ⟨M,fun b ob eb=>?_,h⟩;rw [ae (Mem.ne eb he)];exact eb
end
end Tw
namespace Tw
open PySem L2 L3
theorem vz(a b:Nat):Builtin.bitOr (a:Int) (b:Int)=((a ||| b:Nat):Int):=by
 have h1:decide ((0:Int)<=-(a:Int)-1)=false:=decide_eq_false (by lia)
 have h2:decide ((0:Int)<=-(b:Int)-1)=false:=decide_eq_false (by lia)
 have e1:(-(-(a:Int)-1)-1).toNat=a:=by lia
 have e2:(-(-(b:Int)-1)-1).toNat=b:=by lia
 unfold Builtin.bitOr Builtin.bitAnd Builtin.bitNot;rw [h1,h2];simp only [e1,e2];lia
theorem xF(a:Nat):Builtin.bitAnd (a:Int) 1=((a % 2:Nat):Int):=by
 have h1:decide ((0:Int)<=(a:Int))=true:=decide_eq_true (by lia)
 unfold Builtin.bitAnd;rw [h1];show (((a:Int).toNat &&& (1:Int).toNat:Nat):Int)=_;rw [Int.toNat_natCast];show ((a &&& 1:Nat):Int)=_;rw [Nat.and_one_is_mod]
def zp(b:Nat):Nat:=Builtin.Int.intBits (b:Int)
def aQ(b:Nat):List Nat:=(List.range (zp b)).filter fun i=>b.testBit i
theorem zf{b m:Nat}(h:b<2 ^ m):zp b<=m:=by
 unfold zp Builtin.Int.intBits
 split
 ·lia
 ·rename_i h0
  have hb:b≠0:=fun z=>h0 (by rw [z];rfl)
  rw [Int.natAbs_natCast];have:=(Nat.log2_lt hb).mpr h;lia
theorem vL{b m:Nat}(h:b<2 ^ m):aQ b=(List.range m).filter fun i=>b.testBit i:=by
 obtain ⟨d,rfl⟩:∃d,m=zp b+d:=⟨m-zp b,by have:=zf h;lia⟩
 unfold aQ;rw [List.range_add,List.filter_append];have:((List.range d).map (zp b+·)).filter (fun i=>b.testBit i)=[]:=by
  rw [List.filter_eq_nil_iff];intro i hi;obtain ⟨j,_,rfl⟩:=List.mem_map.mp hi;have hlt:b<2 ^ zp b:=by
   unfold zp Builtin.Int.intBits
   split
   ·rename_i h0
    have:b=0:=by have:=beq_iff_eq.mp h0;lia
    subst this;decide
   ·rename_i h0
    rw [Int.natAbs_natCast];exact Nat.lt_log2_self
  rw [Nat.testBit_lt_two_pow (Nat.lt_of_lt_of_le hlt (Nat.pow_le_pow_right (by decide) (Nat.le_add_right _ _)))]
  simp
 rw [this,List.append_nil]
section
variable {ad:Ad}{M:Mem}{Q:DK}{E:DX}
theorem dR{b:Nat}(hb:b<2 ^ 200)(h:∀p,M p=none->Q (.ref p) (M.upd p (.lst ((aQ b).map fun (i:Nat)=>D.int (i:Int))))):oz ad [.int (b:Nat)] M Q E:=by
 have hl:=zf hb;rw [Ib (n:=0)];unfold sG;simp only [ax,aV,jt,aa,kC,ac,af,jc,List.getElem?_cons_zero,List.getElem?_cons_succ,bq,List.map_cons,List.map_nil,List.cons_append,List.nil_append,Option.join_some];have hl2:((Builtin.Int.intBits (b:Int):Nat):Int)<=200:=by have:Builtin.Int.intBits (b:Int)<=200:=hl;lia
 refine ⟨rfl,by lia,by lia,?_⟩
 refine eD (fun d=>match d with|.int i=>b.testBit i.toNat|_=>false) id aY ?_ (fun x hx K q=>?_) (fun x hx _ K q=>q) ?_
 ·simp only [cW,List.length_map,List.length_range,Int.toNat_natCast];show zp b<=_;lia
 ·simp only [cW,List.mem_map,List.mem_range] at hx
  obtain ⟨i,hi,rfl⟩:=hx;rw [Int.zero_add] at q ⊢;have e1:((b:Nat):Int) / 2 ^ (((i:Nat):Int)).toNat=((b / 2 ^ i:Nat):Int):=by rw [Int.toNat_natCast];simp
  simp only [am,ai,ac,dC,List.getElem?_cons_zero,List.getElem?_cons_succ,D6,Fn,oI,gr,e1,xF,cu,dv,bo,aC];refine ⟨by lia,trivial,trivial,?_⟩
  simp only [Int.toNat_natCast,Nat.testBit_eq_decide_div_mod_eq] at q;have e2:decide (((b / 2 ^ i % 2:Nat):Int)=1)=decide (b / 2 ^ i % 2=1):=by congr 1;exact propext (by lia)
  rw [e2];exact q
 ·intro p hp
  have e:((cW 0 (Int.toNat ((Builtin.Int.intBits (b:Int):Nat):Int))).filter fun d=>match d with|.int i=>b.testBit i.toNat|_=>false).map id=(aQ b).map fun (i:Nat)=>D.int (i:Int):=by
   rw [List.map_id];unfold cW aQ zp;rw [List.filter_map,Int.toNat_natCast];have:∀l:List Nat,l.map (fun (i:Nat)=>D.int (0+(i:Int)))=l.map fun (i:Nat)=>D.int (i:Int):=fun l=>List.map_congr_left fun i _=>by simp
   rw [this];congr 1;refine List.filter_congr fun i _=>?_;simp
  rw [e];exact aj (h p hp)
theorem m7{te:aZ}{ok:Mem->Prop}{Q:List D->Mem->Prop}{b:BxC (oS 2 (cO (ag 0) (cO (ag 1) o8))) dw te ok Q}{rest:Dl}(f:Nat->D->D)(ho:ok M):∀(xs:List D) (j:Nat) (acc:List D) (c0 c1:Option D),acc.length+xs.length<=100000->
  (∀(i:Nat) x,xs[i]?=some x->∀K:DK,K (f (j+i) x) M->te (some (.int ((j+i:Nat):Int))::some x::rest) M K)->Q (acc++(xs.zipIdx j).map fun p=>f p.2 p.1) M->
  ce (oS 2 (cO (ag 0) (cO (ag 1) o8))) dw te ok Q b (eW j xs) acc (c0::c1::rest) M
 |[],j,acc,c0,c1,hl,he,h=>by
  unfold eW ce;exact ⟨ho,by simpa using h⟩
 |x::xs,j,acc,c0,c1,hl,he,h=>by
  simp only [List.length_cons] at hl;unfold eW ce;refine ⟨ho,?_⟩;simp only [oS,cO,o8,ag,List.set,dw,if_true];refine ⟨rfl,he 0 x rfl _ ⟨ma (by lia),?_⟩⟩
  refine m7 f ho xs (j+1) _ _ _ (by simp;lia) (fun i y hy K q=>?_) ?_
  ·have:=he (i+1) y (by simpa using hy) K (by rw [show j+(i+1)=j+1+i by lia];exact q)
   rw [show j+(i+1)=j+1+i by lia] at this
   exact this
  ·simpa [List.zipIdx_cons] using h
end
end Tw
namespace Tw
open PySem L2 L3
structure Out where
 v:Str
 s:Nat
 f:Nat
def wm(ad:Ad)(x:Out):MO:=.ins ad.C_Outcome [("verdict",.str x.v),("sound",.int (x.s:Nat)),("faulty",.int (x.f:Nat))]
def Ext(M M':Mem):Prop:=∀b o,M b=some o->M' b=some o
theorem Ext.refl{M:Mem}:Ext M M:=fun _ _ e=>e
theorem Ext.trans{M M1 M2:Mem}(a:Ext M M1)(b:Ext M1 M2):Ext M M2:=fun x o e=>b x o (a x o e)
theorem Ext.no{M M':Mem}(h:Ext M M'){b:Addr}(e:M' b=none):M b=none:=by
 cases q:M b with
 |none=>rfl
 |some o=>rw [h b o q] at e;cases e
theorem Ext.new{M:Mem}{b:Addr}{o:MO}(h:M b=none):Ext M (M.upd b o):=fun x u e=>by rw [ae (Mem.ne e h)];exact e
theorem Ext.upd{M M':Mem}{b:Addr}{o:MO}(x:Ext M M')(h:M b=none):Ext M (M'.upd b o):=fun c u e=>by rw [ae (Mem.ne e h)];exact x c u e
theorem Ext.del{M M':Mem}{b:Addr}(x:Ext M M')(h:M b=none):Ext M (M'.del b):=fun c u e=>by unfold Mem.del;rw [if_neg (Mem.ne e h)];exact x c u e
inductive Lay(ad:Ad)(M:Mem):List Addr->List Out->Prop
 |nil:Lay ad M [] []
 |cons {a:Addr} {x:Out} {as:List Addr} {xs:List Out} (h:M a=some (wm ad x)) (t:Lay ad M as xs):Lay ad M (a::as) (x::xs)
theorem Lay.go{ad:Ad}{M M':Mem}:∀{as:List Addr} {xs:List Out},Lay ad M as xs->(∀a x,M a=some (wm ad x)->M' a=some (wm ad x))->Lay ad M' as xs
 |_,_,.nil,_=>.nil
 |_,_,.cons h t,g=>.cons (g _ _ h) (t.go g)
theorem Lay.snoc{ad:Ad}{M:Mem}{a:Addr}{x:Out}(h:M a=some (wm ad x)):∀{as:List Addr} {xs:List Out},Lay ad M as xs->Lay ad M (as++[a]) (xs++[x])
 |_,_,.nil=>.cons h .nil
 |_,_,.cons h' t=>.cons h' (t.snoc h)
theorem Lay.length{ad:Ad}{M:Mem}:∀{as:List Addr} {xs:List Out},Lay ad M as xs->as.length=xs.length
 |_,_,.nil=>rfl
 |_,_,.cons _ t=>congrArg (·+1) t.length
theorem qT{ad:Ad}{M:Mem}{l:Addr}{xs ys:List D}(h:M l=some (.lst xs))(a:Addr)(x:Out)(e:M a=some (wm ad x)):(M.upd l (.lst ys)) a=some (wm ad x):=by
 rw [ae (fun z=>by rw [z,h] at e;cases e)];exact e
def qO(a b:Int)(m:D):Str:=if aC m (.int a)=true then "sound" else if aC m (.int b)=true then "faulty" else "other"
def bitK(us:List aw)(q:aw):Nat:=2 ^ us.idxOf q
def ci(a b:Int)(us:List aw):Tr->Nat->Nat->List Out
 |.e m,S,F=>[⟨qO a b m,S,F⟩]
 |.a q x y,S,F=>ci a b us y S (F ||| bitK us q)++ci a b us x (S ||| bitK us q) F
def Ar(us:List aw):Tr->Prop
 |.e m=>m=.non\/∃v,m=.int v
 |.a q x y=>q∈us/\Ar us x/\Ar us y
def cR:Tr->Nat
 |.e _=>1
 |.a _ x y=>1+cR x+cR y
def wD(w:Tr×Nat×Nat):D:=.tup [w.1.d,.int (w.2.1:Nat),.int (w.2.2:Nat)]
def qx(a b:Int)(us:List aw)(ws:List (Tr×Nat×Nat)):List Out:=(ws.map fun w=>ci a b us w.1 w.2.1 w.2.2).flatten
def bZ(ws:List (Tr×Nat×Nat)):Nat:=(ws.map fun w=>cR w.1).sum
theorem lE:∀t:Tr,1<=cR t
 |.e _=>Nat.le_refl _
 |.a _ x y=>by unfold cR;lia
theorem HA:∀ws:List (Tr×Nat×Nat),ws.length<=bZ ws
 |[]=>Nat.le_refl _
 |w::ws=>by
  have:=HA ws;have:=lE w.1;simp only [bZ,List.map_cons,List.sum_cons,List.length_cons] at *;lia
def bD(us:List aw):List (aw×D):=us.zipIdx.map fun p=>(p.1,D.int ((2 ^ p.2:Nat):Int))
theorem Aj{us:List aw}:(bD us).map (·.1)=us:=by
 unfold bD;rw [List.map_map];exact List.zipIdx_map_fst 0 us
theorem Dy{us:List aw}{q:aw}(h:q∈us):b_ (bD us) q=some (.int ((bitK us q:Nat):Int)):=by
 have key:∀(l:List aw) (j:Nat),q∈l->b_ ((l.zipIdx j).map fun p=>(p.1,D.int ((2 ^ p.2:Nat):Int))) q=some (.int ((2 ^ (j+l.idxOf q):Nat):Int)):=by
  intro l
  induction l with
  |nil=>intro j h;cases h
  |cons a r ih=>
   intro j h;rw [List.zipIdx_cons,List.map_cons];unfold b_;rw [List.find?_cons]
   by_cases e:a=q
   ·subst e
    simp [List.idxOf_cons]
   ·have e2:(a==q)=false:=by simpa using e
    simp only [e,decide_false];have:=ih (j+1) (by rcases List.mem_cons.mp h with z|z;exact absurd z.symm e;exact z)
    unfold b_ at this;rw [this,List.idxOf_cons,e2];congr 4;simp only [cond_false];lia
 have:=key us 0 h;rw [Nat.zero_add] at this;exact this
section
variable {ad:Ad}{M:Mem}{Q:DK}{E:DX}
theorem qW{x:Addr}{y:Out}(h:Q .non (M.upd x (wm ad y))):AT ad [.ref x,.str y.v,.int (y.s:Nat),.int (y.f:Nat)] (M.upd x (.ins ad.C_Outcome [])) Q E:=by
 have e1:bj ("verdict":Str) (.str y.v) []=[(("verdict":Str),D.str y.v)]:=rfl;have e2:bj ("sound":Str) (.int (y.s:Nat)) [(("verdict":Str),D.str y.v)]=[(("verdict":Str),D.str y.v),(("sound":Str),D.int (y.s:Nat))]:=rfl;have e3:bj ("faulty":Str) (.int (y.f:Nat)) [(("verdict":Str),D.str y.v),(("sound":Str),D.int (y.s:Nat))]=[(("verdict":Str),D.str y.v),(("sound":Str),D.int (y.s:Nat)),(("faulty":Str),D.int (y.f:Nat))]:=rfl;rw [u_q0 (n:=0)];unfold zX;simp! [Mem.upd_same,Mem.upd_upd,e1,e2,e3,List.length_nil,List.length_cons];exact ⟨by decide,by decide,by decide,aj h⟩
structure OK(ad:Ad)(M0:Mem)(us:List aw)(db lf lw:Addr)(as:List Addr)(ds:List Out)(ws:List (Tr×Nat×Nat))(N:Mem):Prop where
 x:Ext M0 N
 f:M0 lf=none
 w:M0 lw=none
 b:M0 db=none
 bd:N db=some (.dK (bD us))
 lf':N lf=some (.lst (as.map D.ref))
 lw':N lw=some (.lst (ws.map wD).reverse)
 ne:lf≠lw
 nb:lf≠db
 ny:Lay ad N as ds
 few:as.length+bZ ws<=100000
 tr:∀w∈ws,Ar us w.1
theorem wW{us:List aw}{a b:Int}{cs ld:D}{db lf lw:Addr}{as:List Addr}{ds:List Out}{w:Tr×Nat×Nat}{ws:List (Tr×Nat×Nat)}{M0 N:Mem}{c6 c7 c8 c9:Option D}{D':DEnds}{EE:DX}(I:OK ad M0 us db lf lw as ds (w::ws) N)
  (h:∀as' ds' ws' N' c6 c7 c8 c9,OK ad M0 us db lf lw as' ds' ws' N'->bZ ws'<bZ (w::ws)->ds'++qx a b us ws'=ds++qx a b us (w::ws)->D'.nx [some cs,some ld,some (.tup [.int a,.int b]),some (.ref db),some (.ref lf),some (.ref lw),c6,c7,c8,c9] N'):
  eG ad EE D' [some cs,some ld,some (.tup [.int a,.int b]),some (.ref db),some (.ref lf),some (.ref lw),c6,c7,c8,c9] N:=by
 obtain ⟨tr,S,F⟩:=w;have ew:((((tr,S,F)::ws).map wD).reverse)=(ws.map wD).reverse++[wD (tr,S,F)]:=by simp
 have hlw:=I.lw';rw [ew] at hlw;have hlen:((ws.map wD).reverse++[wD (tr,S,F)])[((ws.map wD).reverse++[wD (tr,S,F)]).length-1]?=some (wD (tr,S,F)):=by simp
 have htr:=I.tr _ List.mem_cons_self;have few:=I.few;have len:=HA ws;simp only [bZ,List.map_cons,List.sum_cons] at few len;unfold eG;generalize hK7:j8 ad EE=K7;simp only [ah,ar,kC,ac,af,List.getElem?_cons_zero,List.getElem?_cons_succ,cH,hlw,oF,hlen,List.dropLast_concat];refine ⟨trivial,?_⟩;simp only [ag,List.set];rw [<- hK7];have wr:wD (tr,S,F)=.tup [tr.d,.int (S:Nat),.int (F:Nat)]:=rfl;unfold j8 nO;generalize hK5:iw ad EE=K5;simp only [ah,ar,ai,ac,dC,wr,aB,aT,atI_1,atI_2,ag,List.set,List.getElem?_cons_zero,List.getElem?_cons_succ];rw [<- hK5];have I1:∀{u:D},(N.upd lw (.lst (ws.map wD).reverse)) lf=some (.lst (as.map D.ref)):=fun {u}=>by rw [ae I.ne];exact I.lf'
 have ex1:Ext M0 (N.upd lw (.lst (ws.map wD).reverse)):=I.x.upd I.w;have ny1:Lay ad (N.upd lw (.lst (ws.map wD).reverse)) as ds:=I.ny.go fun a x=>qT hlw a x;have nbw:db≠lw:=fun z=>by have:=I.bd;rw [z,hlw] at this;cases this
 have bd1:(N.upd lw (.lst (ws.map wD).reverse)) db=some (.dK (bD us)):=by rw [ae nbw];exact I.bd
 generalize hN1:N.upd lw (.lst (ws.map wD).reverse)=N1 at *;have lw1:N1 lw=some (.lst (ws.map wD).reverse):=by rw [<- hN1,Mem.upd_same]
 have pS:N1 lf=some (.lst (as.map D.ref)):=I1 (u:=.non);unfold iw;cases tr with
 |e m=>
  have ed:Tr.d (.e m)=.tup [.str "end",m]:=rfl;unfold lZ;simp only [aS,am,ai,ac,dC,aB,aT,atI_0,atI_1,ed,cu,dv,bo,aC,decide_true,if_true,List.getElem?_cons_zero,List.getElem?_cons_succ,ba,kC,cH,pS,aa,dP,ap,ak,af];refine ⟨trivial,trivial,trivial,rfl,aG (fun _ _ q=>io htr q) ?_⟩;have fs:∀{x:Str} {M:Mem} {Q:DK},Q (.str x) M->frz (.str x) M Q:=fun z=>z;refine fs ⟨rfl,fun x hx=>ao fun Q' E' hq _=>qW (y:=⟨qO a b m,S,F⟩) (hq _ _ ?_)⟩;have nx:lf≠x:=Mem.ne pS hx;have nw:lw≠x:=Mem.ne lw1 hx;have nd:db≠x:=Mem.ne bd1 hx;simp only [cb,ae nx,pS];refine ⟨by simp [cR] at *;exact ma (by lia),?_⟩
  refine h (as++[x]) (ds++[⟨qO a b m,S,F⟩]) ws _ _ _ _ _ ⟨(ex1.upd (ex1.no hx)).upd I.f,I.f,I.w,I.b,?_,?_,?_,I.ne,I.nb,?_,?_,fun w hw=>I.tr w (List.mem_cons_of_mem _ hw)⟩ ?_ ?_
  ·rw [ae (Ne.symm I.nb),ae nd];exact bd1
  ·rw [Mem.upd_same];simp
  ·rw [ae (Ne.symm I.ne),ae nw];exact lw1
  ·refine Lay.snoc ?_ (ny1.go fun a y e=>?_)
   ·rw [ae (Ne.symm nx),Mem.upd_same]
   ·rw [ae (fun z=>by rw [z,pS] at e;cases e),ae (Mem.ne e hx)];exact e
  ·simp only [bZ,List.length_append,List.length_singleton,cR] at few ⊢;lia
  ·simp [bZ,cR]
  ·simp [qx,ci]
 |a q x y=>
  obtain ⟨hq,htx,hty⟩:=htr;have ed:Tr.d (.a q x y)=.tup [.str "ask",kD q,x.d,y.d]:=rfl;have hne:decide (("ask":Str)=("end":Str))=false:=by decide +kernel
  have gd:nh N1 db (kD q)=some (some (.int ((bitK us q:Nat):Int))):=by simp only [nh,bd1,da,Dy hq]
  have sq:aT N1 (.ref db)=none:=by simp only [aT,bd1]
  unfold mx nB nu;simp only [aS,am,ai,ac,dC,aB,atI_0,atI_1,atI_2,atI_3,ed,cu,dv,bo,aC,hne,List.getElem?_cons_zero,List.getElem?_cons_succ,ah,ar,aT,bd1,gd,ag,List.set,ba,kC,cH,lw1,aa,aR,af,oOr,gr,vz,cb,Mem.upd_same,Mem.upd_upd];refine ⟨trivial,trivial,?_⟩;rw [if_neg (by simp)]
  have hr:(ws.map wD).reverse.length=ws.length:=by simp
  refine ⟨trivial,bw (by simp),by rw [hr];exact ma (by simp [cR] at few;lia),trivial,bw (by simp),by rw [List.length_append,hr];simp [cR] at few;exact ma (by simp;lia),?_⟩
  have er:((ws.map wD).reverse++[D.tup [x.d,.int ((S ||| bitK us q:Nat):Int),.int (F:Nat)]])++[D.tup [y.d,.int (S:Nat),.int ((F ||| bitK us q:Nat):Int)]]=(((y,S,F ||| bitK us q)::(x,S ||| bitK us q,F)::ws).map wD).reverse:=by simp [wD]
  rw [er];refine h as ds ((y,S,F ||| bitK us q)::(x,S ||| bitK us q,F)::ws) _ _ _ _ _ ⟨ex1.upd I.w,I.f,I.w,I.b,by rw [ae nbw];exact bd1,by rw [ae I.ne];exact pS,Mem.upd_same,I.ne,I.nb,ny1.go fun a x=>qT lw1 a x,?_,?_⟩ ?_ ?_
  ·simp only [bZ,List.map_cons,List.sum_cons,cR] at few ⊢;lia
  ·intro w hw
   rcases List.mem_cons.mp hw with z|hw
   ·rw [z];exact hty
   ·rcases List.mem_cons.mp hw with z|hw
    ·rw [z];exact htx
    ·exact I.tr w (List.mem_cons_of_mem _ hw)
  ·simp only [bZ,List.map_cons,List.sum_cons,cR];lia
  ·simp [qx,ci]
end
end Tw
namespace Tw
open PySem L2 L3
section
variable {C:Cse}{s t:Sta}{ad:Ad}{M:Mem}{Q:DK}{E:DX}
theorem pA{us:List aw}{a b:Int}{cs ld:D}{db lf lw:Addr}{M0:Mem}{D':DEnds}{EE:DX}{bx:BxW (fD (ac 5)) (eG ad EE) D'}:∀(n:Nat) (as:List Addr) (ds:List Out) (ws:List (Tr×Nat×Nat)) (N:Mem) (c6 c7 c8 c9:Option D),bZ ws<=n->OK ad M0 us db lf lw as ds ws N->
  (∀as' N' c6 c7 c8 c9,OK ad M0 us db lf lw as' (ds++qx a b us ws) [] N'->D'.nx [some cs,some ld,some (.tup [.int a,.int b]),some (.ref db),some (.ref lf),some (.ref lw),c6,c7,c8,c9] N')->
  bz (fD (ac 5)) (eG ad EE) D' bx (n+1) [some cs,some ld,some (.tup [.int a,.int b]),some (.ref db),some (.ref lf),some (.ref lw),c6,c7,c8,c9] N
 |n,as,ds,[],N,c6,c7,c8,c9,hn,I,h=>by
  refine whF (fun K q=>?_) (h as N c6 c7 c8 c9 (by simpa [qx] using I))
  simp only [fD,ac,List.getElem?_cons_zero,List.getElem?_cons_succ,C4,I.lw'];exact q
 |0,as,ds,w::ws,N,c6,c7,c8,c9,hn,I,h=>by
  have:=lE w.1;simp only [bZ,List.map_cons,List.sum_cons] at hn;lia
 |n+1,as,ds,w::ws,N,c6,c7,c8,c9,hn,I,h=>by
  refine whT (fun K q=>?_) (wW I fun as' ds' ws' N' d6 d7 d8 d9 I' hlt he=>?_)
  ·have:((((w::ws).map wD).reverse).isEmpty)=false:=by simp
   simp only [fD,ac,List.getElem?_cons_zero,List.getElem?_cons_succ,C4,I.lw',this];exact q
  ·exact pA n as' ds' ws' N' d6 d7 d8 d9 (by lia) I' fun as2 N2 e6 e7 e8 e9 I2=>h as2 N2 e6 e7 e8 e9 (by rw [<- he];exact I2)
theorem mB{us:List aw}:∀(n:Nat) (g:Gs),(∀x∈g.u,x∈us)->Ar us (cc C s t n g)
 |0,g,h=>.inl rfl
 |n+1,g,h=>by
  obtain ⟨⟨hlen,hsub⟩,hlft,hask⟩:=qa (C:=C) (C.most+1) g;unfold cc;cases e:(bn C (C.most+1) g).1 with
  |none=>
   show AN C _=.non\/_;unfold AN
   split
   ·exact .inr ⟨_,rfl⟩
   ·exact .inl rfl
  |some q=>
   have hs:∀v,∀x∈(cz (bn C (C.most+1) g).2 q v).u,x∈us:=fun v x hx=>by rw [ju] at hx;exact h x (hsub x (List.mem_filter.mp hx).1)
   exact ⟨h q (hsub q (hask q e)),mB n _ (hs _),mB n _ (hs _)⟩
theorem kb:∀t:Tr,cR t=2*t.asks+1
 |.e _=>rfl
 |.a _ x y=>by unfold cR Tr.asks;rw [kb x,kb y];lia
theorem lF:∀(us:List aw) (j:Nat),og ((us.zipIdx j).map fun p=>D.tup [kD p.1,.int ((2 ^ p.2:Nat):Int)])=some ((us.zipIdx j).map fun p=>(p.1,D.int ((2 ^ p.2:Nat):Int)))
 |[],_=>rfl
 |k::ks,j=>by simp only [List.zipIdx_cons,List.map_cons,og,da,lF ks (j+1)]
theorem kE{L:Nat}{a b:Int}(o:C.Ok)(hs:SOk C s)(ht:SOk C t)(ea:C.mark s=.int a)(eb:C.mark t=.int b)(hab:a≠b)(hu:(az C s t).length<24)(hc:1+(C.tree s t).asks<=L)(hL:L<=1000)
  (h:∀p as N,Ext M N->N p=some (.lst (as.map D.ref))->M p=none->Lay ad N as (ci a b (az C s t) (C.tree s t) 0 0)->Q (.ref p) N):rG ad [bu C s t,.int (L:Nat)] M Q E:=by
 have ul:=pL (s:=s) (t:=t) o;have hcs:bu C s t=.tup [C.d,s.d,t.d,.int (C.most:Nat)]:=rfl;rw [Gf (n:=0)];unfold tZ;generalize hK11:fL ad (ay E)=K11;simp only [ah,ar,ap,ak,aa,ac,af,List.getElem?_cons_zero];have ft:∀{xs:List D} {M:Mem} {Q:DK},Q (.tup xs) M->frz (.tup xs) M Q:=fun z=>z;refine ⟨rfl,aG (fun _ _ q=>ke o hs ht ea eb hab q) (ft ?_)⟩;simp only [ag,List.set];rw [<- hK11];unfold fL;generalize hK10:fF ad (ay E)=K10;simp only [ah,ar,bQ,ap,aV,lS,ak,aa,ac,af,bq,List.map_cons,List.map_nil,List.cons_append,List.nil_append,List.getElem?_cons_zero,List.getElem?_cons_succ];refine ⟨rfl,ao fun Q' E' hq _=>bK o hs ht fun p hp=>hq _ _ (bA hp ?_)⟩;simp only [aT,bv,jL];refine m7 (fun i d=>.tup [d,.int ((2 ^ i:Nat):Int)]) aY _ 0 [] _ _ (by simp;lia) (fun i x hx K q=>?_) ?_
 ·have hi:i<200:=by
   have h1:i<((az C s t).map kD).length:=by
    rcases Nat.lt_or_ge i ((az C s t).map kD).length with z|z
    ·exact z
    ·rw [List.getElem?_eq_none z] at hx;cases hx
   rw [List.length_map] at h1;lia
  simp only [aR,aa,ai,ac,dC,af,EU,oI,List.getElem?_cons_zero,List.getElem?_cons_succ];refine ⟨⟨by lia,by lia,by decide⟩,bw (by simp),?_⟩
  have:(1:Int)*2 ^ (((0+i:Nat):Int)).toNat=((2 ^ (0+i):Nat):Int):=by rw [Int.toNat_natCast];simp
  rw [this];exact q
 intro p hp;refine bA hp ?_;have e:([]:List D)++(((az C s t).map kD).zipIdx 0).map (fun p=>D.tup [p.1,.int ((2 ^ p.2:Nat):Int)])=((az C s t).zipIdx 0).map fun p=>D.tup [kD p.1,.int ((2 ^ p.2:Nat):Int)]:=by
  rw [List.nil_append,List.zipIdx_map,List.map_map];rfl
 rw [e];have hnd:(([]:List (aw×D)).map (·.1)++(bD (az C s t)).map (·.1)).Nodup:=by rw [Aj];exact ub o
 have hfold:=uR hnd;rw [List.nil_append] at hfold;simp only [dM,xo,dk,lF];refine ⟨trivial,by simp;lia,fun db hdb=>?_⟩
 have efold:(List.foldl (fun a p=>cT a p.fst p.snd) [] (List.map (fun p=>(p.1,D.int ((2 ^ p.2:Nat):Int))) (List.zipIdx (az C s t))))=bD (az C s t):=hfold;rw [efold];simp only [bJ,af,ag,List.set];refine ⟨bw (by simp),fun lf hlf=>?_⟩
 have n1:db≠lf:=Mem.ne Mem.upd_same hlf;rw [ae n1.symm] at hlf;rw [<- hK10];unfold fF mF;simp only [ah,ar,bJ,aa,aR,ak,ac,dC,af,List.getElem?_cons_zero,List.getElem?_cons_succ];refine ⟨rfl,aG (fun _ _ q=>wb o hs ht ea eb hab hu hc q) ⟨bw (by simp),bw (by simp),fun lw hlw=>?_⟩⟩
 have n2:lf≠lw:=Mem.ne Mem.upd_same hlw;rw [ae n2.symm] at hlw;have n3:db≠lw:=Mem.ne Mem.upd_same hlw;rw [ae n3.symm] at hlw;simp only [ag,List.set,cE];have I:OK ad M (az C s t) db lf lw [] [] [(C.tree s t,0,0)] (((M.upd db (.dK (bD (az C s t)))).upd lf (.lst [])).upd lw (.lst [D.tup [(C.tree s t).d,.int 0,.int 0]])):=
  ⟨((Ext.new hdb).upd hlf).upd hlw,hlf,hlw,hdb,by rw [ae n3,ae n1,Mem.upd_same],by rw [ae n2,Mem.upd_same];rfl,Mem.upd_same,n2,n1.symm,.nil,by simp only [bZ,List.map_cons,List.map_nil,List.sum_cons,List.sum_nil,List.length_nil,kb];lia,fun w hw=>by
   rcases List.mem_cons.mp hw with z|z
   ·rw [z];exact mB 24 _ fun x hx=>hx
   ·cases z⟩
 refine ⟨_,pA _ _ _ _ _ _ _ _ _ (Nat.le_refl _) I fun as' N' c6 c7 c8 c9 I'=>?_⟩;simp only [ax,ac,List.getElem?_cons_zero,List.getElem?_cons_succ];refine aj (h lf as' N' I'.x I'.lf' hlf ?_);have:=I'.ny;simpa [qx] using this
end
end Tw
namespace Tw
open PySem L2 L3
def fct:Nat->Nat
 |0=>1
 |n+1=>fct n*(n+1)
theorem nq:∀n,0<fct n
 |0=>by decide
 |n+1=>Nat.mul_pos (nq n) (Nat.succ_pos n)
theorem yG:∀{a b:Nat},a<=b->fct a<=fct b:=by
 intro a b h
 induction b with
 |zero=>
  exact Nat.le_of_eq (congrArg fct (Nat.le_zero.mp h))
 |succ b ih=>
  by_cases e:a=b+1
  ·subst e;exact Nat.le_refl _
  ·exact Nat.le_trans (ih (by lia)) (Nat.le_mul_of_pos_right _ (Nat.succ_pos b))
theorem fq{a:Nat}(h:a<=20):((fct a:Nat):Int)<2 ^ 64:=by
 have h1:=yG h;have h2:fct 20<2 ^ 64:=by decide
 have:fct a<2 ^ 64:=by lia
 exact_mod_cast this
def dF(n:Nat):List D:=(List.range (n+1)).map fun i=>D.int ((fct i:Nat):Int)
theorem fZ{n i:Nat}(h:i<=n):atI (dF n) (i:Int)=some (.int ((fct i:Nat):Int)):=by
 rw [bR (by lia),Int.toNat_natCast,dF,List.getElem?_map,List.getElem?_range (by lia)];rfl
theorem gO{n:Nat}:atI (dF n) (-1)=some (.int ((fct n:Nat):Int)):=by
 have hl:(dF n).length=n+1:=by simp [dF]
 unfold atI nP;rw [if_neg (by decide),hl]
 rw [if_pos (by lia)]
 have:((-1:Int)+((n+1:Nat):Int)).toNat=n:=by lia
 rw [this];show (dF n)[n]?=_;rw [dF,List.getElem?_map,List.getElem?_range (by lia)];rfl
section
variable {C:Cse}{s t:Sta}{ad:Ad}{M:Mem}{Q:DK}{E:DX}
theorem eZ{n:Nat}(hn:n<=20)(h:∀p,M p=none->Q (.ref p) (M.upd p (.lst (dF n)))):yz ad [.int (n:Nat)] M Q E:=by
 rw [u_q8 (n:=0)];unfold zD qj;simp only [ah,ar,bJ,aa,dC,af,ag,List.set,eV,jt,ac,List.getElem?_cons_zero,List.getElem?_cons_succ];refine ⟨bw (by simp),fun p hp=>⟨by lia,by lia,?_⟩⟩
 refine cY (fun ys δ N=>∃(c:Option D) (j:Nat),j<=n/\ys=(List.range (n-j)).map (fun (i:Nat)=>D.int ((j+i:Nat):Int))/\δ=[some (.int (n:Nat)),some (.ref p),c]/\N=M.upd p (.lst (dF j))) (fun _ _ _ _=>aY) ?_ ?_ _ _ _ ⟨none,0,by lia,?_,rfl,rfl⟩
 ·rintro δ N ⟨c,j,hj,e,rfl,rfl⟩
  have:j=n:=by
   have:=congrArg List.length e;simp at this;lia
  subst this;simp only [ax,ac,List.getElem?_cons_zero,List.getElem?_cons_succ];exact aj (h p hp)
 ·rintro y ys δ N ⟨c,j,hj,e,rfl,rfl⟩ D' hD _ _ _
  have hjn:j<n:=by
   rcases Nat.lt_or_ge j n with z|z
   ·exact z
   ·rw [show n-j=0 by lia] at e;simp at e
  rw [show n-j=(n-(j+1))+1 by lia,List.range_succ_eq_map] at e
  simp only [List.map_cons,List.map_map,Nat.add_zero,List.cons.injEq] at e;obtain ⟨rfl,rfl⟩:=e;unfold rf;simp only [ag,List.set,ba,kC,ac,aa,ai,dC,af,pX,List.getElem?_cons_zero,List.getElem?_cons_succ,cH,Mem.upd_same,aB,aT,gO,bE,cZ,cb,Mem.upd_upd];have hb:=fq (a:=j) (by lia)
  refine ⟨trivial,.inl ⟨by lia,hb⟩,by simp [dF];exact ma (by lia),hD _ _ ⟨_,j+1,hjn,?_,rfl,?_⟩⟩
  ·refine List.map_congr_left fun i _=>?_
   simp only [Function.comp];congr 2;lia
  ·congr 2
   unfold dF;rw [List.range_succ (n:=j+1),List.map_append];simp [fct]
 ·simp [cW]
theorem pe{n d:Int}{EE:DX}{D':DEnds}{bx:BxW (am (ai kA (ac 3) (dC (.int 0)))) (jP ad EE) D'}:∀(f:Nat) (v r:Nat) (c4:Option D),r<f->r<v->(∀c4,D'.nx [some (.int n),some (.int d),some (.int ((Nat.gcd v r:Nat):Int)),some (.int 0),c4] M)->
  bz (am (ai kA (ac 3) (dC (.int 0)))) (jP ad EE) D' bx (f+1) [some (.int n),some (.int d),some (.int (v:Nat)),some (.int (r:Nat)),c4] M
 |0,v,r,c4,hf,hv,h=>by lia
 |f+1,v,r,c4,hf,hv,h=>by
  have tst:∀K:Bool->Mem->Prop,K (!decide (((r:Nat):Int)=0)) M->am (ai kA (ac 3) (dC (.int 0))) [some (.int n),some (.int d),some (.int (v:Nat)),some (.int (r:Nat)),c4] M K:=fun K q=>by
   simp only [am,ai,ac,dC,kA,dv,bo,aC,List.getElem?_cons_zero,List.getElem?_cons_succ];exact ⟨trivial,trivial,q⟩
  by_cases h0:r=0
  ·subst h0
   refine whF (fun K q=>tst K (by simpa using q)) ?_
   have:=h c4;rw [Nat.gcd_zero_right] at this;exact this
  ·refine whT (fun K q=>tst K (by
    have:¬((r:Nat):Int)=0:=by lia
    rw [decide_eq_false this];exact q)) ?_
   unfold jP rD;have e:((v:Nat):Int) % ((r:Nat):Int)=((v % r:Nat):Int):=by simp
   simp only [ah,ar,ai,ac,ag,List.set,dY,oI,List.getElem?_cons_zero,List.getElem?_cons_succ,e];refine ⟨by lia,pe f r (v % r) _ ?_ ?_ fun c4=>?_⟩
   ·have:=Nat.mod_lt v (show r>0 by lia);lia
   ·exact Nat.mod_lt v (by lia)
   ·have:=h c4
    rw [Nat.gcd_comm v r,Nat.gcd_rec,Nat.gcd_comm] at this;exact this
theorem oU{n:Int}{d:Nat}(hd:0<d)(hd2:d<2 ^ 190)(h:Q (.tup [.int (n / ((Nat.gcd d (n % (d:Int)).toNat:Nat):Int)),.int (((d:Nat):Int) / ((Nat.gcd d (n % (d:Int)).toNat:Nat):Int))]) M):Bf ad [.int n,.int (d:Nat)] M Q E:=by
 rw [u_q1 (n:=0)];unfold AY rC rg;have h0:=Int.emod_nonneg n (show ((d:Nat):Int)≠0 by lia)
 have h1:=Int.emod_lt_of_pos n (show (0:Int)<((d:Nat):Int) by lia)
 have er:n % ((d:Nat):Int)=(((n % (d:Int)).toNat:Nat):Int):=by lia
 simp only [ah,ar,ai,ac,ag,List.set,dY,oI,List.getElem?_cons_zero,List.getElem?_cons_succ,cE];refine ⟨by lia,(n % (d:Int)).toNat+2,?_⟩
 rw [er];have gp:0<Nat.gcd d (n % (d:Int)).toNat:=Nat.gcd_pos_of_pos_left _ hd;have gl:Nat.gcd d (n % (d:Int)).toNat<=d:=Nat.gcd_le_left _ hd;refine pe _ d _ _ (by lia) (by lia) fun c4=>?_
 unfold qu;have hb:((Nat.gcd d (n % (d:Int)).toNat:Nat):Int)<2 ^ 200:=by
  have:Nat.gcd d (n % (d:Int)).toNat<2 ^ 200:=Nat.lt_of_le_of_lt gl (Nat.lt_trans hd2 (by decide))
  exact_mod_cast this
 simp only [ax,aR,aa,ai,ac,af,eX,oI,tT,List.getElem?_cons_zero,List.getElem?_cons_succ];exact ⟨⟨by lia,hb⟩,⟨by lia,hb⟩,bw (by simp),aj h⟩
end
mutual
theorem xR:∀(d:D) (n:Nat),bo n d=true->aC d d=true
 |.non,_,_=>rfl
 |.bl b,_,_=>by simp [aC]
 |.int i,_,_=>by simp [aC]
 |.str x,_,_=>by simp [aC]
 |.tup xs,n+1,h=>by simp only [aC];exact qZ xs n (by simpa [bo] using h)
 |.lst xs,n+1,h=>by simp only [aC];exact qZ xs n (by simpa [bo] using h)
 |.tup xs,0,h=>by simp [bo] at h
 |.lst xs,0,h=>by simp [bo] at h
 |.ty x,n,h=>by cases n<;>simp [bo] at h
 |.ref x,n,h=>by cases n<;>simp [bo] at h
 |.mt x,n,h=>by cases n<;>simp [bo] at h
 |.ml x,n,h=>by cases n<;>simp [bo] at h
theorem qZ:∀(ds:List D) (n:Nat),bH n ds=true->d_ ds ds=true
 |[],_,_=>by simp [d_]
 |d::ds,n,h=>by
  simp only [bH,Bool.and_eq_true] at h;simp only [d_,xR d n h.1,qZ ds n h.2,Bool.and_self]
end
end Tw
namespace Tw
open PySem L2 L3
def y0(n:Nat)(x:Out)(i:Nat):Int:=
 (if x.f.testBit i=true then ((fct n / fct ((aQ x.f).length+(aQ x.s).length)*fct ((aQ x.f).length-1)*fct (aQ x.s).length:Nat):Int) else 0)
 - (if x.s.testBit i=true then ((fct n / fct ((aQ x.f).length+(aQ x.s).length)*fct (aQ x.f).length*fct ((aQ x.s).length-1):Nat):Int) else 0)
def eR(n:Nat)(xs:List Out)(i:Nat):Int:=(xs.map fun x=>y0 n x i).sum
def bO(n:Nat)(T:Nat->Int):List D:=(List.range n).map fun i=>D.int (T i)
structure OutOk(n:Nat)(x:Out):Prop where
 s:x.s<2 ^ n
 f:x.f<2 ^ n
 l:(aQ x.f).length+(aQ x.s).length<=n
theorem pE{n j:Nat}{T:Nat->Int}{v:Int}(h:j<n):(bO n T).set j (.int v)=bO n fun i=>if i=j then v else T i:=by
 unfold bO;refine List.ext_getElem? fun i=>?_;rw [List.getElem?_set]
 by_cases e:j=i
 ·subst e
  rw [if_pos rfl,List.getElem?_map,List.getElem?_range h];simp [h]
 ·rw [if_neg e,List.getElem?_map,List.getElem?_map]
  by_cases hi:i<n
  ·rw [List.getElem?_range hi]
   have:¬i=j:=fun z=>e z.symm;simp [this]
  ·rw [List.getElem?_eq_none (by simp;lia)];rfl
theorem md{n j:Nat}{T:Nat->Int}(h:j<n):(bO n T)[j]?=some (.int (T j)):=by
 unfold bO;rw [List.getElem?_map,List.getElem?_range h];rfl
theorem n0{b:Nat}:(aQ b).Nodup:=List.Pairwise.filter _ List.nodup_range
theorem cJ{b n i:Nat}(h:b<2 ^ n):i∈aQ b↔i<n/\b.testBit i=true:=by
 rw [vL h,List.mem_filter,List.mem_range]
section
variable {C:Cse}{s t:Sta}{ad:Ad}{M:Mem}{Q:DK}{E:DX}
theorem jW{n:Nat}{D':DEnds}{lt:Addr}{tb:au}{ok:Mem->Prop}{bx:BxF (ag 10) tb D' ok}{v:Int}{δ0:Dl}{P:Prop}(hok:∀M,ok M)(hδ:δ0.length=10)
  (htb:P->∀(j:Nat) (T:Nat->Int) (N:Mem) (D2:DEnds),j<n->N lt=some (.lst (bO n T))->D2.nx (δ0++[some (.int (j:Nat))]) (N.upd lt (.lst (bO n fun i=>if i=j then T i+v else T i)))->tb D2 (δ0++[some (.int (j:Nat))]) N):
  ∀(js:List Nat) (T:Nat->Int) (N:Mem) (c:Option D),(js≠[]->P)->(∀j∈js,j<n)->js.Nodup->N lt=some (.lst (bO n T))->(∀c,D'.nx (δ0++[c]) (N.upd lt (.lst (bO n fun i=>T i+if i∈js then v else 0))))->
  fO (ag 10) tb D' ok bx (js.map fun (j:Nat)=>D.int (j:Int)) (δ0++[c]) N
 |[],T,N,c,hP,hj,nd,hN,h=>by
  unfold fO;refine ⟨hok _,?_⟩;have:=h c;simp only [List.not_mem_nil,if_false,Int.add_zero] at this;rw [k8 hN] at this;exact this
 |j::js,T,N,c,hP,hj,nd,hN,h=>by
  unfold fO;refine ⟨hok _,?_⟩;have es:(δ0++[c]).set 10 (some (.int (j:Int)))=δ0++[some (.int (j:Int))]:=by
   rw [List.set_append_right _ _ (by lia),hδ];rfl
  simp only [ag,es];have nd':=List.nodup_cons.mp nd;refine htb (hP (by simp)) j T N _ (hj j List.mem_cons_self) hN ?_
  refine jW hok hδ htb js _ _ _ (fun _=>hP (by simp)) (fun x hx=>hj x (List.mem_cons_of_mem _ hx)) nd'.2 Mem.upd_same fun c=>?_
  rw [Mem.upd_upd];have e:(fun i=>(if i=j then T i+v else T i)+if i∈js then v else 0)=fun i=>T i+if i∈j::js then v else 0:=by
   funext i
   by_cases e1:i=j
   ·subst e1
    simp [nd'.1]
   ·simp [e1]
  rw [e];exact h c
theorem xV{n:Nat}{x:Out}{a:Addr}{lt:Addr}{N:Mem}{T:Nat->Int}{cs ld th ends:D}{c7 c8 c9 c10:Option D}{D':DEnds}{EE:DX}(hn:n<=20)(hx:OutOk n x)(ha:N a=some (wm ad x))(hl:N lt=some (.lst (bO n T)))
  (h:∀c7 c8 c9 c10,D'.nx [some cs,some ld,some th,some (.ref lt),some ends,some (.lst (dF n)),some (.ref a),c7,c8,c9,c10] (N.upd lt (.lst (bO n fun i=>T i+y0 n x i)))):
  eK ad EE D' [some cs,some ld,some th,some (.ref lt),some ends,some (.lst (dF n)),some (.ref a),c7,c8,c9,c10] N:=by
 have hx1:=hx.l;have p1:x.f<2 ^ 200:=Nat.lt_of_lt_of_le hx.f (Nat.pow_le_pow_right (by decide) (Nat.le_trans hn (by decide)))
 have p2:x.s<2 ^ 200:=Nat.lt_of_lt_of_le hx.s (Nat.pow_le_pow_right (by decide) (Nat.le_trans hn (by decide)))
 have f1:List.lookup ("faulty":Str) [(("verdict":Str),D.str x.v),(("sound":Str),D.int (x.s:Nat)),(("faulty":Str),D.int (x.f:Nat))]=some (.int (x.f:Nat)):=rfl;have f2:List.lookup ("sound":Str) [(("verdict":Str),D.str x.v),(("sound":Str),D.int (x.s:Nat)),(("faulty":Str),D.int (x.f:Nat))]=some (.int (x.s:Nat)):=rfl;unfold wm at ha;unfold eK;generalize hK5:iX ad EE=K5;simp only [ah,ar,ap,ak,aa,aO,ac,af,List.getElem?_cons_zero,List.getElem?_cons_succ,ha,f1];refine ⟨trivial,rfl,ao fun Q' E' hq _=>dR p1 fun p hp=>hq _ _ (bA hp ?_)⟩;simp only [ag,List.set];rw [<- hK5];unfold iX;generalize hK4:iO ad EE=K4;simp only [ah,ar,ap,ak,aa,aO,ac,af,List.getElem?_cons_zero,List.getElem?_cons_succ,ha,f2];refine ⟨trivial,rfl,ao fun Q' E' hq _=>dR p2 fun p hp=>hq _ _ (bA hp ?_)⟩;simp only [ag,List.set];rw [<- hK4];unfold iO;generalize hK3:iF ad EE=K3;generalize ea:(aQ x.f).length=al at *;generalize ez:(aQ x.s).length=zl at *;have la:∀(l:List Nat),(l.map fun (i:Nat)=>D.int (i:Int)).length=l.length:=fun l=>by simp
 have eaz:((al:Nat):Int)+((zl:Nat):Int)=((al+zl:Nat):Int):=by lia
 simp only [ah,ar,ai,ac,bQ,aa,af,dC,ap,pX,List.getElem?_cons_zero,List.getElem?_cons_succ,cV,aT,aB,gO,la,ea,ez,bE,frz,eaz,fZ (show al+zl<=n by lia),eX,oI,tT,ag,List.set]
 have fb:=fq (a:=al+zl) (by lia)
 have fp:=nq (al+zl);refine ⟨⟨by lia,Int.lt_trans fb (by decide)⟩,?_⟩
 have ee:((fct n:Nat):Int) / ((fct (al+zl):Nat):Int)=((fct n / fct (al+zl):Nat):Int):=by simp
 rw [ee,<- hK3];unfold iF m8 mG;simp only [ah,eV,bN,ac,aT,bv,List.getElem?_cons_zero,List.getElem?_cons_succ];have hz:zl<=n:=by lia
 have b1:=fq (a:=zl) (by lia)
 have b2:=fq (a:=al) (by lia)
 have b1':(0:Int)<=((fct zl:Nat):Int):=by lia
 refine jW (n:=n) (lt:=lt) (P:=0<al) (δ0:=[some cs,some ld,some th,some (.ref lt),some ends,some (.lst (dF n)),some (.ref a),some (.lst ((aQ x.f).map fun (i:Nat)=>D.int (i:Int))),some (.lst ((aQ x.s).map fun (i:Nat)=>D.int (i:Int))),some (.int ((fct n / fct (al+zl):Nat):Int))]) (v:=((fct n / fct (al+zl)*fct (al-1)*fct zl:Nat):Int)) (fun _=>aY) rfl (fun hP j T N D2 hj hN q=>?_) (aQ x.f) T N c10 (fun z=>?_) (fun j hj=>((cJ hx.f).mp hj).1) n0 hl fun c=>?_
 ·have e1:((al:Nat):Int)-1=((al-1:Nat):Int):=by lia
  have b3:=fq (a:=al-1) (by lia)
  have hm:((fct n / fct (al+zl):Nat):Int)*((fct (al-1):Nat):Int)*((fct zl:Nat):Int)=((fct n / fct (al+zl)*fct (al-1)*fct zl:Nat):Int):=by simp
  simp only [List.cons_append,List.nil_append] at q ⊢;simp only [pv,ac,ai,bQ,aa,af,dC,List.getElem?_cons_zero,List.getElem?_cons_succ,zh,hN,Int.toNat_natCast,md hj,cV,aT,aB,la,ea,ez,kO,gr,e1,fZ (show al-1<=n by lia),fZ hz,cZ,k_,hm,qJ]
  have ix:nP (bO n T).length ((j:Nat):Int)=some j:=by rw [gS (by lia) (by simp [bO];exact hj),Int.toNat_natCast]
  simp only [ix,pE hj];refine ⟨by lia,.inr ⟨by lia,b3⟩,.inr ⟨by lia,b1⟩,?_⟩
  have et:(fun i=>if i=j then T j+((fct n / fct (al+zl)*fct (al-1)*fct zl:Nat):Int) else T i)=fun i=>if i=j then T i+((fct n / fct (al+zl)*fct (al-1)*fct zl:Nat):Int) else T i:=by
   funext i
   by_cases e:i=j
   ·subst e;rfl
   ·simp [e]
  rw [et];exact q
 ·rw [<- ea];exact List.length_pos_iff.mpr z
 ·simp only [List.cons_append,List.nil_append,List.getElem?_cons_zero,List.getElem?_cons_succ]
  refine jW (n:=n) (lt:=lt) (P:=0<zl) (δ0:=[some cs,some ld,some th,some (.ref lt),some ends,some (.lst (dF n)),some (.ref a),some (.lst ((aQ x.f).map fun (i:Nat)=>D.int (i:Int))),some (.lst ((aQ x.s).map fun (i:Nat)=>D.int (i:Int))),some (.int ((fct n / fct (al+zl):Nat):Int))]) (v:=-((fct n / fct (al+zl)*fct al*fct (zl-1):Nat):Int)) (fun _=>aY) rfl (fun hP j T N D2 hj hN q=>?_) (aQ x.s) _ _ c (fun z=>?_) (fun j hj=>((cJ hx.s).mp hj).1) n0 Mem.upd_same fun c=>?_
  ·have e1:((zl:Nat):Int)-1=((zl-1:Nat):Int):=by lia
   have b3:=fq (a:=zl-1) (by lia)
   have hm:((fct n / fct (al+zl):Nat):Int)*((fct al:Nat):Int)*((fct (zl-1):Nat):Int)=((fct n / fct (al+zl)*fct al*fct (zl-1):Nat):Int):=by simp
   simp only [List.cons_append,List.nil_append] at q ⊢;simp only [pv,ac,ai,bQ,aa,af,dC,List.getElem?_cons_zero,List.getElem?_cons_succ,zh,hN,Int.toNat_natCast,md hj,cV,aT,aB,la,ea,ez,kO,gr,e1,fZ (show zl-1<=n by lia),fZ (show al<=n by lia),cZ,k_,hm,qJ]
   have ix:nP (bO n T).length ((j:Nat):Int)=some j:=by rw [gS (by lia) (by simp [bO];exact hj),Int.toNat_natCast]
   simp only [ix,pE hj];refine ⟨by lia,.inr ⟨by lia,b2⟩,.inr ⟨by lia,b3⟩,?_⟩
   have et:(fun i=>if i=j then T j-((fct n / fct (al+zl)*fct al*fct (zl-1):Nat):Int) else T i)=fun i=>if i=j then T i+-((fct n / fct (al+zl)*fct al*fct (zl-1):Nat):Int) else T i:=by
    funext i
    by_cases e:i=j
    ·subst e;simp [Int.sub_eq_add_neg]
    ·simp [e]
   rw [et];exact q
  ·rw [<- ez];exact List.length_pos_iff.mpr z
  ·rw [Mem.upd_upd]
   have et:bO n (fun i=>(T i+if i∈aQ x.f then ((fct n / fct (al+zl)*fct (al-1)*fct zl:Nat):Int) else 0)+if i∈aQ x.s then -((fct n / fct (al+zl)*fct al*fct (zl-1):Nat):Int) else 0)=bO n fun i=>T i+y0 n x i:=by
    unfold bO;refine List.map_congr_left fun i hi=>?_;have hi:=List.mem_range.mp hi;congr 1;unfold y0;rw [ea,ez];have m1:(i∈aQ x.f)=(x.f.testBit i=true):=propext ⟨fun z=>((cJ hx.f).mp z).2,fun z=>(cJ hx.f).mpr ⟨hi,z⟩⟩;have m2:(i∈aQ x.s)=(x.s.testBit i=true):=propext ⟨fun z=>((cJ hx.s).mp z).2,fun z=>(cJ hx.s).mpr ⟨hi,z⟩⟩;simp only [m1,m2]
    split<;>split<;>lia
   rw [et];exact h _ _ _ _
end
end Tw
namespace Tw
open PySem L2 L3
def FV(N:Mem)(a:Addr):Bool:=match N a with
 |some (.ins _ fs)=>match fs.lookup ("verdict":Str) with
  |some (.str v)=>decide (v=("faulty":Str))
  |_=>false
 |_=>false
theorem yW{ad:Ad}{N:Mem}{a:Addr}{x:Out}(h:N a=some (wm ad x)):FV N a=decide (x.v=("faulty":Str)):=by
 unfold FV;rw [h];rfl
theorem Lay.filt{ad:Ad}{N:Mem}:∀{as:List Addr} {xs:List Out},Lay ad N as xs->Lay ad N (as.filter (FV N)) (xs.filter fun x=>decide (x.v=("faulty":Str)))
 |_,_,.nil=>.nil
 |_,_,.cons (a:=a) (x:=x) h t=>by
  have e:=yW h;have ih:=t.filt
  by_cases c:x.v=("faulty":Str)
  ·rw [List.filter_cons_of_pos (by rw [e];simpa using c),List.filter_cons_of_pos (by simpa using c)]
   exact .cons h ih
  ·rw [List.filter_cons_of_neg (by rw [e];simpa using c),List.filter_cons_of_neg (by simpa using c)]
   exact ih
theorem Lay.mem{ad:Ad}{N:Mem}{c:Addr}:∀{as:List Addr} {xs:List Out},Lay ad N as xs->c∈as->∃y,N c=some (wm ad y)
 |_,_,.nil,h=>by cases h
 |_,_,.cons h t,hc=>by
  rcases List.mem_cons.mp hc with z|z
  ·rw [z];exact ⟨_,h⟩
  ·exact t.mem z
theorem kj{a b:Int}{us:List aw}:∀(t:Tr) {S F:Nat},(ci a b us t S F).length=t.asks+1
 |.e m,S,F=>rfl
 |.a q x y,S,F=>by unfold ci Tr.asks;rw [List.length_append,kj x,kj y];lia
section
variable {C:Cse}{s t:Sta}{ad:Ad}{M:Mem}{Q:DK}{E:DX}
theorem p8{n:Nat}{lt:Addr}{cs ld th ends:D}{D':DEnds}{EE:DX}{ok:Mem->Prop}{bx:BxF (ag 6) (eK ad EE) D' ok}(hn:n<=20)(hok:∀M,ok M):∀(as:List Addr) (xs:List Out) (T:Nat->Int) (N:Mem) (c6 c7 c8 c9 c10:Option D),Lay ad N as xs->(∀x∈xs,OutOk n x)->N lt=some (.lst (bO n T))->
  (∀c6 c7 c8 c9 c10,D'.nx [some cs,some ld,some th,some (.ref lt),some ends,some (.lst (dF n)),c6,c7,c8,c9,c10] (N.upd lt (.lst (bO n fun i=>T i+eR n xs i))))->
  fO (ag 6) (eK ad EE) D' ok bx (as.map D.ref) [some cs,some ld,some th,some (.ref lt),some ends,some (.lst (dF n)),c6,c7,c8,c9,c10] N
 |_,_,T,N,c6,c7,c8,c9,c10,.nil,hx,hl,h=>by
  have:=h c6 c7 c8 c9 c10;simp only [eR,List.map_nil,List.sum_nil,Int.add_zero] at this;rw [k8 hl] at this;exact ⟨hok _,this⟩
 |_,_,T,N,c6,c7,c8,c9,c10,.cons (a:=a) (x:=x) (xs:=xs) ha ht,hx,hl,h=>by
  rw [List.map_cons];unfold fO;refine ⟨hok _,?_⟩;simp only [ag,List.set];refine xV hn (hx x List.mem_cons_self) ha hl fun d7 d8 d9 d10=>?_;refine p8 hn hok _ xs _ _ _ _ _ _ _ (ht.go fun b y e=>qT hl b y e) (fun y hy=>hx y (List.mem_cons_of_mem _ hy)) Mem.upd_same fun e6 e7 e8 e9 e10=>?_;rw [Mem.upd_upd];have:=h e6 e7 e8 e9 e10;simp only [eR,List.map_cons,List.sum_cons] at this ⊢;simp only [Int.add_assoc];exact this
theorem kK{L:Nat}{a b:Int}(o:C.Ok)(hs:SOk C s)(ht:SOk C t)(ea:C.mark s=.int a)(eb:C.mark t=.int b)(hab:a≠b)(hu:(az C s t).length<=20)(hc:1+(C.tree s t).asks<=L)(hL:L<=1000)
  (hx:∀x∈(ci a b (az C s t) (C.tree s t) 0 0).filter (fun x=>decide (x.v=("faulty":Str))),OutOk (az C s t).length x)
  (h:∀p,M p=none->Q (.ref p) (M.upd p (.lst (bO (az C s t).length (eR (az C s t).length ((ci a b (az C s t) (C.tree s t) 0 0).filter fun x=>decide (x.v=("faulty":Str)))))))):o9 ad [bu C s t,.int (L:Nat)] M Q E:=by
 rw [Ho (n:=0)];unfold rO;generalize hK10:fM ad (ay E)=K10;simp only [ah,ar,ap,ak,aa,ac,af,List.getElem?_cons_zero];refine ⟨rfl,ao fun Q' E' hq _=>bK o hs ht fun p hp=>hq _ _ (bA hp ?_)⟩;simp only [ag,List.set];rw [<- hK10];unfold fM;generalize hK9:jd ad (ay E)=K9;simp only [ah,eh,aV,bN,ac,aT,bv,bq,List.map_cons,List.map_nil,List.cons_append,List.nil_append,List.getElem?_cons_zero,List.getElem?_cons_succ];refine de (fun _=>.int 0) aY (by simp;lia) (fun x hx K q=>q) ?_
 intro lt hlt;have e0:((az C s t).map kD).map (fun _=>D.int 0)=bO (az C s t).length fun _=>0:=by
  unfold bO;rw [List.map_map];refine List.ext_getElem (by simp) fun i h1 h2=>?_
  simp
 rw [e0];simp only [List.set];rw [<- hK9];unfold jd;generalize hK8:iB ad (ay E)=K8;simp only [ah,dL,eh,aV,bN,ap,ak,aa,ac,af,bq,List.map_cons,List.map_nil,List.cons_append,List.nil_append,List.getElem?_cons_zero,List.getElem?_cons_succ];refine ⟨rfl,ao fun Q' E' hq _=>kE o hs ht ea eb hab (by lia) hc hL fun p as N ex hp hpn ny=>hq _ _ ?_⟩
 have nl:lt≠p:=fun z=>by rw [<- z,Mem.upd_same] at hpn;cases hpn
 have hlt':N lt=some (.lst (bO (az C s t).length fun _=>0)):=ex _ _ Mem.upd_same;simp only [frz,hp];simp only [aT,bv];have ny1:Lay ad (N.del p) as (ci a b (az C s t) (C.tree s t) 0 0):=ny.go fun c y e=>by unfold Mem.del;rw [if_neg (fun z=>by rw [z,hp] at e;cases e)];exact e
 have hl1:(N.del p) lt=some (.lst (bO (az C s t).length fun _=>0)):=by unfold Mem.del;rw [if_neg nl];exact hlt'
 have ex1:Ext (M.upd lt (.lst (bO (az C s t).length fun _=>0))) (N.del p):=ex.del hpn;have hno:∀{z:Addr},(N.del p) z=none->M z=none\/z=p:=fun {z} e=>by
  unfold Mem.del at e
  split at e
  ·exact .inr (by assumption)
  ·refine .inl ?_
   have:=ex.no e
   by_cases c:z=lt
   ·rw [c,Mem.upd_same] at this;cases this
   ·rw [ae c] at this;exact this
 generalize N.del p=N1 at *;have al:=ny1.length;have hal:as.length<=100000:=by rw [al,kj];lia
 refine eD (fun d=>match d with|.ref a=>FV N1 a|_=>false) id aY (by simpa using hal) (fun x hx K q=>?_) (fun x hx _ K q=>q) ?_
 ·obtain ⟨c,hcm,rfl⟩:=List.mem_map.mp hx
  obtain ⟨y,hy⟩:=ny1.mem hcm;have l1:List.lookup ("verdict":Str) [(("verdict":Str),D.str y.v),(("sound":Str),D.int (y.s:Nat)),(("faulty":Str),D.int (y.f:Nat))]=some (.str y.v):=rfl;have q':K (decide (y.v=("faulty":Str))) N1:=by rw [<- yW hy];exact q
  unfold wm at hy;simp only [am,ai,aO,ac,dC,List.getElem?_cons_zero,hy,l1,cu,dv,bo,aC];exact ⟨trivial,trivial,trivial,q'⟩
 intro p4 hp4;have e4:((as.map D.ref).filter fun d=>match d with|.ref a=>FV N1 a|_=>false).map id=(as.filter (FV N1)).map D.ref:=by
  rw [List.map_id,List.filter_map];rfl
 rw [e4];simp only [gh,List.set,List.getElem?_cons_zero,List.getElem?_cons_succ];refine bA (Q:=fun d M'=>K8 _ [some (bu C s t),some (.int (L:Nat)),some (.lst ((az C s t).map kD)),some (.ref lt),some d,none,none,none,none,none,none] M') hp4 ?_;rw [<- hK8];unfold iB;generalize hK7:j6 ad (ay E)=K7;have lu:((az C s t).map kD).length=(az C s t).length:=by simp
 simp only [ah,ar,ap,ak,bQ,aa,ac,af,cV,aT,lu,List.getElem?_cons_zero,List.getElem?_cons_succ];refine ⟨rfl,ao fun Q' E' hq _=>eZ hu fun p5 hp5=>hq _ _ (bA hp5 ?_)⟩;simp only [ag,List.set];rw [<- hK7];unfold j6;simp only [ah,eV,bN,ac,aT,bv,List.getElem?_cons_zero,List.getElem?_cons_succ];refine p8 hu (fun _=>aY) _ _ _ _ _ _ _ _ _ ny1.filt hx hl1 fun c6 c7 c8 c9 c10=>?_;simp only [ax,ac,List.getElem?_cons_zero,List.getElem?_cons_succ,Int.zero_add];have hlm:M lt=none:=hlt;refine ⟨_,fun z ob e=>?_,h lt hlm⟩
 by_cases c:z=lt
 ·subst c;rw [Mem.upd_same] at e ⊢;exact e
 ·rw [ae c] at e ⊢
  exact ex1 z ob (by rw [ae c];exact e)
end
end Tw
namespace Tw
open PySem L2 L3
def E4(n:Nat)(T:Nat->Int)(i:Nat):D:=.tup [.int (T i / ((Nat.gcd (fct n) (T i % ((fct n:Nat):Int)).toNat:Nat):Int)),.int (((fct n:Nat):Int) / ((Nat.gcd (fct n) (T i % ((fct n:Nat):Int)).toNat:Nat):Int))]
mutual
theorem Go:∀(r:Rw) (n:Nat),2*hR r+1<=n->bo n r.d=true
 |.put _ _,n+1,_=>by simp [Rw.d,bo,bH]
 |.take _ _,n+1,_=>by simp [Rw.d,bo,bH]
 |.pick _ _,n+1,_=>by simp [Rw.d,bo,bH]
 |.two _ _ _ _,n+1,_=>by simp [Rw.d,bo,bH]
 |.ifr _ a b,n+2,h=>by
  simp only [hR] at h;have h1:=kf a n (by lia)
  have h2:=kf b n (by lia)
  simp [Rw.d,bo,bH,h1,h2]
 |.again _ a,n+2,h=>by
  simp only [hR] at h;have h1:=kf a n (by lia)
  simp [Rw.d,bo,bH,h1]
 |.ifr _ _ _,0,h=>by lia
 |.ifr _ _ _,1,h=>by simp only [hR] at h;lia
 |.again _ _,0,h=>by lia
 |.again _ _,1,h=>by simp only [hR] at h;lia
theorem kf:∀(rs:List Rw) (n:Nat),2*m_ rs+1<=n->bH n (aL rs)=true
 |[],n,_=>by simp [aL,bH]
 |r::rs,n,h=>by
  simp only [m_] at h;simp [aL,bH,Go r n (by lia),kf rs n (by lia)]
end
theorem pq:∀(n:Nat) (xs:List Str),bH n (xs.map D.str)=true
 |n,[]=>by simp [bH]
 |n,x::xs=>by
  rw [List.map_cons];unfold bH;rw [pq n xs];cases n<;>rfl
section
variable {C:Cse}{s t:Sta}{ad:Ad}{M:Mem}{Q:DK}{E:DX}
theorem xE(o:C.Ok):bo 60 C.d=true:=by
 have h1:=kf C.rows 58 (by have:=o.h;lia)
 have h2:=pq 58 C.names;unfold Cse.d;simp [bo,bH,h1,h2]
theorem pN{L:Nat}{a b:Int}(o:C.Ok)(hs:SOk C s)(ht:SOk C t)(ea:C.mark s=.int a)(eb:C.mark t=.int b)(hab:a≠b)(hu:(az C s t).length<=20)(hc:1+(C.tree s t).asks<=L)(hL:L<=1000)
  (hx:∀x∈(ci a b (az C s t) (C.tree s t) 0 0).filter (fun x=>decide (x.v=("faulty":Str))),OutOk (az C s t).length x) {T:Nat->Int}
  (hT:eR (az C s t).length ((ci a b (az C s t) (C.tree s t) 0 0).filter fun x=>decide (x.v=("faulty":Str)))=T) (hTb:∀i,i<(az C s t).length->-1000000000000000<=T i/\T i<=1000000000000000)
  (h:∀p,M p=none->Q (.ref p) (M.upd p (.lst (((az C s t).zipIdx 0).map fun p=>D.tup [kD p.1,E4 (az C s t).length T p.2])))):uf ad [.lst [bu C s t],.int (L:Nat)] M Q E:=by
 have hcs:bu C s t=.tup [C.d,s.d,t.d,.int (C.most:Nat)]:=rfl;have fp:=nq (az C s t).length;have f64:=fq hu;rw [GQ (n:=0)];unfold sI;generalize hK5:jf ad (ay E)=K5;simp only [ah,ar,ap,aV,bN,ac,aT,bv,bq,List.map_cons,List.map_nil,List.cons_append,List.nil_append,List.getElem?_cons_zero,List.getElem?_cons_succ,Option.join_some];have te:∀{K:DK} {c:Option D},K (.lst (bO (az C s t).length T)) M->(fun δ M Q=>ak (o9 ad) pQ 2 (aa (ac 0) (aa (ac 1) af)) δ M fun d M'=>frz d M' Q) [some (bu C s t),some (.int (L:Nat))] M K:=fun {K c} q=>by
  simp only [ak,aa,ac,af,List.getElem?_cons_zero,List.getElem?_cons_succ];refine ⟨rfl,ao fun Q' E' hq _=>kK o hs ht ea eb hab hu hc hL hx fun p hp=>hq _ _ (bA hp ?_)⟩;rw [hT];exact q
 refine de (fun _=>.lst (bO (az C s t).length T)) aY (by simp) (fun x hx K q=>?_) ?_
 ·have:x=bu C s t:=by simpa using hx
  subst this;exact te (c:=none) q
 intro p hp;refine bA hp ?_;simp only [List.map_cons,List.map_nil,ag,List.set];rw [<- hK5];unfold jf;generalize hK4:ji ad (ay E)=K4;simp only [ah,ar,ap,ak,aa,ai,ac,dC,af,aB,aT,atI_0,List.getElem?_cons_zero,List.getElem?_cons_succ];refine ⟨rfl,ao fun Q' E' hq _=>bK o hs ht fun p hp=>hq _ _ (bA hp ?_)⟩;simp only [ag,List.set];rw [<- hK4];unfold ji;generalize hK3:je ad (ay E)=K3;simp only [ah,eV,bN,ac,aT,bv,List.getElem?_cons_zero,List.getElem?_cons_succ];have fu:bo 60 (.lst ((az C s t).map kD))=true:=by unfold bo;exact t0 59 _
 have fd:=xE o;have dvp:∀{M:Mem},dv M C.d=C.d:=rfl;unfold fO;refine ⟨aY,?_⟩;simp only [ag,List.set];unfold m4;simp only [aS,Dd,am,ai,ac,dC,aB,aT,atI_0,List.getElem?_cons_zero,List.getElem?_cons_succ,hcs,kA,dvp,fd,xR _ _ fd,Bool.not_true];refine ⟨trivial,trivial,?_⟩;rw [if_neg (by simp)]
 simp only [ap,ak,aa,ac,af,List.getElem?_cons_zero,List.getElem?_cons_succ];rw [<- hcs];refine ⟨rfl,ao fun Q' E' hq _=>bK o hs ht fun p hp=>hq _ _ (bA hp ?_)⟩;have dvl:∀{M:Mem},dv M (.lst ((az C s t).map kD))=.lst ((az C s t).map kD):=rfl;simp only [dvl,fu,xR _ _ fu,Bool.not_true];refine ⟨trivial,trivial,?_⟩;rw [if_neg (by simp)]
 simp only [aE];unfold fO;refine ⟨aY,?_⟩;rw [<- hK3];unfold je;generalize hK2:iE ad (ay E)=K2;have lu:((az C s t).map kD).length=(az C s t).length:=by simp
 simp only [ah,ar,ai,ap,ak,bQ,aa,ac,af,dC,pX,cV,aT,lu,List.getElem?_cons_zero,List.getElem?_cons_succ];refine ⟨rfl,ao fun Q' E' hq _=>eZ hu fun p5 hp5=>hq _ _ (bA hp5 ?_)⟩;simp only [aB,aT,gO,cZ,List.length_cons,List.length_nil];refine ⟨.inr ⟨by decide,by decide⟩,?_⟩
 have ew:((fct (az C s t).length:Nat):Int)*(((0+1:Nat)):Int)=((fct (az C s t).length:Nat):Int):=by simp
 simp only [ag,List.set,ew];rw [<- hK2];unfold iE;simp only [ax,aV,lS,aa,ac,af,aT,bv,jL,bq,List.map_cons,List.map_nil,List.cons_append,List.nil_append,List.getElem?_cons_zero,List.getElem?_cons_succ,Option.join_some];refine m7 (fun i d=>.tup [d,E4 (az C s t).length T i]) aY _ 0 [] _ _ (by simp;lia) (fun i x hx K q=>?_) ?_
 ·have hi:i<(az C s t).length:=by
   rcases Nat.lt_or_ge i (az C s t).length with z|z
   ·exact z
   ·rw [List.getElem?_eq_none (by simpa using z)] at hx;cases hx
  rw [Nat.zero_add] at q ⊢;simp only [aR,aa,ap,ak,bQ,aV,bN,ac,af,aT,bv,bq,List.map_cons,List.map_nil,List.cons_append,List.nil_append,List.getElem?_cons_zero,List.getElem?_cons_succ,Option.join_some];refine de (fun _=>.int (T i)) aY (by simp) (fun x hx K q=>?_) ?_
  ·have:x=.lst (bO (az C s t).length T):=by simpa using hx
   subst this;simp only [ai,ac,List.getElem?_cons_zero,List.getElem?_cons_succ,aB,aT,bR (show (0:Int)<=((i:Nat):Int) by lia),Int.toNat_natCast,md hi]
   exact q
  intro p6 hp6;refine bA hp6 ?_;have hb:=hTb i hi;simp only [List.map_cons,List.map_nil,tW,dk,gy,List.sum_cons,List.sum_nil,Int.add_zero];refine ⟨⟨by simp,fun x hx=>by simp at hx;subst hx;exact hb⟩,rfl,aG (fun _ _ z=>oU fp (Nat.lt_of_lt_of_le (show fct (az C s t).length<2 ^ 64 by exact_mod_cast f64) (by decide)) z) ?_⟩
  exact ⟨bw (by simp),q⟩
 ·intro p7 hp7
  have e:([]:List D)++(((az C s t).map kD).zipIdx 0).map (fun p=>D.tup [p.1,E4 (az C s t).length T p.2])=((az C s t).zipIdx 0).map fun p=>D.tup [kD p.1,E4 (az C s t).length T p.2]:=by
   rw [List.nil_append,List.zipIdx_map,List.map_map];rfl
  rw [e];exact aj (h p7 hp7)
theorem pI{L:Nat}{a b:Int}(o:C.Ok)(hs:SOk C s)(ht:SOk C t)(ea:C.mark s=.int a)(eb:C.mark t=.int b)(hab:a≠b)(hu:(az C s t).length<=20)(hc:1+(C.tree s t).asks<=L)(hL:L<=1000)
  (hx:∀x∈(ci a b (az C s t) (C.tree s t) 0 0).filter (fun x=>decide (x.v=("faulty":Str))),OutOk (az C s t).length x) {T:Nat->Int}
  (hT:eR (az C s t).length ((ci a b (az C s t) (C.tree s t) 0 0).filter fun x=>decide (x.v=("faulty":Str)))=T) (hTb:∀i,i<(az C s t).length->-1000000000000000<=T i/\T i<=1000000000000000)
  (h:∀p,M p=none->Q (.ref p) (M.upd p (.lst (((az C s t).zipIdx 0).map fun p=>D.tup [kD p.1,E4 (az C s t).length T p.2])))):nW ad [bu C s t,.int (L:Nat)] M Q E:=by
 rw [Io (n:=0)];unfold su;simp only [ax,ak,aa,ap,bJ,ac,af,List.getElem?_cons_zero,List.getElem?_cons_succ];refine ⟨bw (by simp),fun p hp=>bA hp ⟨rfl,ao fun Q' E' hq _=>pN o hs ht ea eb hab hu hc hL hx hT hTb fun p hp=>hq _ _ (aj (h p hp))⟩⟩
end
end Tw
namespace Tw
open PySem L2 L3
def nS(c mk tv kv:Int):gH:=[("s",c),("mark",mk),("zero",0),("t",tv),("k",kv)]
section
variable {c mk tv kv v:Int}
theorem xN:nm (nS c mk tv kv) "s"=c:=rfl
theorem Fg:nm (nS c mk tv kv) "mark"=mk:=rfl
theorem nS_z:nm (nS c mk tv kv) "zero"=0:=rfl
theorem FH:nm (nS c mk tv kv) "t"=tv:=rfl
theorem D3:nm (nS c mk tv kv) "k"=kv:=rfl
theorem HS:sN (nS c mk tv kv) "s" v=nS v mk tv kv:=rfl
theorem Ed:sN (nS c mk tv kv) "mark" v=nS c v tv kv:=rfl
theorem Ek:sN (nS c mk tv kv) "t" v=nS c mk v kv:=rfl
theorem Ew:sN (nS c mk tv kv) "k" v=nS c mk tv v:=rfl
end
def aN(l:List Nat):List Rw:=l.flatMap fun p=>[.take "t" (p:Nat),.two "sum" "s" "s" "t"]
def b8(way bound n:Nat):List Rw:=
 if way=0 then [.put "k" (bound:Nat),.two "less" "mark" "s" "k",.two "same" "mark" "mark" "zero"]
 else if way=2/\2<n then [.put "k" (n:Nat),.two "same" "mark" "s" "k",.put "k" 1,.two "same" "t" "s" "k",.two "sum" "mark" "mark" "t"]
 else [.put "k" (n:Nat),.two "same" "mark" "s" "k"]
def pJ(way bound n c:Nat):Int:=
 if way=0 then (if c<bound then 0 else 1)
 else if way=2/\2<n then (if c=n then 1 else 0)+(if c=1 then 1 else 0)
 else if c=n then 1 else 0
def fz(cf:Cf)(n:gH)(rs:List Rw):gH:=rs.foldl (fun n r=>sN n (gq r) (cm cf n r)) n
theorem pZ{y z m:Int}:uE "sum" y z m=(y+z) % m:=by unfold uE;rw [if_pos rfl]
theorem zx{y z m:Int}:uE "less" y z m=if y<z then 1 else 0:=by
 unfold uE;rw [if_neg (by decide +kernel),if_neg (by decide +kernel),if_pos rfl]
theorem mK{y z m:Int}:uE "same" y z m=if y=z then 1 else 0:=by
 unfold uE;rw [if_neg (by decide +kernel),if_neg (by decide +kernel),if_neg (by decide +kernel)]
section
variable {cf:Cf}{way bound n c:Nat}{mk tv kv:Int}
theorem lI(hm:(n:Int)+2<=cf.m)(hb:1<=bound)(hn:2<=n):nm (fz cf (nS (c:Nat) mk tv kv) (b8 way bound n)) "mark"=pJ way bound n c:=by
 unfold b8 pJ
 split
 ·simp only [fz,List.foldl_cons,List.foldl_nil,cm,gq,xN,D3,Fg,nS_z,Ew,Ed,zx,mK]
  by_cases h:c<bound
  ·rw [if_pos (show ((c:Nat):Int)<((bound:Nat):Int) by lia)];simp [h]
  ·rw [if_neg (show ¬((c:Nat):Int)<((bound:Nat):Int) by lia)];simp [h]
 ·split
  ·rename_i h2
   simp only [fz,List.foldl_cons,List.foldl_nil,cm,gq,xN,D3,Fg,FH,Ew,Ed,Ek,pZ,mK];have e1:(((c:Nat):Int)=((n:Nat):Int))=(c=n):=propext (by lia)
   have e2:(((c:Nat):Int)=1)=(c=1):=propext (by lia)
   rw [Int.emod_eq_of_lt]
   ·simp only [e1,e2]
   ·split<;>split<;>lia
   ·split<;>split<;>lia
  ·simp only [fz,List.foldl_cons,List.foldl_nil,cm,gq,xN,D3,Fg,Ew,Ed,mK]
   have e1:(((c:Nat):Int)=((n:Nat):Int))=(c=n):=propext (by lia)
   simp only [e1]
theorem nZ:∀r∈b8 way bound n,bV r=true:=by
 unfold b8
 split
 ·intro r hr;simp at hr;rcases hr with rfl|rfl|rfl<;>rfl
 ·split
  ·intro r hr;simp at hr;rcases hr with rfl|rfl|rfl|rfl|rfl<;>rfl
  ·intro r hr;simp at hr;rcases hr with rfl|rfl<;>rfl
theorem oa:(b8 way bound n).length<=5:=by
 unfold b8
 split
 ·simp
 ·split<;>simp
theorem pM{v:Nat}(hp:∀p,p<n->(cf.pieces[p]?).getD 0=(v:Nat)):∀(l:List Nat) (c:Nat) (tv:Int),(∀p∈l,p<n)->((c+v*l.length:Nat):Int)<cf.m->∃tv',fz cf (nS (c:Nat) mk tv kv) (aN l)=nS ((c+v*l.length:Nat):Int) mk tv' kv
 |[],c,tv,_,_=>⟨tv,by simp [aN,fz]⟩
 |p::l,c,tv,hl,hm=>by
  have hlen:c+v*(p::l).length=(c+v)+v*l.length:=by rw [List.length_cons,Nat.mul_add];lia
  rw [hlen] at hm ⊢;obtain ⟨tv',e⟩:=pM hp l (c+v) (v:Nat) (fun q hq=>hl q (List.mem_cons_of_mem _ hq)) hm;refine ⟨tv',?_⟩;rw [<- e];have hp':=hp p (hl p List.mem_cons_self);show fz cf (nS (c:Nat) mk tv kv) (.take "t" (p:Nat)::.two "sum" "s" "s" "t"::aN l)=_;have e1:cm cf (nS (c:Nat) mk tv kv) (.take "t" (p:Nat))=(v:Nat):=by
   show (cf.pieces[((p:Nat):Int).toNat]?).getD 0=_;rw [Int.toNat_natCast];exact hp'
  unfold fz;rw [List.foldl_cons,e1,List.foldl_cons];show List.foldl _ (sN (sN (nS (c:Nat) mk tv kv) "t" (v:Nat)) "s" (uE "sum" (nm (sN (nS (c:Nat) mk tv kv) "t" (v:Nat)) "s") (nm (sN (nS (c:Nat) mk tv kv) "t" (v:Nat)) "t") cf.m)) (aN l)=_;rw [Ek,xN,FH,HS,pZ];have:((c:Nat):Int)+((v:Nat):Int)=((c+v:Nat):Int):=by lia
  have h0:((c+v:Nat):Int)<cf.m:=by
   have:((c+v+v*l.length:Nat):Int)=((c+v:Nat):Int)+((v*l.length:Nat):Int):=by lia
   lia
  rw [this,Int.emod_eq_of_lt (by lia) h0]
theorem yf{l:List Nat}:∀r∈aN l,bV r=true:=by
 intro r hr;obtain ⟨p,_,hp⟩:=List.mem_flatMap.mp hr;simp at hp;rcases hp with rfl|rfl<;>rfl
theorem dO:∀{l:List Nat},(aN l).length=2*l.length
 |[]=>rfl
 |p::l=>by
  show (Rw.take "t" (p:Nat)::.two "sum" "s" "s" "t"::aN l).length=_;rw [List.length_cons,List.length_cons,dO,List.length_cons];lia
theorem tU{cf:Cf}:∀(rs:List Rw) (pl:List Int) (j:Nat) (x:Sx),(∀r∈rs,bV r=true)->x.steps.length+rs.length<=cf.most->(cw cf rs pl j x).1=true/\(cw cf rs pl j x).2.nums=fz cf x.nums rs
 |[],pl,j,x,_,_=>⟨rfl,rfl⟩
 |r::rs,pl,j,x,hs,hl=>by
  simp only [List.length_cons] at hl;have e:kx cf r (pl++[(j:Int)]) x=(true,⟨sN x.nums (gq r) (cm cf x.nums r),x.steps++[(pl++[(j:Int)],cm cf x.nums r)]⟩):=by
   rw [bF (hs r List.mem_cons_self)];unfold ib;rw [if_pos (by lia)]
  unfold cw;rw [e,if_pos rfl];exact tU rs pl (j+1) _ (fun q hq=>hs q (List.mem_cons_of_mem _ hq)) (by simp;lia)
end
end Tw
namespace Tw
open PySem L2 L3
structure Pz where
 m:Int
 n:Nat
 ord:List Nat
 way:Nat
 bound:Nat
 x1:Int
 x3:Int
 x4:Int
structure Pz.Ok(z:Pz):Prop where
 n2:2<=z.n
 n6:z.n<=6
 m1:(z.n:Int)+2<=z.m
 m2:z.m<=997
 pm:z.ord.Perm (List.range z.n)
 b1:1<=z.bound
 b2:z.bound<=z.n
 w:z.way<=2
 r1:0<=z.x1/\z.x1<z.m
 r3:0<=z.x3/\z.x3<z.m
 r4:0<=z.x4/\z.x4<z.m
def Pz.c(z:Pz):Cse:=⟨z.m,z.n,["s","mark","zero","t","k"],aN z.ord++b8 z.way z.bound z.n,"mark",40⟩
def Pz.st(z:Pz)(v:Int):Sta:=⟨[0,z.x1,0,z.x3,z.x4],List.replicate z.n v⟩
section
variable {z:Pz}
theorem Pz.Ok.len(k:z.Ok):z.ord.length=z.n:=by rw [k.pm.length_eq];simp
theorem Pz.Ok.lt(k:z.Ok):∀p∈z.ord,p<z.n:=fun p hp=>List.mem_range.mp (k.pm.mem_iff.mp hp)
theorem pG{names:List Str}{m many:Int}:∀{rs:List Rw},(∀r∈rs,bV r=true/\gx names m many r)->df names m many rs
 |[],_=>trivial
 |r::rs,h=>by
  have h0:=h r List.mem_cons_self;refine ⟨?_,pG fun q hq=>h q (List.mem_cons_of_mem _ hq)⟩;cases r with
  |ifr=>exact absurd h0.1 Bool.false_ne_true
  |again=>exact absurd h0.1 Bool.false_ne_true
  |_=>exact h0.2
theorem rR:∀{rs:List Rw},(∀r∈rs,bV r=true)->m_ rs=0
 |[],_=>rfl
 |r::rs,h=>by
  have h0:=h r List.mem_cons_self;have ih:=rR fun q hq=>h q (List.mem_cons_of_mem _ hq);cases r with
  |ifr=>exact absurd h0 Bool.false_ne_true
  |again=>exact absurd h0 Bool.false_ne_true
  |_=>simp [m_,hR,ih]
theorem nj(z:Pz):∀r∈aN z.ord++b8 z.way z.bound z.n,bV r=true:=fun r hr=>(List.mem_append.mp hr).elim (yf r) (nZ r)
theorem Pz.Ok.rows(k:z.Ok):∀r∈aN z.ord++b8 z.way z.bound z.n,gx ["s","mark","zero","t","k"] z.m z.n r:=by
 have hm:=k.m1;have hb:=k.b2;have hn:=k.n2;intro r hr;rcases List.mem_append.mp hr with h|h
 ·obtain ⟨p,hp,h⟩:=List.mem_flatMap.mp h
  have:=k.lt p hp;simp at h;rcases h with rfl|rfl
  ·exact ⟨by decide +kernel,by lia,by lia⟩
  ·exact ⟨.inl rfl,by decide +kernel,by decide +kernel,by decide +kernel⟩
 ·unfold b8 at h
  split at h
  ·simp at h
   rcases h with rfl|rfl|rfl
   ·exact ⟨by decide +kernel,by lia,by lia⟩
   ·exact ⟨.inr (.inr (.inl rfl)),by decide +kernel,by decide +kernel,by decide +kernel⟩
   ·exact ⟨.inr (.inr (.inr rfl)),by decide +kernel,by decide +kernel,by decide +kernel⟩
  ·split at h
   ·simp at h
    rcases h with rfl|rfl|rfl|rfl|rfl
    ·exact ⟨by decide +kernel,by lia,by lia⟩
    ·exact ⟨.inr (.inr (.inr rfl)),by decide +kernel,by decide +kernel,by decide +kernel⟩
    ·exact ⟨by decide +kernel,by lia,by lia⟩
    ·exact ⟨.inr (.inr (.inr rfl)),by decide +kernel,by decide +kernel,by decide +kernel⟩
    ·exact ⟨.inl rfl,by decide +kernel,by decide +kernel,by decide +kernel⟩
   ·simp at h
    rcases h with rfl|rfl
    ·exact ⟨by decide +kernel,by lia,by lia⟩
    ·exact ⟨.inr (.inr (.inr rfl)),by decide +kernel,by decide +kernel,by decide +kernel⟩
theorem Pz.Ok.o(k:z.Ok):z.c.Ok:=by
 have hm:=k.m1;have hn:=k.n2;have h6:=k.n6;have h2:=k.m2;have nd:((["s","mark","zero","t","k"]:List Str)).Nodup:=by decide +kernel
 have mi:("mark":Str)∈(["s","mark","zero","t","k"]:List Str):=by decide +kernel
 refine ⟨?_,h2,?_,show 40<=10000 by decide,nd,by show 0<5;decide,by show 5<=100;decide,pG fun r hr=>⟨nj z r hr,k.rows r hr⟩,?_,mi⟩
 ·show 2<=z.m;lia
 ·show z.n<=100;lia
 ·show m_ (aN z.ord++b8 z.way z.bound z.n)<=7
  rw [rR (nj z)];decide
theorem Pz.Ok.s(k:z.Ok){v:Int}(hv:0<=v/\v<=1):SOk z.c (z.st v):=by
 have hm:=k.m1;have hn:=k.n2;refine ⟨rfl,by show (List.replicate _ _).length=_;simp;rfl,fun x hx=>?_,fun x hx=>?_⟩
 ·have hx:x∈[0,z.x1,0,z.x3,z.x4]:=hx
  show 0<=x/\x<z.m;simp only [List.mem_cons,List.not_mem_nil,or_false] at hx;rcases hx with rfl|rfl|rfl|rfl|rfl
  ·lia
  ·exact k.r1
  ·lia
  ·exact k.r3
  ·exact k.r4
 ·have:=List.eq_of_mem_replicate hx
  subst this;show 0<=x/\x<z.m;lia
theorem qI{n p:Nat}{v:Int}(h:p<n):((List.replicate n v)[p]?).getD 0=v:=by simp [h]
theorem Pz.Ok.mark(k:z.Ok){v:Nat}(hv:v<=1):z.c.mark (z.st (v:Nat))=.int (pJ z.way z.bound z.n (v*z.n)):=by
 have hm:=k.m1;have hl:=k.len;have h6:=k.n6;have tl:=oa (way:=z.way) (bound:=z.bound) (n:=z.n);have hvn:v*z.n<=z.n:=by
  have:=Nat.mul_le_mul_right z.n hv;lia
 obtain ⟨h1,h2⟩:=tU (cf:=z.c.cf (z.st (v:Nat))) (aN z.ord++b8 z.way z.bound z.n) [] 0 ⟨nS 0 z.x1 z.x3 z.x4,[]⟩ (nj z) (by
  show 0+(aN z.ord++b8 z.way z.bound z.n).length<=40;rw [List.length_append,dO];lia)
 show vP "mark" (cw (z.c.cf (z.st (v:Nat))) (aN z.ord++b8 z.way z.bound z.n) [] 0 ⟨nS 0 z.x1 z.x3 z.x4,[]⟩)=_;unfold vP;rw [if_pos h1,h2];obtain ⟨tv',e⟩:=pM (cf:=z.c.cf (z.st (v:Nat))) (mk:=z.x1) (kv:=z.x4) (n:=z.n) (v:=v) (fun p hp=>qI hp) z.ord 0 z.x3 k.lt (by rw [hl];show ((0+v*z.n:Nat):Int)<z.m;lia)
 rw [hl,Nat.zero_add] at e;unfold fz at e ⊢;rw [List.foldl_append];have e':List.foldl (fun n r=>sN n (gq r) (cm (z.c.cf (z.st (v:Nat))) n r)) (nS 0 z.x1 z.x3 z.x4) (aN z.ord)=nS ((v*z.n:Nat):Int) z.x1 tv' z.x4:=e;rw [e'];congr 1;exact lI (cf:=z.c.cf (z.st (v:Nat))) hm k.b1 k.n2
theorem zg(k:z.Ok):az z.c (z.st 0) (z.st 1)=(List.range z.n).map fun (i:Nat)=>(Sum.inl (i:Int):aw):=by
 unfold az ei;rw [List.filter_append];have h1:(z.c.names.map (Sum.inr:Str->aw)).filter (fun k=>decide (b9 z.c (z.st 0) k≠b9 z.c (z.st 1) k))=[]:=by
  rw [List.filter_eq_nil_iff];intro q hq;obtain ⟨x,_,rfl⟩:=List.mem_map.mp hq;have:b9 z.c (z.st 0) (.inr x)=b9 z.c (z.st 1) (.inr x):=rfl;rw [this];simp
 rw [h1,List.nil_append];refine List.filter_eq_self.mpr ?_;intro q hq;obtain ⟨i,hi,rfl⟩:=List.mem_map.mp hq;have hi:=List.mem_range.mp hi;have e:∀v:Int,b9 z.c (z.st v) (.inl (i:Int))=v:=fun v=>by
  show ((List.replicate z.n v)[((i:Nat):Int).toNat]?).getD 0=v;rw [Int.toNat_natCast];exact qI hi
 rw [e,e]
 decide
end
end Tw
namespace Tw
open PySem L2 L3
def eS(mr:Nat->Int):List Nat->Nat->Tr
 |[],c=>.e (.int (mr c))
 |p::r,c=>.a (.inl (p:Nat)) (eS mr r c) (eS mr r (c+1))
structure Sg(z:Pz)(l:List Nat)(c:Nat)(g:Gs):Prop where
 td:g.td=aN l++b8 z.way z.bound z.n
 n:∃tv,g.n=nS (c:Nat) z.x1 tv z.x4
 u:∀q,q∈g.u↔∃p∈l,q=Sum.inl ((p:Nat):Int)
 lp:g.ps.length=z.n
 left:2*(l.length:Int)+6<=g.left
 nd:l.Nodup
 lt:∀p∈l,p<z.n
 c:c+l.length<=z.n
theorem mq{α:Type}:∀l:List α,l.filter (fun _=>false)=[]
 |[]=>rfl
 |_::l=>by rw [List.filter_cons_of_neg (by simp),mq l]
section
variable {z:Pz}{l:List Nat}{c:Nat}{g:Gs}
theorem oG{r:Rw}(hu:∀q∈g.u,∃i,q=Sum.inl i)(hp:∀i,yC z.c g.n r=some i->(Sum.inl i:aw)∉g.u):cv z.c g r=none:=by
 unfold cv
 split
 ·rfl
 ·have e:((eN r).filter fun x=>decide ((Sum.inr x:aw)∈g.u))=[]:=by
   rw [List.filter_eq_nil_iff];intro x _ hx;obtain ⟨i,hi⟩:=hu _ (of_decide_eq_true hx);cases hi
  rw [e];simp only [List.map_nil,List.not_mem_nil,decide_false,mq];cases h:yC z.c g.n r with
  |none=>rfl
  |some i=>simp only [if_neg (hp i h)]
theorem Sg.inl(h:Sg z l c g):∀q∈g.u,∃i,q=Sum.inl i:=fun q hq=>by
 obtain ⟨p,_,e⟩:=(h.u q).mp hq;exact ⟨_,e⟩
theorem Eh{p:Nat}{r:List Nat}{f:Nat}(h:Sg z (p::r) c g):bn z.c (f+1) g=(some (.inl (p:Nat)),g):=by
 have hl:=h.left;have htd:g.td=.take "t" (p:Nat)::(.two "sum" "s" "s" "t"::(aN r++b8 z.way z.bound z.n)):=h.td;have hin:(Sum.inl ((p:Nat):Int):aw)∈g.u:=(h.u _).mpr ⟨p,List.mem_cons_self,rfl⟩;have ha:cv z.c g (.take "t" (p:Nat))=some (.inl (p:Nat)):=by
  unfold cv;rw [if_neg (fun e=>by rw [e] at hin;cases hin)]
  simp only [eN,List.filter_nil,List.map_nil,List.not_mem_nil,decide_false,mq,yC,if_pos hin]
 unfold bn;rw [htd];simp only [ha];rw [if_neg (by simp only [List.length_cons] at hl;lia)]
theorem gw{f:Nat}{r:Rw}{rest:List Rw}(e:g.td=r::rest)(hl:¬g.left<=0)(ha:cv z.c g r=none):bn z.c (f+1) g=bn z.c f (iU z.c g rest r):=by
 conv=>lhs;unfold bn
 rw [e];simp only [ha,if_neg hl]
theorem CP{p v:Nat}{r:List Nat}(hm:(z.n:Int)+2<=z.m)(hv:v<=1)(h:Sg z (p::r) c g):∃g',Sg z r (c+v) g'/\∀f,bn z.c (f+2) (cz g (.inl (p:Nat)) (v:Nat))=bn z.c f g':=by
 have hl:=h.left;have hcl:=h.c;simp only [List.length_cons] at hl hcl;have nd:=List.nodup_cons.mp h.nd;obtain ⟨tv,hn⟩:=h.n;generalize hg1:cz g (.inl (p:Nat)) (v:Nat)=g1;have htd:g1.td=.take "t" (p:Nat)::(.two "sum" "s" "s" "t"::(aN r++b8 z.way z.bound z.n)):=by rw [<- hg1];exact h.td
 have hn1:g1.n=nS (c:Nat) z.x1 tv z.x4:=by rw [<- hg1];exact hn
 have hps:g1.ps=g.ps.set p (v:Nat):=by rw [<- hg1];show g.ps.set ((p:Nat):Int).toNat _=_;rw [Int.toNat_natCast]
 have hleft:g1.left=g.left:=by rw [<- hg1];rfl
 have hu1:∀q,q∈g1.u↔∃p'∈r,q=Sum.inl ((p':Nat):Int):=fun q=>by
  have e:g1.u=g.u.filter fun k=>decide (k≠.inl ((p:Nat):Int)):=by rw [<- hg1];rfl
  rw [e,List.mem_filter,h.u];constructor
  ·rintro ⟨⟨p',hp',rfl⟩,hne⟩
   rcases List.mem_cons.mp hp' with e|hp'
   ·subst e;simp at hne
   ·exact ⟨p',hp',rfl⟩
  ·rintro ⟨p',hp',rfl⟩
   refine ⟨⟨p',List.mem_cons_of_mem _ hp',rfl⟩,?_⟩;have:¬(Sum.inl ((p':Nat):Int):aw)=Sum.inl ((p:Nat):Int):=fun e=>by
    have:=Sum.inl.inj e;exact nd.1 (by rw [show p=p' by lia];exact hp')
   simpa using this
 have hinl:∀q∈g1.u,∃i,q=Sum.inl i:=fun q hq=>by obtain ⟨p',_,e⟩:=(hu1 q).mp hq;exact ⟨_,e⟩
 have hfil:∀(x:Str),g1.u.filter (fun k=>decide (k≠.inr x))=g1.u:=fun x=>ui fun hq=>by obtain ⟨i,e⟩:=hinl _ hq;cases e
 have a1:cv z.c g1 (.take "t" (p:Nat))=none:=oG hinl fun i hi=>by
  simp only [yC,Option.some.injEq] at hi;subst hi;intro hq;obtain ⟨p',hp',e⟩:=(hu1 _).mp hq;have:=Sum.inl.inj e;exact nd.1 (by rw [show p=p' by lia];exact hp')
 generalize hg2:iU z.c g1 (.two "sum" "s" "s" "t"::(aN r++b8 z.way z.bound z.n)) (.take "t" (p:Nat))=g2;have e2:g2={ g1 with left:=g1.left-1,td:=.two "sum" "s" "s" "t"::(aN r++b8 z.way z.bound z.n),n:=nS (c:Nat) z.x1 (v:Nat) z.x4 }:=by
  rw [<- hg2];have en:cm (g1.cf z.c) g1.n (.take "t" (p:Nat))=(v:Nat):=by
   show (g1.ps[((p:Nat):Int).toNat]?).getD 0=_;rw [Int.toNat_natCast,hps,List.getElem?_set];have:=h.lt p List.mem_cons_self;rw [if_pos rfl,if_pos (by rw [h.lp];exact this)]
   rfl
  show Gs.mk (sN g1.n "t" (cm (g1.cf z.c) g1.n (.take "t" (p:Nat)))) g1.ps (g1.u.filter fun k=>decide (k≠.inr "t")) _ _=_;rw [en,hfil,hn1,Ek]
 have a2:cv z.c g2 (.two "sum" "s" "s" "t")=none:=oG (by rw [e2];exact hinl) fun i hi=>by cases hi
 generalize hg3:iU z.c g2 (aN r++b8 z.way z.bound z.n) (.two "sum" "s" "s" "t")=g3;have e3:g3={ g1 with left:=g1.left-2,td:=aN r++b8 z.way z.bound z.n,n:=nS ((c+v:Nat):Int) z.x1 (v:Nat) z.x4 }:=by
  rw [<- hg3,e2];show Gs.mk (sN (nS (c:Nat) z.x1 (v:Nat) z.x4) "s" (uE "sum" (nm (nS (c:Nat) z.x1 (v:Nat) z.x4) "s") (nm (nS (c:Nat) z.x1 (v:Nat) z.x4) "t") z.m)) g1.ps (g1.u.filter fun k=>decide (k≠.inr "s")) _ (g1.left-1-1)=_;rw [hfil,xN,FH,HS,pZ];have h1:((c:Nat):Int)+((v:Nat):Int)=((c+v:Nat):Int):=by lia
  rw [h1,Int.emod_eq_of_lt (by lia) (by lia)]
  have h2:g1.left-1-1=g1.left-2:=by lia
  rw [h2]
 refine ⟨g3,?_,fun f=>?_⟩
 ·rw [e3]
  exact ⟨rfl,⟨_,rfl⟩,hu1,by show g1.ps.length=_;rw [hps,List.length_set];exact h.lp,by show _<=g1.left-2;rw [hleft];lia,nd.2,fun q hq=>h.lt q (List.mem_cons_of_mem _ hq),by lia⟩
 ·rw [gw htd (by rw [hleft];lia) a1,hg2]
  rw [gw (by rw [e2]) (by rw [e2];show ¬g1.left-1<=0;rw [hleft];lia) a2,hg3]
theorem tJ:∀(rs:List Rw) (g:Gs) (f:Nat),g.td=rs->g.u=[]->(∀r∈rs,bV r=true)->(rs.length:Int)<=g.left->rs.length<f->∃g',bn z.c f g=(none,g')/\g'.td=[]/\g'.n=fz (g.cf z.c) g.n rs
 |[],g,f,e,hu,hs,hl,hf=>by
  obtain ⟨f',rfl⟩:∃f',f=f'+1:=⟨f-1,by simp at hf;lia⟩
  refine ⟨g,?_,e,rfl⟩;unfold bn;rw [e];simp [hu]
 |r::rs,g,f,e,hu,hs,hl,hf=>by
  simp only [List.length_cons] at hl hf;obtain ⟨f',rfl⟩:∃f',f=f'+1:=⟨f-1,by lia⟩
  have ha:cv z.c g r=none:=by unfold cv;rw [if_pos hu]
  have hs0:=hs r List.mem_cons_self;rw [gw e (by lia) ha]
  have ed:iU z.c g rs r={ g with left:=g.left-1,td:=rs,n:=sN g.n (gq r) (cm (g.cf z.c) g.n r),u:=g.u.filter fun k=>decide (k≠.inr (gq r)) }:=by
   cases r with
   |ifr=>exact absurd hs0 Bool.false_ne_true
   |again=>exact absurd hs0 Bool.false_ne_true
   |_=>rfl
  obtain ⟨g',h1,h2,h3⟩:=tJ rs (iU z.c g rs r) f' (by rw [ed]) (by rw [ed];simp [hu]) (fun q hq=>hs q (List.mem_cons_of_mem _ hq)) (by rw [ed];show _<=g.left-1;lia) (by lia)
  refine ⟨g',h1,h2,?_⟩;rw [h3,ed];rfl
theorem kW(k:z.Ok):∀(l:List Nat) (c:Nat) (g g0':Gs) (n f:Nat),Sg z l c g->l.length<n->2*l.length+7<=f->bn z.c 41 g0'=bn z.c f g->cc z.c (z.st 0) (z.st 1) n g0'=eS (pJ z.way z.bound z.n) l c
 |l,c,g,g0',0,f,h,hn,hf,he=>by lia
 |[],c,g,g0',n+1,f,h,hn,hf,he=>by
  have hu:g.u=[]:=by
   cases e:g.u with
   |nil=>rfl
   |cons q r=>obtain ⟨p,hp,_⟩:=(h.u q).mp (by rw [e];exact List.mem_cons_self);cases hp
  have tl:=oa (way:=z.way) (bound:=z.bound) (n:=z.n);have hl:=h.left;simp only [List.length_nil] at hl hf;obtain ⟨g',h1,h2,h3⟩:=tJ (z:=z) (b8 z.way z.bound z.n) g f (by rw [h.td];rfl) hu nZ (by lia) (by lia)
  obtain ⟨tv,hnn⟩:=h.n;unfold cc;show (match (bn z.c 41 g0').1 with|none=>Tr.e (AN z.c (bn z.c 41 g0').2)|some q=>_)=_
  rw [he,h1];show Tr.e (AN z.c g')=Tr.e _;unfold AN;rw [if_pos h2,h3,hnn];congr 2;exact lI (cf:=g.cf z.c) k.m1 k.b1 k.n2
 |p::r,c,g,g0',n+1,f,h,hn,hf,he=>by
  obtain ⟨f',rfl⟩:∃f',f=f'+1:=⟨f-1,by lia⟩
  have hlr:r.length<=6:=by
   have h1:=h.c;have h2:=k.n6;rw [List.length_cons] at h1;lia
  have nv:∀v:Int,b9 z.c (z.st v) (.inl ((p:Nat):Int))=v:=fun v=>by
   show ((List.replicate z.n v)[((p:Nat):Int).toNat]?).getD 0=v;rw [Int.toNat_natCast];exact qI (h.lt p List.mem_cons_self)
  have way:∀v:Nat,v<=1->cc z.c (z.st 0) (z.st 1) n (cz g (.inl (p:Nat)) (v:Nat))=eS (pJ z.way z.bound z.n) r (c+v):=fun v hv=>by
   obtain ⟨g',hg',hgo⟩:=CP k.m1 hv h;exact kW k r (c+v) g' _ n 39 hg' (by simp only [List.length_cons] at hn;lia) (by lia) (hgo 39)
  unfold cc;show (match (bn z.c 41 g0').1 with|none=>Tr.e (AN z.c (bn z.c 41 g0').2)|some q=>Tr.a q (cc z.c (z.st 0) (z.st 1) n (cz (bn z.c 41 g0').2 q (b9 z.c (z.st 0) q))) (cc z.c (z.st 0) (z.st 1) n (cz (bn z.c 41 g0').2 q (b9 z.c (z.st 1) q))))=_
  rw [he,Eh h];show Tr.a (.inl (p:Nat)) (cc z.c (z.st 0) (z.st 1) n (cz g (.inl (p:Nat)) (b9 z.c (z.st 0) (.inl (p:Nat))))) (cc z.c (z.st 0) (z.st 1) n (cz g (.inl (p:Nat)) (b9 z.c (z.st 1) (.inl (p:Nat)))))=_;rw [nv,nv];have w0:=way 0 (by lia)
  have w1:=way 1 (by lia)
  rw [Nat.add_zero] at w0;unfold eS;rw [<- w0,<- w1];rfl
theorem vt(k:z.Ok):z.c.tree (z.st 0) (z.st 1)=eS (pJ z.way z.bound z.n) z.ord 0:=by
 have hl:=k.len;have h6:=k.n6;refine kW k z.ord 0 (g0 z.c (z.st 0) (z.st 1)) _ 24 41 ?_ (by lia) (by lia) rfl
 refine ⟨rfl,⟨z.x3,rfl⟩,fun q=>?_,by show (List.replicate _ _).length=_;simp,by show _<=((40:Nat):Int);lia,k.pm.nodup_iff.mpr List.nodup_range,k.lt,by lia⟩
 show q∈az z.c (z.st 0) (z.st 1)↔_;rw [zg k,List.mem_map];constructor
 ·rintro ⟨i,hi,rfl⟩
  exact ⟨i,k.pm.mem_iff.mpr hi,rfl⟩
 ·rintro ⟨i,hi,rfl⟩
  exact ⟨i,k.pm.mem_iff.mp hi,rfl⟩
end
end Tw
namespace Tw
open PySem L2 L3
def bm(ks:List Nat):Nat:=ks.foldl (fun b p=>b ||| 2 ^ p) 0
theorem iN{ks:List Nat}{p:Nat}:bm ks ||| 2 ^ p=bm (ks++[p]):=by unfold bm;rw [List.foldl_append];rfl
theorem sE{i:Nat}:∀(ks:List Nat) (b:Nat),(ks.foldl (fun b p=>b ||| 2 ^ p) b).testBit i=(b.testBit i||decide (i∈ks))
 |[],b=>by simp
 |k::ks,b=>by
  rw [List.foldl_cons,sE ks,Nat.testBit_or,Nat.testBit_two_pow]
  by_cases e:i=k
  ·subst e;simp
  ·have e2:¬k=i:=fun z=>e z.symm
   simp [e,e2]
theorem qv{ks:List Nat}{i:Nat}:(bm ks).testBit i=decide (i∈ks):=by
 unfold bm;rw [sE];simp
theorem xL{n:Nat}{ks:List Nat}(h:∀p∈ks,p<n):bm ks<2 ^ n:=by
 refine Nat.lt_pow_two_of_testBit _ fun i hi=>?_;rw [qv];exact decide_eq_false fun z=>by have:=h i z;lia
theorem mo{n:Nat}{ks:List Nat}(h:∀p∈ks,p<n)(nd:ks.Nodup):(aQ (bm ks)).length=ks.length:=by
 refine List.Perm.length_eq ((List.perm_ext_iff_of_nodup n0 nd).mpr fun i=>?_);rw [cJ (xL h),qv];constructor
 ·rintro ⟨_,z⟩;exact of_decide_eq_true z
 ·intro z;exact ⟨h i z,decide_eq_true z⟩
def val(n:Nat)(fv:Nat->Bool)(c zc:Nat)(st:Option Bool):Int:=if fv c=true then (match st with
 |some true=>((fct n / fct (c+zc)*fct (c-1)*fct zc:Nat):Int)
 |some false=>- ((fct n / fct (c+zc)*fct c*fct (zc-1):Nat):Int)
 |none=>0) else 0
def R(n:Nat)(fv:Nat->Bool)(i:Nat):List Nat->Nat->Nat->Option Bool->Int
 |[],c,zc,st=>val n fv c zc st
 |p::r,c,zc,st=>if p=i then R n fv i r (c+1) zc (some true)+R n fv i r c (zc+1) (some false) else R n fv i r (c+1) zc st+R n fv i r c (zc+1) st
def wn(os zs:List Nat)(i:Nat):Option Bool:=if i∈os then some true else if i∈zs then some false else none
section
variable {n:Nat}{mr:Nat->Int}{a b:Int}
def zt(n:Nat):List aw:=(List.range n).map fun (i:Nat)=>(Sum.inl (i:Int):aw)
theorem xn{p:Nat}(h:p<n):bitK (zt n) (.inl (p:Nat))=2 ^ p:=by
 unfold bitK zt;congr 1;have key:∀(k j:Nat),p=j+k->∀m,k<m->List.idxOf (Sum.inl ((p:Nat):Int):aw) ((List.range' j m).map fun (i:Nat)=>(Sum.inl (i:Int):aw))=k:=by
  intro k
  induction k with
  |zero=>
   intro j e m hm;obtain ⟨m',rfl⟩:∃m',m=m'+1:=⟨m-1,by lia⟩
   rw [List.range'_succ,List.map_cons,e];simp [List.idxOf_cons]
  |succ k ih=>
   intro j e m hm;obtain ⟨m',rfl⟩:∃m',m=m'+1:=⟨m-1,by lia⟩
   rw [List.range'_succ,List.map_cons,List.idxOf_cons];have hne:((Sum.inl ((j:Nat):Int):aw)==Sum.inl ((p:Nat):Int))=false:=beq_eq_false_iff_ne.mpr fun z=>by have:=Sum.inl.inj z;lia
   rw [hne,ih (j+1) (by lia) m' (by lia)]
   rfl
 rw [List.range_eq_range'];exact key p 0 (by lia) n h
theorem yh{fv:Nat->Bool}(hfv:∀c,fv c=decide (qO a b (.int (mr c))=("faulty":Str))){i:Nat}:∀(l os zs:List Nat),(os++zs++l).Nodup->(∀p∈os++zs++l,p<n)->
  eR n ((ci a b (zt n) (eS mr l os.length) (bm zs) (bm os)).filter fun x=>decide (x.v=("faulty":Str))) i=R n fv i l os.length zs.length (wn os zs i)
 |[],os,zs,nd,lt=>by
  rw [List.append_nil] at nd lt;have nd':=List.nodup_append.mp nd;have lo:∀p∈os,p<n:=fun p hp=>lt p (List.mem_append_left _ hp);have lz:∀p∈zs,p<n:=fun p hp=>lt p (List.mem_append_right _ hp);unfold eS ci R val;rw [hfv]
  by_cases c:qO a b (.int (mr os.length))=("faulty":Str)
  ·rw [List.filter_cons_of_pos (by simpa using c),if_pos (by simpa using c)]
   simp only [List.filter_nil,eR,List.map_cons,List.map_nil,List.sum_cons,List.sum_nil,Int.add_zero,y0,mo lo nd'.1,mo lz nd'.2.1,qv,decide_eq_true_eq,wn]
   by_cases h1:i∈os
   ·have h2:i∉zs:=fun z=>nd'.2.2 i h1 i z rfl
    simp [h1,h2]
   ·by_cases h2:i∈zs
    ·simp [h1,h2]
    ·simp [h1,h2]
  ·rw [List.filter_cons_of_neg (by simpa using c),if_neg (by simpa using c)]
   rfl
 |p::l,os,zs,nd,lt=>by
  have hp:p<n:=lt p (by simp)
  have e1:(os++[p])++zs++l=os++([p]++zs)++l:=by simp
  have pm1:((os++[p])++zs++l).Perm (os++zs++p::l):=by
   rw [e1];have:([p]++zs++l).Perm (zs++p::l):=by
    simpa using (List.perm_middle (a:=p) (l₁:=zs) (l₂:=l)).symm
   simpa [List.append_assoc] using this.append_left os
  have pm2:(os++(zs++[p])++l).Perm (os++zs++p::l):=by simp
  have ih1:=yh hfv (i:=i) l (os++[p]) zs (pm1.nodup_iff.mpr nd) fun q hq=>lt q (pm1.mem_iff.mp hq);have ih2:=yh hfv (i:=i) l os (zs++[p]) (pm2.nodup_iff.mpr nd) fun q hq=>lt q (pm2.mem_iff.mp hq);rw [List.length_append,List.length_singleton] at ih1 ih2;have happ:∀xs ys:List Out,eR n (xs++ys) i=eR n xs i+eR n ys i:=fun xs ys=>by simp [eR]
  unfold eS ci;rw [List.filter_append,happ,xn hp,iN,iN,ih1,ih2]
  conv=>rhs;unfold R
  have hpn:p∉os/\p∉zs:=by
   have h1:=List.nodup_append.mp nd;have h2:∀x∈os++zs,x≠p:=fun x hx=>h1.2.2 x hx p List.mem_cons_self;exact ⟨fun z=>h2 p (List.mem_append_left _ z) rfl,fun z=>h2 p (List.mem_append_right _ z) rfl⟩
  by_cases e:p=i
  ·subst e
   rw [if_pos rfl];have s1:wn (os++[p]) zs p=some true:=by simp [wn]
   have s2:wn os (zs++[p]) p=some false:=by simp [wn,hpn.1]
   rw [s1,s2]
  ·rw [if_neg e]
   have e':¬i=p:=fun z=>e z.symm;have s1:wn (os++[p]) zs i=wn os zs i:=by simp [wn,e']
   have s2:wn os (zs++[p]) i=wn os zs i:=by simp [wn,e']
   rw [s1,s2]
theorem qH:∀(l os zs:List Nat),(os++zs++l).Nodup->(∀p∈os++zs++l,p<n)->(os++zs++l).length<=n->∀x∈ci a b (zt n) (eS mr l os.length) (bm zs) (bm os),OutOk n x
 |[],os,zs,nd,lt,hl,x,hx=>by
  rw [List.append_nil] at nd lt hl;have nd':=List.nodup_append.mp nd;have lo:∀p∈os,p<n:=fun p hp=>lt p (List.mem_append_left _ hp);have lz:∀p∈zs,p<n:=fun p hp=>lt p (List.mem_append_right _ hp);unfold eS ci at hx;have:=List.mem_singleton.mp hx;subst this;refine ⟨xL lz,xL lo,?_⟩;show (aQ (bm os)).length+(aQ (bm zs)).length<=n;rw [mo lo nd'.1,mo lz nd'.2.1];rw [List.length_append] at hl;exact hl
 |p::l,os,zs,nd,lt,hl,x,hx=>by
  have hp:p<n:=lt p (by simp)
  have e1:(os++[p])++zs++l=os++([p]++zs)++l:=by simp
  have pm1:((os++[p])++zs++l).Perm (os++zs++p::l):=by
   rw [e1];have:([p]++zs++l).Perm (zs++p::l):=by
    simpa using (List.perm_middle (a:=p) (l₁:=zs) (l₂:=l)).symm
   simpa [List.append_assoc] using this.append_left os
  have pm2:(os++(zs++[p])++l).Perm (os++zs++p::l):=by simp
  unfold eS ci at hx;rw [xn hp,iN,iN] at hx;rcases List.mem_append.mp hx with h|h
  ·refine qH l (os++[p]) zs (pm1.nodup_iff.mpr nd) (fun q hq=>lt q (pm1.mem_iff.mp hq)) (by rw [pm1.length_eq];exact hl) x ?_
   rw [List.length_append,List.length_singleton];exact h
  ·exact qH l os (zs++[p]) (pm2.nodup_iff.mpr nd) (fun q hq=>lt q (pm2.mem_iff.mp hq)) (by rw [pm2.length_eq];exact hl) x h
end
def W(n:Nat)(fv:Nat->Bool):Nat->Nat->Nat->Option Bool->Int
 |0,c,zc,st=>val n fv c zc st
 |k+1,c,zc,st=>W n fv k (c+1) zc st+W n fv k c (zc+1) st
def V(n:Nat)(fv:Nat->Bool):Nat->Nat->Nat->Nat->Int
 |0,k,c,zc=>W n fv k (c+1) zc (some true)+W n fv k c (zc+1) (some false)
 |j+1,k,c,zc=>V n fv j k (c+1) zc+V n fv j k c (zc+1)
theorem R_W{n:Nat}{fv:Nat->Bool}{i:Nat}:∀(l:List Nat) (c zc:Nat) (st:Option Bool),i∉l->R n fv i l c zc st=W n fv l.length c zc st
 |[],c,zc,st,_=>rfl
 |p::l,c,zc,st,h=>by
  have h1:¬p=i:=fun z=>h (by rw [z];exact List.mem_cons_self)
  have h2:i∉l:=fun z=>h (List.mem_cons_of_mem _ z);unfold R;rw [if_neg h1,R_W l _ _ _ h2,R_W l _ _ _ h2];rfl
theorem R_V{n:Nat}{fv:Nat->Bool}{i:Nat}{l2:List Nat}(h2:i∉l2):∀(l1:List Nat) (c zc:Nat),i∉l1->R n fv i (l1++i::l2) c zc none=V n fv l1.length l2.length c zc
 |[],c,zc,_=>by
  rw [List.nil_append];unfold R;rw [if_pos rfl,R_W l2 _ _ _ h2,R_W l2 _ _ _ h2];rfl
 |p::l1,c,zc,h=>by
  have h1:¬p=i:=fun z=>h (by rw [z];exact List.mem_cons_self)
  have h3:i∉l1:=fun z=>h (List.mem_cons_of_mem _ z);rw [List.cons_append];unfold R;rw [if_neg h1,R_V h2 l1 _ _ h3,R_V h2 l1 _ _ h3];rfl
def Gu(way bound n c:Nat):Bool:=decide (pJ way bound n c=1)
theorem Hj:∀n∈[2,3,4,5,6],∀way∈[0,1,2],∀bound∈[1,2,3,4,5,6],bound<=n->∀j∈[0,1,2,3,4,5],j<n->V n (Gu way bound n) j (n-1-j) 0 0=((fct (n-1):Nat):Int):=by decide +kernel
end Tw
namespace Tw
open PySem L2 L3
section
variable {z:Pz}{ad:Ad}{M:Mem}{Q:DK}{E:DX}
theorem Ia(k:z.Ok):pJ z.way z.bound z.n 0=0:=by
 have h1:=k.b1;have h2:=k.n2;unfold pJ
 split
 ·rw [if_pos (by lia)]
 ·split
  ·rw [if_neg (by lia),if_neg (by decide)];rfl
  ·rw [if_neg (by lia)]
theorem He(k:z.Ok):pJ z.way z.bound z.n z.n=1:=by
 have h1:=k.b2;have h2:=k.n2;unfold pJ
 split
 ·rw [if_neg (by lia)]
 ·split
  ·rw [if_pos rfl,if_neg (by lia)];rfl
  ·rw [if_pos rfl]
theorem HK(way bound n c:Nat):Gu way bound n c=decide (qO 0 1 (.int (pJ way bound n c))=("faulty":Str)):=by
 have n1:¬("sound":Str)=("faulty":Str):=by decide +kernel
 have n2:¬("other":Str)=("faulty":Str):=by decide +kernel
 unfold Gu qO;simp only [aC,decide_eq_true_eq]
 by_cases h0:pJ way bound n c=0
 ·rw [if_pos h0,decide_eq_false n1,h0];rfl
 ·rw [if_neg h0]
  by_cases h1:pJ way bound n c=1
  ·rw [if_pos h1,decide_eq_true h1];simp
  ·rw [if_neg h1,decide_eq_false n2,decide_eq_false h1]
theorem gJ{mr:Nat->Int}:∀(l:List Nat) (c:Nat),(eS mr l c).asks+1=2 ^ l.length
 |[],c=>rfl
 |p::r,c=>by
  have h1:=gJ (mr:=mr) r c;have h2:=gJ (mr:=mr) r (c+1);unfold eS Tr.asks;rw [List.length_cons,Nat.pow_succ];lia
theorem A0:∀n∈[2,3,4,5,6],(((fct (n-1):Nat):Int) / ((Nat.gcd (fct n) (((fct (n-1):Nat):Int) % ((fct n:Nat):Int)).toNat:Nat):Int))=1/\(((fct n:Nat):Int) / ((Nat.gcd (fct n) (((fct (n-1):Nat):Int) % ((fct n:Nat):Int)).toNat:Nat):Int))=(n:Int)/\fct (n-1)<=1000:=by decide +kernel
theorem sW(k:z.Ok){i:Nat}(hi:i<z.n):eR z.n ((ci 0 1 (zt z.n) (eS (pJ z.way z.bound z.n) z.ord 0) 0 0).filter fun x=>decide (x.v=("faulty":Str))) i=((fct (z.n-1):Nat):Int):=by
 have hn2:=k.n2;have hn6:=k.n6;have hw:=k.w;have hb1:=k.b1;have hb2:=k.b2;have h:=yh (n:=z.n) (a:=0) (b:=1) (mr:=pJ z.way z.bound z.n) (fv:=Gu z.way z.bound z.n) (HK _ _ _) (i:=i) z.ord [] [] (by simpa using k.pm.nodup_iff.mpr List.nodup_range) (by simpa using k.lt)
 have e:eR z.n ((ci 0 1 (zt z.n) (eS (pJ z.way z.bound z.n) z.ord 0) 0 0).filter fun x=>decide (x.v=("faulty":Str))) i=R z.n (Gu z.way z.bound z.n) i z.ord 0 0 none:=h;rw [e];have hm:i∈z.ord:=k.pm.mem_iff.mpr (List.mem_range.mpr hi);obtain ⟨l1,l2,e2⟩:=List.append_of_mem hm;have nd:=k.pm.nodup_iff.mpr List.nodup_range;rw [e2] at nd;have nd':=List.nodup_append.mp nd;have hl:=k.len;rw [e2,List.length_append,List.length_cons] at hl;rw [e2,R_V (List.nodup_cons.mp nd'.2.1).1 l1 0 0 (fun q=>nd'.2.2 i q i List.mem_cons_self rfl)];have e3:l2.length=z.n-1-l1.length:=by lia
 rw [e3];have hj:l1.length<z.n:=by lia
 generalize l1.length=j at hj ⊢;refine Hj z.n ?_ z.way ?_ z.bound ?_ hb2 j ?_ hj
 ·simp;lia
 ·simp;lia
 ·simp;lia
 ·simp;lia
theorem wT(k:z.Ok)(h:∀p,M p=none->Q (.ref p) (M.upd p (.lst ((List.range z.n).map fun (i:Nat)=>D.tup [.int (i:Int),.tup [.int 1,.int (z.n:Nat)]])))):nW ad [bu z.c (z.st 0) (z.st 1),.int 500] M Q E:=by
 have hu:=zg k;have hul:(az z.c (z.st 0) (z.st 1)).length=z.n:=by rw [hu];simp
 have hn2:=k.n2;have hn6:=k.n6;have hl:=k.len;have hsh:=A0 z.n (by simp;lia)
 have ea:=k.mark (v:=0) (by lia)
 have eb:=k.mark (v:=1) (by lia)
 rw [Nat.zero_mul,Ia k] at ea;rw [Nat.one_mul,He k] at eb;have ht:=vt k;have hus:az z.c (z.st 0) (z.st 1)=zt z.n:=hu;have hasks:(z.c.tree (z.st 0) (z.st 1)).asks+1<=64:=by
  rw [ht,gJ,hl];exact Nat.pow_le_pow_right (by decide) hn6
 refine pI (L:=500) (a:=0) (b:=1) (T:=eR (az z.c (z.st 0) (z.st 1)).length ((ci 0 1 (az z.c (z.st 0) (z.st 1)) (z.c.tree (z.st 0) (z.st 1)) 0 0).filter fun x=>decide (x.v=("faulty":Str)))) k.o (k.s ⟨by decide,by decide⟩) (k.s ⟨by decide,by decide⟩) ea eb (by decide) (by lia) (by lia) (by decide) ?_ rfl ?_ fun p hp=>?_
 ·intro x hx
  rw [hul];rw [hus,ht] at hx;exact qH (n:=z.n) z.ord [] [] (by simpa using k.pm.nodup_iff.mpr List.nodup_range) (by simpa using k.lt) (by simp;lia) x (List.mem_filter.mp hx).1
 ·intro i hi
  rw [hul] at hi ⊢;rw [hus,ht,sW k hi];have:=hsh.2.2;lia
 ·have e:((az z.c (z.st 0) (z.st 1)).zipIdx 0).map (fun p=>D.tup [kD p.1,E4 (az z.c (z.st 0) (z.st 1)).length (eR (az z.c (z.st 0) (z.st 1)).length ((ci 0 1 (az z.c (z.st 0) (z.st 1)) (z.c.tree (z.st 0) (z.st 1)) 0 0).filter fun x=>decide (x.v=("faulty":Str)))) p.2])=(List.range z.n).map fun (i:Nat)=>D.tup [.int (i:Int),.tup [.int 1,.int (z.n:Nat)]]:=by
   rw [hul,hus,ht];refine List.ext_getElem (by simp [zt]) fun i h1 h2=>?_
   have hi:i<z.n:=by simpa using h2
   simp only [List.getElem_map,List.getElem_zipIdx,List.getElem_range,zt,Nat.zero_add];congr 1;unfold E4;have hc:=sW k hi;unfold zt at hc;rw [hc,hsh.1,hsh.2.1];rfl
  rw [e];exact h p hp
end
end Tw
namespace Tw
open PySem L2 L3
theorem yn{α β:Type}(f:α->β):∀(l:List α) (i:Nat),(l.map f).eraseIdx i=(l.eraseIdx i).map f
 |[],_=>rfl
 |_::_,0=>rfl
 |a::l,i+1=>by simp only [List.map_cons,List.eraseIdx_cons_succ,yn f l i]
theorem uQ{α:Type}:∀{l:List α} {i:Nat} (h:i<l.length),(l[i]::l.eraseIdx i).Perm l
 |a::l,0,_=>.refl _
 |a::l,i+1,h=>by
  rw [List.getElem_cons_succ,List.eraseIdx_cons_succ];exact (List.Perm.swap _ _ _).trans ((uQ (by simpa using h)).cons a)
section
variable {ad:Ad}{M:Mem}{EE:DX}{k:Pt}
theorem qF{l:List Nat}{p:Nat}:aN (l++[p])=aN l++[.take "t" (p:Nat),.two "sum" "s" "s" "t"]:=by unfold aN;rw [List.flatMap_append];rfl
theorem DL{Q:DK}{δ:Dl}{te:aZ}{v:Int}(h1:δ[1]?=some (some (.ref k.p)))(ht:∀K:DK,K (.int v) M->te δ M K)(hp:Has k M)(v0:0<v)(v1:v<2 ^ 62)(h:∀r M',0<=r->r<v->Dr k M M'->Q (.int r) M'):
  ap (ak (dB ad) EE 2 (aa (ac 1) (aa te af))) δ M Q:=by
 simp only [ap,ak,aa,ac,af,h1];refine ht _ ⟨rfl,ao fun Q' E' hq _=>kY hp v0 v1 fun r M' r0 r1 d=>hq _ _ ?_⟩;simp only [frz];exact h r M' r0 r1 d
theorem wd{D':DEnds}{ll:Addr}{ls os:List Nat}{c0 c2 c3 c6 c7 c8 c9 c10:Option D}{N:Mem}(hp:Has k N)(hl:N ll=some (.lst (ls.map fun (i:Nat)=>D.int (i:Int))))(h1:ll≠k.p)(h2:ll≠k.q)(hne:ls≠[])(hsz:ls.length+os.length<=100)
  (h:∀(ls':List Nat) (p:Nat) N',Has k N'->N' ll=some (.lst (ls'.map fun (i:Nat)=>D.int (i:Int)))->(p::ls').Perm ls->(∀b,b≠k.p->b≠k.q->b≠ll->N' b=N b)->
   D'.nx [c0,some (.ref k.p),c2,c3,some (.ref ll),some (.lst (aL (aN (os++[p])))),c6,c7,c8,c9,c10] N'):
  eI ad EE D' [c0,some (.ref k.p),c2,c3,some (.ref ll),some (.lst (aL (aN os))),c6,c7,c8,c9,c10] N:=by
 have hpos:0<ls.length:=List.length_pos_iff.mpr hne;have hlm:∀l:List Nat,(l.map fun (i:Nat)=>D.int (i:Int)).length=l.length:=fun l=>by simp
 unfold eI;simp only [ar,ap,ai,ac,bJ,aa,aR,dC,kC,af,ak,bQ,cV,aT,cH,hl,hlm,List.getElem?_cons_zero,List.getElem?_cons_succ];refine ⟨trivial,rfl,ao fun Q' E' hq _=>kY hp (by lia) (by lia) fun r N1 r0 r1 d1=>hq _ _ ?_⟩
 have hl1:N1 ll=some (.lst (ls.map fun (i:Nat)=>D.int (i:Int))):=by rw [d1.2 ll h1 h2];exact hl
 have hr:r.toNat<ls.length:=by lia
 have ix:nP ls.length r=some r.toNat:=gS r0 (by lia)
 have ex:(ls.map fun (i:Nat)=>D.int (i:Int))[r.toNat]?=some (.int ((ls[r.toNat]:Nat):Int)):=by rw [List.getElem?_map,List.getElem?_eq_getElem hr];rfl
 have er:(ls.map fun (i:Nat)=>D.int (i:Int)).eraseIdx r.toNat=(ls.eraseIdx r.toNat).map fun (i:Nat)=>D.int (i:Int):=by rw [yn]
 simp only [frz,oF,hl1,hlm,ix,ex,er];refine ⟨bw (by simp),bw (by simp),bw (by simp),fun p3 hp3=>?_⟩
 have n3:p3≠ll:=fun z=>by rw [z,Mem.upd_same] at hp3;cases hp3
 simp only [Mem.upd_same,Mem.upd_del,aM hp3,bE,dk];have lr:(aL (aN os)).length=2*os.length:=by rw [aX,List.length_map,dO]
 refine ⟨by rw [lr];exact bw (by simp;lia),fun p4 hp4=>?_⟩
 simp only [Mem.upd_same,Mem.upd_del,aM hp4,ag,List.set];have e5:aL (aN os)++[D.tup [.str "take",.str "t",.int ((ls[r.toNat]:Nat):Int)],D.tup [.str "sum",.str "s",.str "s",.str "t"]]=aL (aN (os++[ls[r.toNat]])):=by
  rw [qF,aX,aX,List.map_append];rfl
 rw [e5];refine h (ls.eraseIdx r.toNat) (ls[r.toNat]) _ ?_ Mem.upd_same (uQ hr) fun b b1 b2 b3=>?_
 ·exact d1.1.upd ⟨h1,h2⟩
 ·rw [ae b3,d1.2 b b1 b2]
theorem kX{D':DEnds}{bx:BxW (am (ai kA (ac 4) (ap (bJ af)))) (eI ad EE) D'}{ll:Addr}{c0 c2 c3 c6 c7 c8 c9 c10:Option D}(h1:ll≠k.p)(h2:ll≠k.q):∀(f:Nat) (ls os:List Nat) (N:Mem),ls.length=f->Has k N->N ll=some (.lst (ls.map fun (i:Nat)=>D.int (i:Int)))->ls.length+os.length<=100->
  (∀(os':List Nat) N',Has k N'->os'.Perm (os++ls)->D'.nx [c0,some (.ref k.p),c2,c3,some (.ref ll),some (.lst (aL (aN os'))),c6,c7,c8,c9,c10] N')->
  bz (am (ai kA (ac 4) (ap (bJ af)))) (eI ad EE) D' bx (f+1) [c0,some (.ref k.p),c2,c3,some (.ref ll),some (.lst (aL (aN os))),c6,c7,c8,c9,c10] N
 |f,ls,os,N,hf,hp,hl,hsz,h=>by
  have hfit:bo 60 (.lst (ls.map fun (i:Nat)=>D.int (i:Int)))=true:=by
   unfold bo;have:=gz 59 (ls.map fun (i:Nat)=>(i:Int));rw [List.map_map] at this;exact this
  have tst:∀K:Bool->Mem->Prop,K (!ls.isEmpty) N->am (ai kA (ac 4) (ap (bJ af))) [c0,some (.ref k.p),c2,c3,some (.ref ll),some (.lst (aL (aN os))),c6,c7,c8,c9,c10] N K:=fun K q=>by
   simp only [am,ai,ac,ap,bJ,af,List.getElem?_cons_zero,List.getElem?_cons_succ];refine ⟨bw (by simp),fun p0 hp0=>bA hp0 ?_⟩
   have e1:dv N (.ref ll)=.lst (ls.map fun (i:Nat)=>D.int (i:Int)):=by simp only [dv,hl]
   have e2:dv N (.lst [])=.lst []:=rfl;simp only [kA,e1,e2,hfit];refine ⟨trivial,rfl,?_⟩;have e3:aC (.lst (ls.map fun (i:Nat)=>D.int (i:Int))) (.lst [])=ls.isEmpty:=by cases ls<;>rfl
   rw [e3];exact q
  cases ls with
  |nil=>
   refine whF (fun K q=>tst K q) (h os N hp (by simp))
  |cons a ls=>
   subst hf;refine whT (fun K q=>tst K q) (wd hp hl h1 h2 (by simp) hsz fun ls' p N' hp' hl' pm _=>?_)
   have hlen:=pm.length_eq;simp only [List.length_cons] at hlen hsz;have e:(a::ls).length=ls'.length+1:=by simp;lia
   rw [e];exact kX h1 h2 ls'.length ls' (os++[p]) N' rfl hp' hl' (by simp;lia) fun os' N2 hp2 pm2=>h os' N2 hp2 (pm2.trans (by
    have:=pm.append_left os;simpa using this))
 termination_by f=>f
 decreasing_by lia
end
end Tw
namespace Tw
open PySem L2 L3
section
variable {ad:Ad}{M:Mem}{EE:DX}{k:Pt}
theorem dc{ta:aZ}{tr:dm}{δ:Dl}{Q:List D->Mem->Prop}(h:ta δ M fun x M1=>tr δ M1 fun xs M2=>Q (x::xs) M2):aa ta tr δ M Q:=h
theorem oh{v:Int}:∀n:Nat,(List.replicate n [D.int v]).flatten=(List.replicate n v).map D.int
 |0=>rfl
 |n+1=>by rw [List.replicate_succ,List.flatten_cons,oh n,List.replicate_succ];rfl
theorem Aw{z:Pz}{N:Mem}{c0 c1 c3 c4 c5 c6 c7 c8 c9:Option D}{D':DEnds}(kz:z.Ok)(h:∀N',D'.rt (.bl true) N'):g9 ad EE D' [c0,c1,some (.int (z.n:Nat)),c3,c4,c5,c6,c7,c8,c9,some (bu z.c (z.st 0) (z.st 1))] N:=by
 have hn6:=kz.n6;unfold g9;simp only [ax,ak,aa,ap,qY,ac,af,List.getElem?_cons_zero,List.getElem?_cons_succ,List.cons_append,List.nil_append];refine ⟨rfl,ao fun Q' E' hq _=>wT kz fun p hp=>hq _ _ (bA hp ?_)⟩;simp only [aV,jt,aa,ac,af,bq,List.map_cons,List.map_nil,List.cons_append,List.nil_append,List.getElem?_cons_zero,List.getElem?_cons_succ,Option.join_some];refine ⟨by lia,by lia,?_⟩
 refine de (fun d=>.tup [d,.tup [.int 1,.int (z.n:Nat)]]) aY (by simp [cW];lia) (fun x hx K q=>?_) ?_
 ·simp only [aR,aa,ac,dC,af,List.getElem?_cons_zero,List.getElem?_cons_succ]
  exact ⟨bw (by simp),bw (by simp),q⟩
 intro p2 hp2;refine bA hp2 ?_;have e:(cW 0 (Int.toNat (z.n:Nat))).map (fun d=>D.tup [d,.tup [.int 1,.int (z.n:Nat)]])=(List.range z.n).map fun (i:Nat)=>D.tup [.int (i:Int),.tup [.int 1,.int (z.n:Nat)]]:=by
  unfold cW;rw [List.map_map,Int.toNat_natCast];refine List.map_congr_left fun i _=>?_;simp
 rw [e];refine ⟨rfl,aG (d:=.bl true) (fun Q' E' q=>fj 23 _ _ Q' E' ⟨by simp;lia,fun x hx=>?_⟩ q) (h _)⟩
 obtain ⟨i,_,rfl⟩:=List.mem_map.mp hx;refine ⟨by simp,fun y hy=>?_⟩
 simp only [List.mem_cons,List.not_mem_nil,or_false] at hy;rcases hy with rfl|rfl
 ·trivial
 ·refine ⟨by simp,fun w hw=>?_⟩
  simp only [List.mem_cons,List.not_mem_nil,or_false] at hw;rcases hw with rfl|rfl<;>trivial
theorem ww{m:Int}{n way bound:Nat}{ord:List Nat}{N:Mem}{ld:D}{c0 c8 c9 c10:Option D}{D':DEnds}(hp:Has k N)(n2:2<=n)(n6:n<=6)(m1:(n:Int)+2<=m)(m2:m<=997)(pm:ord.Perm (List.range n))(b1:1<=bound)(b2:bound<=n)(hw:way<=2)(h:∀N',D'.rt (.bl true) N'):
  gb ad EE D' [c0,some (.ref k.p),some (.int (n:Nat)),some (.int m),some ld,some (.lst (aL (aN ord++b8 way bound n))),some (.int (bound:Nat)),some (.int (way:Nat)),c8,c9,c10] N:=by
 unfold gb;generalize hK7:iQ ad EE=K7;simp only [ah,ar,aR,aa,ac,dC,bQ,af,k6,aT,ag,List.set,List.getElem?_cons_zero,List.getElem?_cons_succ];refine ⟨bw (by simp),bw (by simp),?_⟩
 rw [<- hK7];unfold iQ;generalize hK6:iC ad EE=K6;refine bS ?_;unfold ar aR;refine dc ?_;simp only [dC];refine dc (DL rfl (fun K q=>q) hp (by lia) (by lia) fun x1 M1 h1a h1b d1=>?_)
 refine dc ?_;simp only [dC];refine dc (DL rfl (fun K q=>q) d1.1 (by lia) (by lia) fun x3 M3 h3a h3b d3=>?_)
 refine dc (DL rfl (fun K q=>q) d3.1 (by lia) (by lia) fun x4 M4 h4a h4b d4=>?_)
 simp only [af,ag,List.set];refine ⟨bw (by simp),?_⟩
 rw [<- hK6];unfold iC;generalize hK5:g9 ad EE=K5;simp only [ah,ar,aR,aa,ac,dC,ai,af,cZ,ag,List.set,List.getElem?_cons_zero,List.getElem?_cons_succ,Int.toNat_natCast,oh];refine ⟨bw (by simp),by simp,by lia,by lia,by simp,bw (by simp),bw (by simp),by simp,by lia,by lia,by simp,bw (by simp),bw (by simp),?_⟩
 rw [<- hK5];exact Aw (z:=⟨m,n,ord,way,bound,x1,x3,x4⟩) ⟨n2,n6,m1,m2,pm,b1,b2,hw,⟨h1a,h1b⟩,⟨h3a,h3b⟩,⟨h4a,h4b⟩⟩ h
theorem Aq{m:Int}{n way bound:Nat}{ord:List Nat}{N:Mem}{ld:D}{c0 c8 c9 c10:Option D}{D':DEnds}(hp:Has k N)(n2:2<=n)(n6:n<=6)(m1:(n:Int)+2<=m)(m2:m<=997)(pm:ord.Perm (List.range n))(b1:1<=bound)(b2:bound<=n)(hw:way<=2)(h:∀N',D'.rt (.bl true) N'):
  fI ad EE D' [c0,some (.ref k.p),some (.int (n:Nat)),some (.int m),some ld,some (.lst (aL (aN ord))),some (.int (bound:Nat)),some (.int (way:Nat)),c8,c9,c10] N:=by
 have hl:ord.length=n:=by rw [pm.length_eq];simp
 have lr:(aL (aN ord)).length=2*n:=by rw [aX,List.length_map,dO,hl]
 have tl:=fun ld=>ww (ad:=ad) (EE:=EE) (ld:=ld) (c0:=c0) (c8:=c8) (c9:=c9) (c10:=c10) hp n2 n6 m1 m2 pm b1 b2 hw h;have w0:∀{j:Nat},decide (((way:Nat):Int)=((j:Nat):Int))=decide (way=j):=fun {j}=>by congr 1;exact propext (by lia)
 unfold fI jn nF;generalize hK8:gb ad EE=K8;rw [hK8] at tl;have hcases:way=0\/way=1\/way=2:=by lia
 rcases hcases with rfl|rfl|rfl
 ·have e:aL (aN ord)++[D.tup [.str "put",.str "k",.int (bound:Nat)],D.tup [.str "less",.str "mark",.str "s",.str "k"],D.tup [.str "same",.str "mark",.str "mark",.str "zero"]]=aL (aN ord++b8 0 bound n):=by
   rw [aX,aX,List.map_append];rfl
  unfold mH;simp only [ah,aS,am,ip,ai,ac,dC,cu,vA,gr,dv,bo,aC,List.getElem?_cons_zero,List.getElem?_cons_succ,ar,ap,bJ,aR,aa,af];refine ⟨trivial,trivial,?_⟩;rw [if_pos (by decide)]
  refine ⟨bw (by simp),bw (by simp),bw (by simp),bw (by simp),fun p1 h1=>bA h1 ?_⟩
  simp only [bE,dk];refine ⟨by rw [lr];exact bw (by simp;lia),fun p2 h2=>bA h2 ?_⟩
  rw [e];simp only [ag,List.set,ah,aS,am,ip,ai,ac,dC,cu,vA,gr,dv,bo,aC,aE,List.getElem?_cons_zero,List.getElem?_cons_succ];rw [if_neg (by decide)]
  refine ⟨trivial,trivial,?_⟩;rw [if_neg (by decide)]
  exact tl ld
 ·have e:aL (aN ord)++[D.tup [.str "put",.str "k",.int (n:Nat)],D.tup [.str "same",.str "mark",.str "s",.str "k"]]=aL (aN ord++b8 1 bound n):=by
   rw [aX,aX,List.map_append];rfl
  unfold iP;simp only [ah,aS,am,ip,ai,ac,dC,cu,vA,gr,dv,bo,aC,List.getElem?_cons_zero,List.getElem?_cons_succ,ar,ap,bJ,aR,aa,af];refine ⟨trivial,trivial,?_⟩;rw [if_neg (by decide)]
  simp only [aE,ah,aS,am,ip,ai,ac,dC,cu,vA,gr,dv,bo,aC,List.getElem?_cons_zero,List.getElem?_cons_succ,ar,ap,bJ,aR,aa,af];rw [if_pos (by decide)]
  refine ⟨bw (by simp),bw (by simp),bw (by simp),fun p1 h1=>bA h1 ?_⟩
  simp only [bE,dk];refine ⟨by rw [lr];exact bw (by simp;lia),fun p2 h2=>bA h2 ?_⟩
  rw [e];simp only [ag,List.set,ah,aS,am,ip,ai,ac,dC,cu,vA,gr,dv,bo,aC,aE,List.getElem?_cons_zero,List.getElem?_cons_succ];refine ⟨trivial,trivial,?_⟩;rw [if_neg (by decide)]
  exact tl ld
 ·have e:aL (aN ord)++[D.tup [.str "put",.str "k",.int (n:Nat)],D.tup [.str "same",.str "mark",.str "s",.str "k"]]=aL (aN ord++[.put "k" (n:Nat),.two "same" "mark" "s" "k"]):=by
   rw [aX,aX,List.map_append];rfl
  have l2:(aL (aN ord++[.put "k" (n:Nat),.two "same" "mark" "s" "k"])).length=2*n+2:=by rw [aX,List.length_map,List.length_append,dO,hl];rfl
  unfold iP mw;simp only [ah,aS,am,ip,ai,ac,dC,cu,vA,gr,dv,bo,aC,List.getElem?_cons_zero,List.getElem?_cons_succ,ar,ap,bJ,aR,aa,af];refine ⟨trivial,trivial,?_⟩;rw [if_neg (by decide)]
  simp only [aE,ah,aS,am,ip,ai,ac,dC,cu,vA,gr,dv,bo,aC,List.getElem?_cons_zero,List.getElem?_cons_succ,ar,ap,bJ,aR,aa,af];rw [if_pos (by decide)]
  refine ⟨bw (by simp),bw (by simp),bw (by simp),fun p1 h1=>bA h1 ?_⟩
  simp only [bE,dk];refine ⟨by rw [lr];exact bw (by simp;lia),fun p2 h2=>bA h2 ?_⟩
  rw [e];simp only [ag,List.set,ah,aS,am,ip,ai,ac,dC,cu,vA,gr,dv,bo,aC,aE,List.getElem?_cons_zero,List.getElem?_cons_succ];refine ⟨trivial,trivial,?_⟩;rw [if_pos (by decide)]
  by_cases c:2<n
  ·have ec:decide ((2:Int)<((n:Nat):Int))=true:=decide_eq_true (by lia)
   have e2:aL (aN ord++[.put "k" (n:Nat),.two "same" "mark" "s" "k"])++[D.tup [.str "put",.str "k",.int 1],D.tup [.str "same",.str "t",.str "s",.str "k"],D.tup [.str "sum",.str "mark",.str "mark",.str "t"]]=aL (aN ord++b8 2 bound n):=by
    have:b8 2 bound n=[.put "k" (n:Nat),.two "same" "mark" "s" "k",.put "k" 1,.two "same" "t" "s" "k",.two "sum" "mark" "mark" "t"]:=by unfold b8;rw [if_neg (by decide),if_pos ⟨rfl,c⟩]
    rw [this,aX,aX,List.map_append,List.map_append,List.append_assoc];rfl
   simp only [ec,if_true];refine ⟨bw (by simp),bw (by simp),bw (by simp),bw (by simp),fun p1 h1=>bA h1 ?_⟩
   simp only [List.getElem?_cons_zero,List.getElem?_cons_succ,dk];refine ⟨by rw [l2];exact bw (by simp;lia),fun p2 h2=>bA h2 ?_⟩
   rw [e2];exact tl ld
  ·have ec:decide ((2:Int)<((n:Nat):Int))=false:=decide_eq_false (by lia)
   have this:b8 2 bound n=[.put "k" (n:Nat),.two "same" "mark" "s" "k"]:=by unfold b8;rw [if_neg (by decide),if_neg (fun q=>c q.2)]
   rw [this] at tl;simp only [ec];rw [if_neg (by decide)]
   exact tl ld
end
theorem vZ(ad:Ad)(ns:List Int)(hl:ns.length<=63):xz ad [.ml (ns.map D.int)] (fun _=>none) (fun d _=>d=.bl true) pQ:=by
 rw [HU (n:=0)];generalize hG:({ nx:=fun _ M'=>drp (fun d _=>d=D.bl true) .non M',rt:=drp fun d _=>d=D.bl true }:DEnds)=G;have hrt:∀N',G.rt (.bl true) N':=fun N'=>by rw [<- hG];exact ⟨N',fun _ _ e=>e,rfl⟩
 unfold sU;refine bS ?_;simp only [ar,ak,aa,ac,af,List.getElem?_cons_zero];refine ⟨rfl,ao fun Q' E' hq _=>x_ fun k M1 h1 _=>hq _ _ ?_⟩;simp only [ag,List.set];unfold jq;refine bS ?_;unfold ar ai;simp only [dC];refine DL rfl (fun K q=>q) h1 (by decide) (by decide) fun r2 M2 a2 b2 d2=>?_
 simp only [bE,ag,List.set];obtain ⟨n,hn⟩:∃n:Nat,(2:Int)+r2=((n:Nat):Int):=⟨(2+r2).toNat,by lia⟩
 rw [hn];unfold km;refine bS ?_;unfold ar;rw [show ∀(t:aZ) (δ:Dl) (M:Mem) (Q:DK),ap t δ M Q=t δ M fun d M'=>frz d M' Q from fun _ _ _ _=>rfl];unfold ai;simp only [ac,dC,ai,List.getElem?_cons_zero,List.getElem?_cons_succ,bE];refine DL (v:=997-(n:Int)-1) rfl (fun K q=>by simp only [ac,dC,ai,List.getElem?_cons_zero,List.getElem?_cons_succ,kO,gr];exact q) d2.1 (by lia) (by lia) fun r3 M3 a3 b3 d3=>?_
 simp only [frz,ag,List.set];unfold jv;refine bS ?_;simp only [ar,fS,aa,ac,af,List.getElem?_cons_zero,List.getElem?_cons_succ];refine ⟨⟨by lia,by lia⟩,fun ll hll=>?_⟩
 simp only [ag,List.set];have hne:=d3.1.nep hll;unfold jF;refine bS ?_;simp only [ar,ap,bJ,af];refine ⟨bw (by simp),fun p5 hp5=>bA hp5 ?_⟩
 simp only [ag,List.set];unfold j_;generalize hK13:fX ad (ay pQ)=K13;refine bS ?_;simp only [cE];have er:cW 0 (Int.toNat (n:Nat))=(List.range n).map fun (i:Nat)=>D.int (i:Int):=by
  unfold cW;rw [Int.toNat_natCast];exact List.map_congr_left fun i _=>by simp
 rw [er];refine ⟨_,kX hne.1 hne.2 _ (List.range n) [] _ rfl (d3.1.upd hne) Mem.upd_same (by simp;lia) fun ord N hN pm=>?_⟩
 rw [List.nil_append] at pm;dsimp only;rw [<- hK13];unfold fX;refine bS ?_;unfold ar ai;simp only [dC];refine DL (v:=(n:Int)) rfl (fun K q=>q) hN (by lia) (by lia) fun r6 M6 a6 b6 d6=>?_
 simp only [bE,ag,List.set];obtain ⟨bound,hb⟩:∃b:Nat,(1:Int)+r6=((b:Nat):Int):=⟨(1+r6).toNat,by lia⟩
 rw [hb];unfold jY;refine bS ?_;unfold ar;refine DL rfl (fun K q=>q) d6.1 (by decide) (by decide) fun r7 M7 a7 b7 d7=>?_
 simp only [ag,List.set];obtain ⟨way,hw⟩:∃b:Nat,r7=((b:Nat):Int):=⟨r7.toNat,by lia⟩
 rw [hw];exact Aq d7.1 (by lia) (by lia) (by lia) (by lia) pm (by lia) (by lia) (by lia) hrt
end Tw
namespace Tw
open PySem L2 L3
def z7(K:W.Frag):Sp:=fun vs H Q _=>∃(a:Addr) (ns:List Int),vs=[.ref a]/\xK H/\SqL K H a (ns.map V.int)/\ns.length<=63/\∀H',Q (.bl true) H'
theorem Dc{l:W.OpenLaw}{w:World}{K:W.Frag}{h:Heap}{mg:Str->Option Value}{fa C_Ends C_Going C_Outcome C_Walk C_Dry C_NoCase C_TooMany f1 f2 f3 f4 f5 f6 f7 f8 f9 f10 f11 f12 f13 f14 f15 f16 f17 f18 f19 f20 f21 f22 f23 f24 f25 f26 f27 f28 f29 f30 f31 f32 f33 f34 f35 f36 f37 f38 f39 f40 f41 f42 f43 f44 f45 f46:Addr}(X:K.In h)(G:h.Ns mainGlobals mg)(hfa:mg "law"=some (.ref fa))
  {e1 e2 e3 e4 e5 e6 e7 e8 e9 e10 e11 e12 e13 e14 e15 e16 e17 e18 e19 e20 e21 e22 e23 e24 e25 e26 e27 e28 e29 e30 e31 e32 e33 e34 e35 e36 e37 e38 e39 e40 e41 e42 e43 e44 e45 e46:FuncData}
  (aC_Ends:W.nsIn K mainGlobals "Ends"=some (some (.ref C_Ends)))
  (aC_Going:W.nsIn K mainGlobals "Going"=some (some (.ref C_Going)))
  (aC_Outcome:W.nsIn K mainGlobals "Outcome"=some (some (.ref C_Outcome)))
  (aC_Walk:W.nsIn K mainGlobals "Walk"=some (some (.ref C_Walk)))
  (aC_Dry:W.nsIn K mainGlobals "Dry"=some (some (.ref C_Dry)))
  (aC_NoCase:W.nsIn K mainGlobals "NoCase"=some (some (.ref C_NoCase)))
  (aC_TooMany:W.nsIn K mainGlobals "TooMany"=some (some (.ref C_TooMany)))
  (l1:Mf K C_Walk "__init__" "Walk.__init__" G7 f1 e1)
  (l2:Mf K C_Walk "note_step" "Walk.note_step" HX f2 e2)
  (l3:Mf K C_Walk "look" "Walk.look" C3 f3 e3)
  (l4:Nf K "run" Ce f4 e4)
  (l5:Nf K "mark" Ck f5 e5)
  (l6:Nf K "do_rows" Cb f6 e6)
  (l7:Af K "do_row_runs" "do_row" Co f7 e7)
  (l8:Nf K "do_if" Cq f8 e8)
  (l9:Nf K "do_again" CC f9 e9)
  (l10:Nf K "number_of" CB f10 e10)
  (l11:Nf K "piece_read" CI f11 e11)
  (l12:Nf K "joined" C9 f12 e12)
  (l13:Nf K "all_things" Cs f13 e13)
  (l14:Nf K "in_order" BR f14 e14)
  (l15:Nf K "number_in" CM f15 e15)
  (l16:Nf K "names_read" CH f16 e16)
  (l17:Nf K "unlike" BP f17 e17)
  (l18:Nf K "marks" BY f18 e18)
  (l19:Nf K "unlike_of" Cp f19 e19)
  (l20:Nf K "verdict_of" BK f20 e20)
  (l21:Mf K C_Going "__init__" "Going.__init__" HN f21 e21)
  (l22:Mf K C_Going "settled" "Going.settled" Il f22 e22)
  (l23:Mf K C_Ends "__init__" "Ends.__init__" GP f23 e23)
  (l24:Mf K C_Ends "one_more" "Ends.one_more" GZ f24 e24)
  (l25:Nf K "start" C6 f25 e25)
  (l26:Nf K "put_ahead" BZ f26 e26)
  (l27:Nf K "go_on" BU f27 e27)
  (l28:Nf K "asked_by" C7 f28 e28)
  (l29:Af K "do_row_trees" "do_row" G_ f29 e29)
  (l30:Nf K "mark_of" C1 f30 e30)
  (l31:Nf K "both_ways" C2 f31 e31)
  (l32:NV K "tree" Cj f32 e32 (500))
  (l33:Nf K "grown" BM f33 e33)
  (l34:Mf K C_Outcome "__init__" "Outcome.__init__" Hn f34 e34)
  (l35:Nf K "outcomes" BQ f35 e35)
  (l36:Nf K "numbers_of" BX f36 e36)
  (l37:NV K "shares" CL f37 e37 (500))
  (l38:Nf K "mean_of" CN f38 e38)
  (l39:Nf K "orders_of" BS f39 e39)
  (l40:Nf K "orders_up_to" G6 f40 e40)
  (l41:Nf K "in_lowest_terms" HG f41 e41)
  (l42:Nf K "_law_stirred" BJ f42 e42)
  (l43:Nf K "_law_pot" BI f43 e43)
  (l44:Nf K "_law_draw" BL f44 e44)
  (l45:Nf K "_law_alike" Ci f45 e45)
  (l46:Nf K "law" gX f46 e46)
  (x_Dry:W.excIn K C_Dry [.type "ValueError",.type "Exception",.type "BaseException",.type "object"] "ValueError.__new__"=true)
  (x_NoCase:W.excIn K C_NoCase [.type "ValueError",.type "Exception",.type "BaseException",.type "object"] "ValueError.__new__"=true)
  (x_TooMany:W.excIn K C_TooMany [.type "ValueError",.type "Exception",.type "BaseException",.type "object"] "ValueError.__new__"=true)
  (pg_Ends:W.plainGet K C_Ends Str.empty=true)
  (hd_Ends:W.hasDictIn K C_Ends=true)
  (po_Ends:W.plainOver K C_Ends=true)
  (sa_Ends:W.findIn K (.ref C_Ends) "__setattr__"=some (some (.builtin "object.__setattr__")))
  (mk_Ends:W.makesIn K C_Ends=true)
  (kc_Ends:W.keepIn K (.ref C_Ends)=true)
  (pg_Going:W.plainGet K C_Going Str.empty=true)
  (hd_Going:W.hasDictIn K C_Going=true)
  (po_Going:W.plainOver K C_Going=true)
  (sa_Going:W.findIn K (.ref C_Going) "__setattr__"=some (some (.builtin "object.__setattr__")))
  (mk_Going:W.makesIn K C_Going=true)
  (kc_Going:W.keepIn K (.ref C_Going)=true)
  (pg_Outcome:W.plainGet K C_Outcome Str.empty=true)
  (hd_Outcome:W.hasDictIn K C_Outcome=true)
  (po_Outcome:W.plainOver K C_Outcome=true)
  (sa_Outcome:W.findIn K (.ref C_Outcome) "__setattr__"=some (some (.builtin "object.__setattr__")))
  (mk_Outcome:W.makesIn K C_Outcome=true)
  (kc_Outcome:W.keepIn K (.ref C_Outcome)=true)
  (pg_Walk:W.plainGet K C_Walk Str.empty=true)
  (hd_Walk:W.hasDictIn K C_Walk=true)
  (po_Walk:W.plainOver K C_Walk=true)
  (sa_Walk:W.findIn K (.ref C_Walk) "__setattr__"=some (some (.builtin "object.__setattr__")))
  (mk_Walk:W.makesIn K C_Walk=true)
  (kc_Walk:W.keepIn K (.ref C_Walk)=true)
  (n_Ends_count:W.findIn K (.ref C_Ends) "count"=some none)
  (n_Ends_limit:W.findIn K (.ref C_Ends) "limit"=some none)
  (n_Going_left:W.findIn K (.ref C_Going) "left"=some none)
  (n_Going_numbers:W.findIn K (.ref C_Going) "numbers"=some none)
  (n_Going_pieces:W.findIn K (.ref C_Going) "pieces"=some none)
  (n_Going_todo:W.findIn K (.ref C_Going) "todo"=some none)
  (n_Going_unsettled:W.findIn K (.ref C_Going) "unsettled"=some none)
  (n_Outcome_faulty:W.findIn K (.ref C_Outcome) "faulty"=some none)
  (n_Outcome_sound:W.findIn K (.ref C_Outcome) "sound"=some none)
  (n_Outcome_verdict:W.findIn K (.ref C_Outcome) "verdict"=some none)
  (n_Walk_most:W.findIn K (.ref C_Walk) "most"=some none)
  (n_Walk_numbers:W.findIn K (.ref C_Walk) "numbers"=some none)
  (n_Walk_pieces:W.findIn K (.ref C_Walk) "pieces"=some none)
  (n_Walk_plan:W.findIn K (.ref C_Walk) "plan"=some none)
  (n_Walk_steps:W.findIn K (.ref C_Walk) "steps"=some none)
  (z_all:W.nsIn K mainGlobals "all"=some none)
  (z_bool:W.nsIn K mainGlobals "bool"=some none)
  (z_dict:W.nsIn K mainGlobals "dict"=some none)
  (z_enumerate:W.nsIn K mainGlobals "enumerate"=some none)
  (z_int:W.nsIn K mainGlobals "int"=some none)
  (z_isinstance:W.nsIn K mainGlobals "isinstance"=some none)
  (z_len:W.nsIn K mainGlobals "len"=some none)
  (z_list:W.nsIn K mainGlobals "list"=some none)
  (z_range:W.nsIn K mainGlobals "range"=some none)
  (z_reversed:W.nsIn K mainGlobals "reversed"=some none)
  (z_str:W.nsIn K mainGlobals "str"=some none)
  (z_sum:W.nsIn K mainGlobals "sum"=some none)
  (z_tuple:W.nsIn K mainGlobals "tuple"=some none)
  (z_zip:W.nsIn K mainGlobals "zip"=some none):
  ∃fd:FuncData,(∀(s:Shared) (v:Value),BindsTo s fd ⟨[v],[]⟩ [("script",v)])/\∀base:Heap,K.In base->base.Ns mainGlobals mg->FnOk l.prog w K mg base CX0 35 fa fd ["script"] (z7 K):=by
 have e:=hfa.symm.trans (W.mg_of X G l46.a);cases e;obtain ⟨_,_,kV,dc,pm,an,cd,ct,_,rfl,_⟩:=l46.F.ex;refine ⟨W.fnOf "law" "law" (bG gX) (bf gX) (aA gX) .none kV dc pm an cd ct,fun s v=>.of_eq rfl,fun base _ _=>?_⟩
 let ad:Ad:=⟨C_Ends,C_Going,C_Outcome,C_Walk,C_Dry,C_NoCase,C_TooMany,f1,f2,f3,f4,f5,f6,f7,f8,f9,f10,f11,f12,f13,f14,f15,f16,f17,f18,f19,f20,f21,f22,f23,f24,f25,f26,f27,f28,f29,f30,f31,f32,f33,f34,f35,f36,f37,f38,f39,f40,f41,f42,f43,f44,f45,fa,e1,e2,e3,e4,e5,e6,e7,e8,e9,e10,e11,e12,e13,e14,e15,e16,e17,e18,e19,e20,e21,e22,e23,e24,e25,e26,e27,e28,e29,e30,e31,e32,e33,e34,e35,e36,e37,e38,e39,e40,e41,e42,e43,e44,e45,W.fnOf "law" "law" (bG gX) (bf gX) (aA gX) .none kV dc pm an cd ct⟩
 have T:En l.prog w K mg base ad:=⟨⟨pg_Ends,hd_Ends,po_Ends,sa_Ends⟩,
  W.mg_of X G aC_Ends,
  ⟨pg_Going,hd_Going,po_Going,sa_Going⟩,
  W.mg_of X G aC_Going,
  ⟨pg_Outcome,hd_Outcome,po_Outcome,sa_Outcome⟩,
  W.mg_of X G aC_Outcome,
  ⟨pg_Walk,hd_Walk,po_Walk,sa_Walk⟩,
  W.mg_of X G aC_Walk,
  n_Ends_count,
  n_Ends_limit,
  n_Going_left,
  n_Going_numbers,
  n_Going_pieces,
  n_Going_todo,
  n_Going_unsettled,
  n_Outcome_faulty,
  n_Outcome_sound,
  n_Outcome_verdict,
  n_Walk_most,
  n_Walk_numbers,
  n_Walk_pieces,
  n_Walk_plan,
  n_Walk_steps,
  fm X x_Dry,
  W.mg_of X G aC_Dry,
  fm X x_NoCase,
  W.mg_of X G aC_NoCase,
  fm X x_TooMany,
  W.mg_of X G aC_TooMany,
  W.mg_none_of X G z_all,
  W.mg_none_of X G z_bool,
  W.mg_none_of X G z_dict,
  W.mg_none_of X G z_enumerate,
  W.mg_none_of X G z_int,
  W.mg_none_of X G z_isinstance,
  W.mg_none_of X G z_len,
  W.mg_none_of X G z_list,
  W.mg_none_of X G z_range,
  W.mg_none_of X G z_reversed,
  W.mg_none_of X G z_str,
  W.mg_none_of X G z_sum,
  W.mg_none_of X G z_tuple,
  W.mg_none_of X G z_zip,
  gi mk_Walk kc_Walk l1,
  gm l2,
  gm l3,
  gf X G l4,
  gf X G l5,
  gf X G l6,
  ga X G l7,
  gf X G l8,
  gf X G l9,
  gf X G l10,
  gf X G l11,
  gf X G l12,
  gf X G l13,
  gf X G l14,
  gf X G l15,
  gf X G l16,
  gf X G l17,
  gf X G l18,
  gf X G l19,
  gf X G l20,
  gi mk_Going kc_Going l21,
  gm l22,
  gi mk_Ends kc_Ends l23,
  gm l24,
  gf X G l25,
  gf X G l26,
  gf X G l27,
  gf X G l28,
  ga X G l29,
  gf X G l30,
  gf X G l31,
  gv X G l32 rfl fun _ _ _ _ _ _ _ _=>⟨fun _=>⟨_,rfl,rfl⟩,fun _ _=>⟨_,rfl,rfl⟩⟩,
  gf X G l33,
  gi mk_Outcome kc_Outcome l34,
  gf X G l35,
  gf X G l36,
  gv X G l37 rfl fun _ _ _ _ _ _ _ _=>⟨fun _=>⟨_,rfl,rfl⟩,fun _ _=>⟨_,rfl,rfl⟩⟩,
  gf X G l38,
  gf X G l39,
  gf X G l40,
  gf X G l41,
  gf X G l42,
  gf X G l43,
  gf X G l44,
  gf X G l45,
  gf X G l46⟩
 exact (DV (Fc T)).imp fun vs H Q E ⟨a,ns,e,hO,hS,hl,k⟩=>by subst e;exact Ao hO hS (vZ ad ns hl) k
theorem walk{l:W.OpenLaw}{q:Program}{loose:List Str}{XP:(Str->Option Value)->Heap->Prop}{YP:World->Heap->Prop}{d:DefRec}{K:Params->W.Frag}(hn:l.most=some 63)(hdf:d.params.defaults=[])
  (hY:∀(w:World) (h:Heap),YP w h->(K w.params).In h)
  (F:∀(w:World) (mg:Str->Option Value) (fa:Addr) (h:Heap),(K w.params).In h->h.Ns mainGlobals mg->mg d.name=some (.ref fa)->
   ∃fd:FuncData,(∀(s:Shared) (u:Value),BindsTo s fd ⟨[u],[]⟩ [("script",u)])/\∀base:Heap,(K w.params).In base->base.Ns mainGlobals mg->FnOk l.prog w (K w.params) mg base CX0 35 fa fd ["script"] (z7 (K w.params))):
  W.WalkO q loose XP YP l.row.toRowW d [] (fun f vs=>PySem.call f vs):=
 L2.zC (n:=63) (k:=35) (x:="script") (CX:=fun _=>CX0) (sp:=fun w=>z7 (K w.params)) hn (by decide) hdf ⟨rfl,by decide,by decide,rfl⟩ hY F (fun _ _ a ns hl hO hS=>⟨a,ns,rfl,hO,hS,hl,fun _=>rfl⟩) fun _ _ _ _ _ z=>z
end Tw
open PySem PySem.W PyProof.Rows
namespace PySem.W.Fast
theorem tw5899432111308762956:0=0:=rfl
theorem tw17333729955700262639:0=0:=rfl
theorem tw5939188224078279564:0=0:=rfl
theorem tw9528784798248708704:0=0:=rfl
theorem tw8176610204709561595:0=0:=rfl
theorem tw417091451660046564:0=0:=rfl
theorem tw17031965716353565479:0=0:=rfl
theorem tw11400326484220827448:0=0:=rfl
theorem tw13920409815480668912:0=0:=rfl
theorem tw13295002272452712322:0=0:=rfl
theorem tw8940406896549208201:0=0:=rfl
theorem tw9523159623898056588:0=0:=rfl
theorem tw12172439848448666518:0=0:=rfl
theorem tw8124471015451670871:0=0:=rfl
theorem tw12557432597584945220:0=0:=rfl
theorem tw16041938339221699358:0=0:=rfl
theorem tw10599469094028273174:0=0:=rfl
theorem tw2564284382580099870:0=0:=rfl
theorem tw10520402989518945469:0=0:=rfl
theorem tw17806050801565718281:0=0:=rfl
theorem tw1804816784421368889:0=0:=rfl
theorem tw9122045627979302058:0=0:=rfl
theorem tw477531457436257224:0=0:=rfl
theorem tw15626884152036599502:0=0:=rfl
theorem tw7441220527921485996:0=0:=rfl
theorem tw12491014164848367063:0=0:=rfl
theorem tw7050285278698880779:0=0:=rfl
theorem tw13787498734917488015:0=0:=rfl
theorem tw9136716514021806509:0=0:=rfl
theorem tw3797163467850149460:0=0:=rfl
theorem tw16137443158241825730:0=0:=rfl
theorem tw7162775527402093834:0=0:=rfl
theorem tw6987146683441837501:0=0:=rfl
theorem tw7317523914528504592:0=0:=rfl
theorem tw6353913317430830470:0=0:=rfl
theorem tw15588354965560824777:0=0:=rfl
theorem tw5709235601089893081:0=0:=rfl
theorem tw1142893745528888101:0=0:=rfl
theorem tw13757760902695852197:0=0:=rfl
theorem tw9363860421810509261:0=0:=rfl
theorem tw5399589362850897604:0=0:=rfl
theorem tw8172565240714649336:0=0:=rfl
theorem tw9239695826444091377:0=0:=rfl
theorem tw4767396415311659234:0=0:=rfl
theorem tw10780638055377548575:0=0:=rfl
theorem tw4019899570627585762:0=0:=rfl
theorem tw11269890733318273045:0=0:=rfl
theorem tw1220048694014506262:0=0:=rfl
theorem tw5940565028146450538:0=0:=rfl
theorem tw8566804843544488535:0=0:=rfl
theorem tw1744183705661373435:0=0:=rfl
theorem tw2579140209179242991:0=0:=rfl
theorem tw18323405311504795667:0=0:=rfl
theorem tw1193644584745575575:0=0:=rfl
theorem tw8398039271362865553:0=0:=rfl
theorem tw4756587441173911521:0=0:=rfl
theorem tw1803866368369421493:0=0:=rfl
theorem tw8802915137871820798:0=0:=rfl
theorem tw5697845485542282030:0=0:=rfl
theorem tw14166017192996350932:0=0:=rfl
theorem tw14541159386968667964:0=0:=rfl
theorem tw14819240353808495840:0=0:=rfl
theorem tw12363146105045792927:0=0:=rfl
theorem tw6614682834397908466:0=0:=rfl
theorem tw10986187518700538491:0=0:=rfl
theorem tw12237751744517583184:0=0:=rfl
theorem tw3212397660689340511:0=0:=rfl
theorem tw4853062275409242947:0=0:=rfl
theorem tw16461054743169285437:0=0:=rfl
theorem tw352253398287281899:0=0:=rfl
theorem tw14262907708519589276:0=0:=rfl
theorem tw5319472320919162394:0=0:=rfl
theorem tw1028083983618633118:0=0:=rfl
theorem tw8770915225257256539:0=0:=rfl
theorem tw4880114376904658290:0=0:=rfl
theorem tw3398220292070897549:0=0:=rfl
theorem tw6361615067907751722:0=0:=rfl
theorem tw2544037856190062868:0=0:=rfl
theorem tw11780394393774164382:0=0:=rfl
theorem tw501793924579213670:0=0:=rfl
theorem tw11484836173505943143:0=0:=rfl
theorem tw16964305130513961024:0=0:=rfl
theorem tw13243211441262030138:0=0:=rfl
theorem tw6862278598359731888:0=0:=rfl
theorem tw11244611501302366468:0=0:=rfl
theorem tw9612529247195832413:0=0:=rfl
theorem tw16335815816904987956:0=0:=rfl
theorem tw2101924086885626783:0=0:=rfl
theorem tw5365764428823402674:0=0:=rfl
theorem tw4756275030995119271:0=0:=rfl
theorem tw837667255922745352:0=0:=rfl
theorem tw4737882672368499619:0=0:=rfl
theorem tw15702852679820383751:0=0:=rfl
theorem tw1885316461506341848:0=0:=rfl
theorem tw8086446185692582470:0=0:=rfl
theorem tw14059037938253188938:0=0:=rfl
theorem tw18027444016598187009:0=0:=rfl
theorem tw7918927634541998858:0=0:=rfl
theorem tw11758322536041787780:0=0:=rfl
theorem tw472073561339192382:0=0:=rfl
theorem tw3955471975695997752:0=0:=rfl
theorem tw9179336110778501684:0=0:=rfl
theorem tw17340949806410297239:0=0:=rfl
theorem tw5029897812906308830:0=0:=rfl
theorem tw8909232912192265756:0=0:=rfl
theorem tw17336837731727170905:0=0:=rfl
theorem tw2088105267575945931:0=0:=rfl
theorem tw16554409311258840242:0=0:=rfl
theorem tw2142957910958252927:0=0:=rfl
theorem tw13784798179810224174:0=0:=rfl
theorem tw16727671543415321027:0=0:=rfl
theorem tw16767571364249666287:0=0:=rfl
theorem tw4822863767676041900:0=0:=rfl
theorem tw1383296336084444612:0=0:=rfl
theorem tw14996002706842270669:0=0:=rfl
theorem tw4389363592734307362:0=0:=rfl
theorem tw12325495640508318161:0=0:=rfl
theorem tw9491102432824277930:0=0:=rfl
theorem tw16748017551253450630:0=0:=rfl
theorem tw16440071691109705991:0=0:=rfl
theorem tw4560359091428400152:0=0:=rfl
theorem tw6246441719563731410:0=0:=rfl
theorem tw10426217427717222148:0=0:=rfl
theorem tw15290253196486525115:0=0:=rfl
theorem tw3280568847505670652:0=0:=rfl
theorem tw13548795217564831430:0=0:=rfl
theorem tw9678641584744390827:0=0:=rfl
theorem tw17879401338092667552:0=0:=rfl
theorem tw8654193861226089091:0=0:=rfl
theorem tw3800857770604105739:0=0:=rfl
theorem tw2138580466289507550:0=0:=rfl
theorem tw3759792321945580898:0=0:=rfl
theorem tw14955448881924342689:0=0:=rfl
theorem tw6202856359531444935:0=0:=rfl
theorem tw7703063501237248083:0=0:=rfl
theorem tw2277628558062600031:0=0:=rfl
theorem tw14513382027696030560:0=0:=rfl
theorem tw9231478001367506621:0=0:=rfl
theorem tw5230491089231200675:0=0:=rfl
theorem tw16554571490737621848:0=0:=rfl
theorem tw4779493757608661786:0=0:=rfl
theorem tw2454572578477962820:0=0:=rfl
theorem tw12262815481939924467:0=0:=rfl
theorem tw8034168850687990313:0=0:=rfl
theorem tw16390379732250967117:0=0:=rfl
theorem tw8321957042395312386:0=0:=rfl
theorem tw4661455659023236466:0=0:=rfl
theorem tw11195978523239199640:0=0:=rfl
theorem tw1541490994879015561:0=0:=rfl
theorem tw8325476440024362562:0=0:=rfl
theorem tw10828794465001548305:0=0:=rfl
theorem tw9671176800473819467:0=0:=rfl
theorem tw16845446506660804456:0=0:=rfl
theorem tw15266188005779514422:0=0:=rfl
theorem tw12051794643607176074:0=0:=rfl
theorem tw10662430029591949891:0=0:=rfl
theorem tw2340073142848861220:0=0:=rfl
theorem tw1585414960683291845:0=0:=rfl
theorem tw5516220494282360171:0=0:=rfl
theorem tw14057651437860284962:0=0:=rfl
theorem tw3450996068834651836:0=0:=rfl
theorem tw6024900678117878501:0=0:=rfl
theorem tw2000719000343520682:0=0:=rfl
theorem tw5733221537490145850:0=0:=rfl
theorem tw1496696423825679286:0=0:=rfl
theorem tw17924466154301630681:0=0:=rfl
theorem tw18255704113706969862:0=0:=rfl
theorem tw14379241314969686577:0=0:=rfl
theorem tw5555445889142681300:0=0:=rfl
theorem tw751495326882065310:0=0:=rfl
theorem tw11976278585960230686:0=0:=rfl
theorem tw11579192256443429740:0=0:=rfl
theorem tw10860239188062563798:0=0:=rfl
theorem tw3903134305605867279:0=0:=rfl
theorem tw7500503943496418117:0=0:=rfl
theorem tw11609919580791092621:0=0:=rfl
theorem tw9304105623906007905:0=0:=rfl
theorem tw6272539334598992843:0=0:=rfl
theorem tw15890828445339000360:0=0:=rfl
theorem tw15350220869849693507:0=0:=rfl
theorem tw8323440346901880634:0=0:=rfl
theorem tw16112300184719018834:0=0:=rfl
theorem tw3043914576950966024:0=0:=rfl
theorem tw1715925553305367317:0=0:=rfl
theorem tw10189174634083013712:0=0:=rfl
theorem tw15218423369959462526:0=0:=rfl
theorem tw17888478448509263529:0=0:=rfl
theorem tw6621125163667929971:0=0:=rfl
theorem tw16044842182179704431:0=0:=rfl
theorem tw18062675117089130250:0=0:=rfl
theorem tw3165638028818712401:0=0:=rfl
theorem tw11141414136086828148:0=0:=rfl
theorem tw9156874765076603652:0=0:=rfl
theorem tw14498445334638608103:0=0:=rfl
theorem tw716807295122210575:0=0:=rfl
theorem tw12521559598815614244:0=0:=rfl
theorem tw7963407144894608795:0=0:=rfl
theorem tw12121322473399261909:0=0:=rfl
theorem tw3146720652451345171:0=0:=rfl
theorem tw9976297957461007738:0=0:=rfl
theorem tw6183268351783597854:0=0:=rfl
theorem tw4300912767227063761:0=0:=rfl
theorem tw16571613557424215682:0=0:=rfl
theorem tw11892562107169190111:0=0:=rfl
theorem tw10938589626852395934:0=0:=rfl
theorem tw18421021995626067246:0=0:=rfl
theorem tw13793774914101642331:0=0:=rfl
theorem tw5785759090239115512:0=0:=rfl
theorem tw3400378188255624169:0=0:=rfl
theorem tw6173009768017942899:0=0:=rfl
theorem tw4145868917473597624:0=0:=rfl
theorem tw7319424671423557444:0=0:=rfl
theorem tw17106970886984027485:0=0:=rfl
theorem tw5042683982449800963:0=0:=rfl
theorem tw4261701243235788426:0=0:=rfl
theorem tw5596748558205429486:0=0:=rfl
theorem tw9337609658648389897:0=0:=rfl
theorem tw7498020441820965001:0=0:=rfl
theorem tw11860362961680509978:0=0:=rfl
theorem tw8413853815644821551:0=0:=rfl
theorem tw7863508947894324954:0=0:=rfl
theorem tw3447711444183783998:0=0:=rfl
theorem tw1111709295919799103:0=0:=rfl
theorem tw5166671291049431684:0=0:=rfl
theorem tw16753258660631230466:0=0:=rfl
theorem tw2815858592835439110:0=0:=rfl
theorem tw4385320401464231113:0=0:=rfl
theorem tw6125550567614266273:0=0:=rfl
theorem tw6586429196943492724:0=0:=rfl
theorem tw7440232197908918047:0=0:=rfl
theorem tw614985153940936929:0=0:=rfl
theorem tw10907236112602392655:0=0:=rfl
theorem tw11601267114339627521:0=0:=rfl
theorem tw17014949203656075944:0=0:=rfl
theorem tw14671846837767610782:0=0:=rfl
theorem tw7126130151287989281:0=0:=rfl
theorem tw9642623393307828533:0=0:=rfl
theorem tw12035279638091141160:0=0:=rfl
theorem tw2805919458256102020:0=0:=rfl
theorem tw4877653509473620336:0=0:=rfl
theorem tw14343687512168504554:0=0:=rfl
theorem tw16192419700153433724:0=0:=rfl
theorem tw4176878829161731335:0=0:=rfl
theorem tw18216211087186237322:0=0:=rfl
theorem tw4221226368895703191:0=0:=rfl
theorem tw13941834957391093357:0=0:=rfl
theorem tw9611626731887707356:0=0:=rfl
theorem tw7837431027036364016:0=0:=rfl
theorem tw17250772788237310094:0=0:=rfl
theorem tw17581371694883553194:0=0:=rfl
theorem tw11231940598224576106:0=0:=rfl
theorem tw9726809171021335954:0=0:=rfl
theorem tw16630019971323937717:0=0:=rfl
theorem tw9928751862948829847:0=0:=rfl
theorem tw937270174655063596:0=0:=rfl
theorem tw12955753942632550589:0=0:=rfl
theorem tw8443053408994270819:0=0:=rfl
theorem tw1595569676199164936:0=0:=rfl
theorem tw17342336808294297083:0=0:=rfl
theorem tw3515506446665866398:0=0:=rfl
theorem tw3344564013902031286:0=0:=rfl
end PySem.W.Fast
set_option maxRecDepth 100000 in
set_option maxHeartbeats 0 in
theorem PySem.Challenge.cw_twinstride_k51_like_things_share_alike_holds : PySem.Challenge.rw_twinstride_k51_like_things_share_alike.Holds := by
 w_on;o_law;k_head;(case hw=>w_witness2)
 k_fill
 refine Tw.walk (l:=PySem.Challenge.rw_twinstride_k51_like_things_share_alike) rfl rfl (fun w h Y=>W.kIn_of Y) ?F
 case F=>
  intro w mg fa h KX G hmg;refine' Tw.Dc KX G hmg ..
  any_goals k_is
  any_goals (first|refine' L3.Nf.mk ?_ (L2.qk ?_ ?_ ?_)|refine' L3.Mf.mk ?_ ?_ (L2.qk ?_ ?_ ?_)|refine' L3.Af.mk ?_ (L2.qk ?_ ?_ ?_)|refine' L3.Ik ?_ ?_ ?_ ?_ ?_)
  any_goals k_is
  any_goals k_exc
