import PyProof.Rows.All
import Wide.All
import OpenK.AllK
import Wide.FinOn
import Lean
import PyProof.EqAt
import PyProof.EqKinds
import PyProof.TupleCall
import PySem.Challenge.RW_twinstride_k87_plans_read_again
set_option Elab.async false
set_option linter.all false
set_option maxRecDepth 100000
set_option maxHeartbeats 4000000
set_option compiler.extract_closed false
set_option Elab.async false
set_option linter.all false
set_option maxRecDepth 100000
namespace L2
open PySem PySem.Spec PyProof.Rows
noncomputable abbrev Key:=Sum Int Str
noncomputable def keyIs:Key->Value->Bool
 |.inl k,v=>Value.isInt k v
 |.inr x,v=>Value.isStrOf x v
noncomputable def keyH(w:World):Key->Int
 |.inl k=>hashInt k
 |.inr x=>hashStr w x
theorem keyIs_shape:∀{k:Key} {v:Value},keyIs k v=true->(∃i t,k=Sum.inl i/\v=Value.int i t)\/(∃x t,k=Sum.inr x/\v=Value.str x t)
 |.inl i,v,h=>by
  obtain ⟨t,e⟩:=Value.isInt_shape (k:=i) (v:=v) h;exact .inl ⟨i,t,rfl,e⟩
 |.inr x,v,h=>by
  obtain ⟨t,e⟩:=Value.isStrOf_shape (x:=x) (v:=v) h;exact .inr ⟨x,t,rfl,e⟩
theorem keyIs_int(i:Int)(t:Tok):keyIs (.inl i) (.int i t)=true:=by simp [keyIs,Value.isInt]
theorem keyIs_str(x:Str)(t:Tok):keyIs (.inr x) (.str x t)=true:=by simp [keyIs,Value.isStrOf]
theorem key_ll(a b:Int):decide ((Sum.inl a:Key)=Sum.inl b)=(a==b):=by
 by_cases e:a=b
 ·subst e;simp
 ·have h:¬(Sum.inl a:Key)=Sum.inl b:=fun q=>e (Sum.inl.inj q)
  rw [decide_eq_false h];exact (beq_eq_false_iff_ne.mpr e).symm
theorem key_rr(a b:Str):decide ((Sum.inr a:Key)=Sum.inr b)=decide (a=b):=by
 by_cases e:a=b
 ·subst e;simp
 ·have h:¬(Sum.inr a:Key)=Sum.inr b:=fun q=>e (Sum.inr.inj q)
  rw [decide_eq_false h,decide_eq_false e]
theorem key_lr(a:Int)(b:Str):decide ((Sum.inl a:Key)=Sum.inr b)=false:=decide_eq_false (fun q=>nomatch q)
theorem key_rl(a:Str)(b:Int):decide ((Sum.inr a:Key)=Sum.inl b)=false:=decide_eq_false (fun q=>nomatch q)
noncomputable def mixKind(prog:Program)(w:World):PySem.KeyKind prog w Key where
 is:=keyIs
 hash:=keyH w
 inj:=fun v a b ha hb=>by
  rcases keyIs_shape ha with ⟨i,t,rfl,rfl⟩|⟨x,t,rfl,rfl⟩
  ·rcases keyIs_shape hb with ⟨j,u,rfl,e⟩|⟨y,u,rfl,e⟩
   ·injection e with e1 _;rw [e1]
   ·exact nomatch e
  ·rcases keyIs_shape hb with ⟨j,u,rfl,e⟩|⟨y,u,rfl,e⟩
   ·exact nomatch e
   ·injection e with e1 _;rw [e1]
 byValue:=fun k v h=>by
  rcases keyIs_shape h with ⟨i,t,rfl,rfl⟩|⟨x,t,rfl,rfl⟩<;>rfl
 pyHash:=fun hv h=>by
  rcases keyIs_shape hv with ⟨i,t,rfl,rfl⟩|⟨x,t,rfl,rfl⟩
  ·exact wpAny_pyHash_int h
  ·exact wpAny_pyHash_str h
 eqBool:=fun hu hv h=>by
  rcases keyIs_shape hu with ⟨i,t,rfl,rfl⟩|⟨x,t,rfl,rfl⟩
  ·rcases keyIs_shape hv with ⟨j,u,rfl,rfl⟩|⟨y,u,rfl,rfl⟩
   ·rw [key_ll] at h;exact wpAny_eqBool_int h
   ·rw [key_lr] at h;exact SeqAt.EqAt.int_str i t y u _ _ _ _ h
  ·rcases keyIs_shape hv with ⟨j,u,rfl,rfl⟩|⟨y,u,rfl,rfl⟩
   ·rw [key_rl] at h;exact SeqAt.EqAt.str_int x t j u _ _ _ _ h
   ·rw [key_rr] at h;exact wpAny_eqBool_str h
 «strs»:=fun k x t v h=>by
  rcases keyIs_shape h with ⟨i,u,rfl,e⟩|⟨y,u,rfl,e⟩
  ·exact nomatch e
  ·injection e with e1 _
   subst e1;cases v<;>rfl
theorem mixKind_int(prog:Program)(w:World)(i:Int)(t:Tok):(mixKind prog w).is (.inl i) (.int i t)=true:=keyIs_int i t
theorem mixKind_str(prog:Program)(w:World)(x:Str)(t:Tok):(mixKind prog w).is (.inr x) (.str x t)=true:=keyIs_str x t
end L2
namespace L2
open PySem PySem.Spec PyProof.Rows
inductive V where
 |non|bl (b:Bool)|int (i:Int)|str (x:Str)|byt (b:Array UInt8)|flt (b:UInt64)|ref (a:Addr)|ty (n:String)
 deriving DecidableEq
noncomputable def RelV:V->Value->Prop
 |.non,u=>u=Value.none
 |.bl b,u=>u=Value.bool b
 |.int i,u=>∃t,u=Value.int i t
 |.str x,u=>∃t,u=Value.str x t
 |.byt b,u=>∃t,u=Value.bytes b t
 |.flt b,u=>∃t,u=Value.float b t
 |.ref a,u=>u=Value.ref a
 |.ty n,u=>u=Value.type n
noncomputable abbrev Vals:List V->List Value->Prop:=Paired RelV
theorem Vals.length{xs:List V}{us:List Value}(r:Vals xs us):xs.length=us.length:=Paired.length r
theorem Vals.get:∀{xs:List V} {us:List Value} {i:Nat} {x:V},Vals xs us->xs[i]?=some x->∃u,us[i]?=some u/\RelV x u
 |_,_,_,_,.nil,e=>by simp at e
 |_,_,0,_,.cons r _,e=>by simp at e;subst e;exact ⟨_,rfl,r⟩
 |_,_,i+1,x,.cons _ t,e=>by
  obtain ⟨u,h1,h2⟩:=Vals.get (i:=i) (x:=x) t (by simpa using e)
  exact ⟨u,by simpa using h1,h2⟩
theorem Vals.set{x:V}{u:Value}(r:RelV x u):∀{xs:List V} {us:List Value} (i:Nat),Vals xs us->Vals (xs.set i x) (us.set i u)
 |_,_,_,.nil=>.nil
 |_,_,0,.cons _ t=>.cons r t
 |_,_,i+1,.cons q t=>.cons q (Vals.set r i t)
theorem Vals.append:∀{xs ys:List V} {us ws:List Value},Vals xs us->Vals ys ws->Vals (xs++ys) (us++ws)
 |_,_,_,_,.nil,s=>s
 |_,_,_,_,.cons r t,s=>.cons r (Vals.append t s)
theorem Vals.take:∀{xs:List V} {us:List Value} (n:Nat),Vals xs us->Vals (xs.take n) (us.take n)
 |_,_,0,_=>.nil
 |_,_,_+1,.nil=>.nil
 |_,_,n+1,.cons r t=>.cons r (Vals.take n t)
theorem Vals.drop:∀{xs:List V} {us:List Value} (n:Nat),Vals xs us->Vals (xs.drop n) (us.drop n)
 |_,_,0,r=>r
 |_,_,_+1,.nil=>.nil
 |_,_,n+1,.cons _ t=>Vals.drop n t
noncomputable def RelO:Option V->Option Value->Prop
 |some v,some u=>RelV v u
 |none,none=>True
 |_,_=>False
noncomputable def KV{κ:Type}:List (κ×V)->List (κ×Value)->Prop:=Paired fun (p:κ×V) (q:κ×Value)=>p.1=q.1/\RelV p.2 q.2
noncomputable def kV:Key->V
 |.inl i=>.int i
 |.inr x=>.str x
inductive HO where
  |lst (xs:List V)
  |tup (xs:List V)
  |dK (kvs:List (Key×V))|dT (kvs:List (List Key×V))
  |set (S:Int->Bool) (n:Nat)
  |ins (C dx:Addr) (fs:List (Str×V))
  |own (x:Addr)
  |xd (fs:List (Str×V))
  |met (f x:Addr)
  |rng (lo hi:Int)
  |frz (o:Obj) (u:HO)
  |tbl (ps:Array Value)
  |ext (φ:Heap->Prop)
noncomputable abbrev Hp:=Addr->Option HO
noncomputable def upd(H:Hp)(a:Addr)(o:HO):Hp:=fun b=>if b=a then some o else H b
theorem upd_same{H:Hp}{a:Addr}{o:HO}:upd H a o a=some o:=by unfold upd;rw [if_pos rfl]
theorem upd_ne{H:Hp}{a b:Addr}{o:HO}(h:b≠a):upd H a o b=H b:=by unfold upd;rw [if_neg h]
theorem ne_of{H:Hp}{a b:Addr}{o u:HO}(h:H a=some o)(h':H b=some u)(d:o≠u):a≠b:=by
 intro e;subst e;rw [h] at h';exact d (Option.some.inj h')
theorem ne_of_none{H:Hp}{a b:Addr}{o:HO}(h:H a=some o)(h':H b=none):a≠b:=by
 intro e;subst e;rw [h] at h';cases h'
section
variable (P:Program)(w:World)
noncomputable def ObjOk(H:Hp)(h:Heap)(a:Addr):HO->Prop
 |.lst xs=>xs.length<=sizeLine/\∃(its:List Value) (n:Nat),Vals xs its/\h.get? a=some { cls:=.type "list",data:=.seq its.toArray n }
 |.tup xs=>xs.length<=sizeLine/\∃its:List Value,Vals xs its/\∃o,h.get? a=some o/\(o.cls=.type "tuple"/\∃n,o.data=.seq its.toArray n)/\o.dict=none
 |.dK kvs=>kvs.length<=sizeLine/\(a==sysModules)=false/\∃vs,KV kvs vs/\h.DictOf (mixKind P w) a vs
 |.dT kvs=>kvs.length<=sizeLine/\(a==sysModules)=false/\∃xs:List (List Key×Addr×Value),
   Paired (fun (p:List Key×V) (q:List Key×Addr×Value)=>p.1=q.1/\H q.2.1=some (.tup (p.1.map kV))/\RelV p.2 q.2.2) kvs xs/\
   ∃o es ep,h.get? a=some o/\o.ExactDict/\o.data=.dict es ep/\es.toList=xs.map (entryOfKey (tupleKind (mixKind P w)))/\(xs.map (·.1)).Nodup
 |.set S n=>h.SetOf (intKind P w) a S n
 |.ins C dx fs=>H dx=some (.own a)/\fs.length<=1000/\dx≠a/\h.get? a=some (PySem.W.instObj C dx)/\
   ∃mA,h.Ns1 dx mA/\(∀f,RelO (fs.lookup f) (mA f))/\PySem.Within mA (fs.map (·.1))
 |.own _=>∃o,h.get? a=some o
 |.xd fs=>∃mA,h.Ns1 a mA/\∀f,RelO (fs.lookup f) (mA f)
 |.rng lo hi=>∃t u v,h.get? a=some { cls:=.type "range",data:=.fields #[.int lo t,.int hi u,.int 1 v] }
 |.frz o u=>h.get? a=some o/\ObjOk H h a u
 |.tbl ps=>h.get? a=some { cls:=.none,data:=.fields ps }
 |.met f x=>h.get? a=some (PySem.W.methodObj (.ref f) (.ref x))
 |.ext φ=>φ h/\(∃o,h.get? a=some o)/\∀h1 h2:Heap,φ h1->(∀o,h1.get? a=some o->h2.get? a=some o)->φ h2
noncomputable def HOk(H:Hp)(h:Heap):Prop:=∀a o,H a=some o->ObjOk P w H h a o
end
section
variable {P:Program}{w:World}{H H':Hp}{h h':Heap}{a:Addr}{o:HO}
theorem ObjOk.lt(x:ObjOk P w H h a o):a<h.objs.size:=by
 cases o with
 |lst xs=>obtain ⟨_,_,_,_,e⟩:=x;exact Heap.lt_size e
 |tup xs=>obtain ⟨_,_,_,_,e,_⟩:=x;exact Heap.lt_size e
 |dK kvs=>obtain ⟨_,_,_,_,o,_,_,e,_⟩:=x;exact Heap.lt_size e
 |dT kvs=>obtain ⟨_,_,_,_,o,_,_,e,_⟩:=x;exact Heap.lt_size e
 |set S n=>obtain ⟨o,_,_,_,e,_⟩:=x;exact Heap.lt_size e
 |ins C dx fs=>obtain ⟨_,_,_,e,_⟩:=x;exact Heap.lt_size e
 |own y=>obtain ⟨_,e⟩:=x;exact Heap.lt_size e
 |xd fs=>obtain ⟨_,⟨_,_,_,e,_⟩,_⟩:=x;exact Heap.lt_size e
 |rng lo hi=>obtain ⟨_,_,_,e⟩:=x;exact Heap.lt_size e
 |frz ob u=>obtain ⟨e,_⟩:=x;exact Heap.lt_size e
 |tbl ps=>exact Heap.lt_size (show h.get? a=some _ from x)
 |met f y=>exact Heap.lt_size (show h.get? a=some _ from x)
 |ext φ=>obtain ⟨_,⟨_,e⟩,_⟩:=x;exact Heap.lt_size e
theorem Paired.mapP{α β:Type}{F G:α->β->Prop}:∀{l₁:List α} {l₂:List β},Paired F l₁ l₂->(∀a b,F a b->G a b)->Paired G l₁ l₂
 |_,_,.nil,_=>.nil
 |_,_,.cons r t,f=>.cons (f _ _ r) (Paired.mapP t f)
theorem ObjOk.stay(x:ObjOk P w H h a o)(k:∀b u,(b=a\/H b=some (.own a))->h.get? b=some u->h'.get? b=some u)
  (ho:∀b,H b=some (.own a)->H' b=some (.own a)) (ht:∀b xs,H b=some (.tup xs)->H' b=some (.tup xs)):ObjOk P w H' h' a o:=by
 induction o with
 |lst xs=>obtain ⟨z,its,n,r,e⟩:=x;exact ⟨z,its,n,r,k _ _ (.inl rfl) e⟩
 |tup xs=>obtain ⟨z,its,r,ob,e,c⟩:=x;exact ⟨z,its,r,ob,k _ _ (.inl rfl) e,c⟩
 |dK kvs=>obtain ⟨z,y,vs,r,ob,es,ep,e,c⟩:=x;exact ⟨z,y,vs,r,ob,es,ep,k _ _ (.inl rfl) e,c⟩
 |dT kvs=>
  obtain ⟨z,y,xs,r,ob,es,ep,e,c⟩:=x;exact ⟨z,y,xs,Paired.mapP r fun p q z=>⟨z.1,ht _ _ z.2.1,z.2.2⟩,ob,es,ep,k _ _ (.inl rfl) e,c⟩
 |set S n=>obtain ⟨ob,es,ep,t,e,c⟩:=x;exact ⟨ob,es,ep,t,k _ _ (.inl rfl) e,c⟩
 |ins C dx fs=>
  obtain ⟨d,z,ne,e,mA,⟨od,es,ep,e2,c⟩,r⟩:=x;exact ⟨ho _ d,z,ne,k _ _ (.inl rfl) e,mA,⟨od,es,ep,k _ _ (.inr d) e2,c⟩,r⟩
 |own y=>obtain ⟨ob,e⟩:=x;exact ⟨ob,k _ _ (.inl rfl) e⟩
 |xd fs=>obtain ⟨mA,⟨od,es,ep,e,c⟩,r⟩:=x;exact ⟨mA,⟨od,es,ep,k _ _ (.inl rfl) e,c⟩,r⟩
 |rng lo hi=>obtain ⟨t,u,v,e⟩:=x;exact ⟨t,u,v,k _ _ (.inl rfl) e⟩
 |frz ob u ih=>obtain ⟨e,q⟩:=x;exact ⟨k _ _ (.inl rfl) e,ih q⟩
 |tbl ps=>
  have e:h.get? a=some { cls:=.none,data:=.fields ps }:=x;show h'.get? a=some { cls:=.none,data:=.fields ps };exact k a _ (.inl rfl) e
 |met f y=>
  have e:h.get? a=some (PySem.W.methodObj (.ref f) (.ref y)):=x;show h'.get? a=some (PySem.W.methodObj (.ref f) (.ref y));exact k a _ (.inl rfl) e
 |ext φ=>obtain ⟨p,⟨o,e⟩,st⟩:=x;exact ⟨st _ _ p fun o q=>k _ _ (.inl rfl) q,⟨o,k _ _ (.inl rfl) e⟩,st⟩
theorem HOk.lt(x:HOk P w H h)(e:H a=some o):a<h.objs.size:=(x a o e).lt
theorem HOk.fresh(x:HOk P w H h)(e:h.objs.size<=a):H a=none:=by
 cases q:H a with
 |none=>rfl
 |some u=>exact absurd (Nat.lt_of_lt_of_le (x.lt q) e) (Nat.lt_irrefl _)
theorem HOk.kept(x:HOk P w H h)(k:∀b u,h.get? b=some u->h'.get? b=some u):HOk P w H h':=fun a o e=>
 (x a o e).stay (fun b u _ q=>k b u q) (fun _ q=>q) fun _ _ q=>q
theorem HOk.laid(x:HOk P w H h)(k:∀b u,h.get? b=some u->h'.get? b=some u)(hp:h.objs.size<=a)(new:ObjOk P w (upd H a o) h' a o):HOk P w (upd H a o) h':=fun b u e=>by
 have hn:=x.fresh hp
 by_cases hb:b=a
 ·subst hb;rw [upd_same] at e;cases e;exact new
 ·rw [upd_ne hb] at e
  exact (x b u e).stay (fun c v _ q=>k c v q) (fun c q=>by rw [upd_ne (ne_of_none q hn)];exact q) fun c xs q=>by rw [upd_ne (ne_of_none q hn)];exact q
end
noncomputable def Rd(H:Hp)(a:Addr)(u:HO):Prop:=H a=some u\/∃o,H a=some (.frz o u)
theorem Rd.ok{P:Program}{w:World}{H:Hp}{h:Heap}{a:Addr}{u:HO}(r:Rd H a u)(x:HOk P w H h):ObjOk P w H h a u:=by
 rcases r with r|⟨o,r⟩
 ·exact x a u r
 ·obtain ⟨_,q⟩:=x a _ r
  exact q
noncomputable def Mut:Option HO->Prop
 |some (.lst _)=>True
 |some (.dK _)=>True
 |some (.dT _)=>True
 |some (.set _ _)=>True
 |some (.ins _ _ _)=>True
 |some (.ext _)=>True
 |_=>False
section
variable {P:Program}{w:World}{H:Hp}{h h':Heap}{x e:Addr}{o':HO}
theorem HOk.write(ok:HOk P w H h)(mu:Mut (H x))(he:e=x\/H e=some (.own x))(k:∀b u,b≠e->h.get? b=some u->h'.get? b=some u)(heo:∃u,h'.get? e=some u)
  (new:ObjOk P w (upd H x o') h' x o'):HOk P w (upd H x o') h':=fun b u q=>by
 have nown:∀c y,H c=some (.own y)->c≠x:=fun c y r z=>by subst z;rw [r] at mu;exact mu
 have ntup:∀c xs,H c=some (.tup xs)->c≠x:=fun c xs r z=>by subst z;rw [r] at mu;exact mu
 by_cases hb:b=x
 ·subst hb;rw [upd_same] at q;cases q;exact new
 ·rw [upd_ne hb] at q
  by_cases hbe:b=e
  ·have q':H b=some (.own x):=by
    rcases he with z|z
    ·exact absurd (hbe.trans z) hb
    ·rw [hbe];exact z
   rw [q] at q';cases q';obtain ⟨v,hv⟩:=heo;exact ⟨v,by rw [hbe];exact hv⟩
  ·refine (ok b u q).stay (fun c v hc r=>k c v ?_ r) (fun c r=>by rw [upd_ne (nown c b r)];exact r) fun c xs r=>by rw [upd_ne (ntup c xs r)];exact r
   rcases hc with rfl|hc
   ·exact hbe
   ·rintro rfl
    rcases he with z|z
    ·exact nown c b hc z
    ·rw [hc] at z;cases z;exact hb rfl
end
structure Un(fs ex:List Addr)(H H':Hp)(h h':Heap):Prop where
 keep:∀b o,h.get? b=some o->H b=none->b∉fs->b∉ex->h'.get? b=some o
 slot:∀b o,h.get? b=some o->H b=none->b∈fs->b∉ex->∃sl,h'.get? b=some { o with slots:=sl }
 free:∀b o,h.get? b=some o->H b=none->b∉ex->H' b=none
 there:∀b o,h.get? b=some o->b∉ex->∃o',h'.get? b=some o'
 tups:∀b xs,H b=some (.tup xs)->H' b=some (.tup xs)
 frzs:∀b o u,H b=some (.frz o u)->H' b=some (.frz o u)
 tbls:∀b ps,H b=some (.tbl ps)->∃more,H' b=some (.tbl (ps++more))
section
variable {fs fs' ex ex':List Addr}{H H1 H2:Hp}{h h1 h2 h':Heap}{a x e:Addr}{o:HO}
theorem Un.any(u:Un fs ex H H1 h h1){b:Addr}{ob:Obj}(q:h.get? b=some ob)(n:H b=none)(hx:b∉ex):∃sl,h1.get? b=some { ob with slots:=sl }:=by
 by_cases hb:b∈fs
 ·exact u.slot b ob q n hb hx
 ·exact ⟨ob.slots,u.keep b ob q n hb hx⟩
theorem Un.kept(k:∀b u,h.get? b=some u->h'.get? b=some u):Un fs ex H H h h':=
 ⟨fun b ob q _ _ _=>k b ob q,fun b ob q _ _ _=>⟨ob.slots,k b ob q⟩,fun _ _ _ n _=>n,fun b ob q _=>⟨ob,k b ob q⟩,fun _ _ q=>q,fun _ _ _ q=>q,fun _ ps q=>⟨#[],by rw [q];simp⟩⟩
theorem Un.refl:Un fs ex H H h h:=Un.kept fun _ _ q=>q
theorem Un.laid(k:∀b u,h.get? b=some u->h'.get? b=some u)(hp:h.objs.size<=a)(hn:H a=none):Un fs ex H (upd H a o) h h' where
 keep:=fun b u q _ _ _=>k b u q
 slot:=fun b u q _ _ _=>⟨u.slots,k b u q⟩
 free:=fun b u q n _=>by rw [upd_ne (Nat.ne_of_lt (Nat.lt_of_lt_of_le (Heap.lt_size q) hp))];exact n
 there:=fun b u q _=>⟨u,k b u q⟩
 tups:=fun b xs q=>by rw [upd_ne (ne_of_none q hn)];exact q
 frzs:=fun b u xs q=>by rw [upd_ne (ne_of_none q hn)];exact q
 tbls:=fun b ps q=>⟨#[],by rw [upd_ne (ne_of_none q hn),q];simp⟩
theorem Un.write(mu:Mut (H x))(he:e=x\/H e=some (.own x))(k:∀b u,b≠e->h.get? b=some u->h'.get? b=some u)(heo:∃u,h'.get? e=some u):Un fs ex H (upd H x o) h h':=by
 have hx:∀b,H b=none->b≠x:=fun b n z=>by subst z;rw [n] at mu;exact mu
 have hb:∀b,H b=none->b≠e:=fun b n z=>by
  subst z;rcases he with r|r
  ·exact hx b n r
  ·rw [n] at r;cases r
 have hm:∀b u,H b=some u->¬Mut (some u)->b≠x:=fun b u q nm z=>by subst z;rw [q] at mu;exact nm mu
 refine ⟨fun b u q n _ _=>k b u (hb b n) q,fun b u q n _ _=>⟨u.slots,k b u (hb b n) q⟩,fun b u q n _=>by rw [upd_ne (hx b n)];exact n,fun b u q _=>?_,
  fun b xs q=>by rw [upd_ne (hm b _ q fun z=>z)];exact q,fun b u xs q=>by rw [upd_ne (hm b _ q fun z=>z)];exact q,fun b ps q=>⟨#[],by rw [upd_ne (hm b _ q fun z=>z),q];simp⟩⟩
 by_cases hbe:b=e
 ·subst hbe;exact heo
 ·exact ⟨u,k b u hbe q⟩
end
noncomputable def trk(h:Heap)(H:Hp):List Addr:=(List.range h.objs.size).filter fun a=>(H a).isSome
noncomputable def hidT(h:Heap)(H:Hp):Heap:=PySem.W.hideAll h (trk h H)
theorem hidT_size(h:Heap)(H:Hp):(hidT h H).objs.size=h.objs.size:=PySem.W.hideAll_size _ _
theorem hidT_get{h:Heap}{H:Hp}{b:Addr}{o:Obj}(e:h.get? b=some o)(n:H b=none):(hidT h H).get? b=some o:=
 PySem.W.hideAll_get _ e fun hm=>by
  have q:(H b).isSome=true:=(List.mem_filter.mp hm).2;rw [n] at q;simp at q
theorem of_hidT{h:Heap}{H:Hp}{b:Addr}{o:Obj}(e:(hidT h H).get? b=some o):h.get? b=some o/\H b=none:=by
 have e':h.get? b=some o:=PySem.W.of_hideAll (trk h H) e;refine ⟨e',?_⟩;cases q:H b with
 |none=>rfl
 |some x=>
  have hm:b∈trk h H:=List.mem_filter.mpr ⟨List.mem_range.mpr (Heap.lt_size e'),by simp [q]⟩
  have z:(hidT h H).get? b=none:=PySem.W.hideAll_none (trk h H) hm;rw [z] at e;cases e
end L2
namespace L2
open PySem PySem.Spec PyProof.Rows
structure Mod(K:PySem.W.Frag)(mg:Str->Option Value)(base:Heap):Prop where
 kin:K.In base
 glob:base.Ns mainGlobals mg
 blt:∃mb,base.Ns builtinsNs mb/\∀x:Str,x≠"__name__"->mb x=bootBuiltins x
 nolimit:base.NoLimit
structure Cx where
 prog:Program
 w:World
 K:PySem.W.Frag
 mg:Str->Option Value
 base:Heap
 A:Around
 N:List Str
 s₀:Shared
 H₀:Hp
 env:Env
 outer:List Env
 stack:List Env
 ex:List Addr
 fn:Str->Bool
 calm:Bool
 pn:List (Addr×Obj)
 xe:Value->Shared->Prop
noncomputable def frs(l:List Env):List Addr:=l.filterMap (·.frame)
noncomputable abbrev Cx.fs(X:Cx):List Addr:=frs X.outer
noncomputable def Vis(sc:Scope)(x:Str):Prop:=sc.names.lookup x=some .local\/sc.names.lookup x=some .cell\/sc.names.lookup x=some .free
noncomputable def Loc(sc:Scope)(x:Str):Prop:=sc.names.lookup x=some .local\/sc.names.lookup x=some .cell
noncomputable def Look(env:Env)(h:Heap)(m:Str->Option Value)(x:Str)(u:Value):Prop:=
 (env.kindOf x=some .local/\m x=some u)\/((env.kindOf x=some .cell\/env.kindOf x=some .free)/\∃c,env.cells.lookup x=some c/\h.IsCell c (some u))
structure Cx.Ok(X:Cx):Prop where
 mod:Mod X.K X.mg X.base
 kind:X.env.scope.kind=.function
 glob:X.env.globals=mainGlobals
 blt:X.env.builtins=builtinsNs
 above:X.s₀.heap.objs.size<=X.env.locals
 inj:∀x y c,X.env.cells.lookup x=some c->X.env.cells.lookup y=some c->x=y
 has:∀x,(X.env.kindOf x=some .cell\/X.env.kindOf x=some .free)->∃c,X.env.cells.lookup x=some c
 cab:∀x c,X.fn x=true->X.env.cells.lookup x=some c->X.s₀.heap.objs.size<=c
 hd:X.calm=true->X.A.handled=none
 frames:X.A.frames=some X.stack
 stk:X.stack=X.outer\/(X.stack=X.env::X.outer/\X.env.frame=some X.env.locals)
 exf:∀b∈X.ex,b≠X.env.locals/\∀x c,X.env.cells.lookup x=some c->c≠b
 bs:∀b o,X.base.get? b=some o->X.s₀.heap.get? b=some o/\X.H₀ b=none
 bsz:X.base.objs.size<=X.s₀.heap.objs.size
 noex:∀b o,X.base.get? b=some o->b∉X.ex
 exfs:∀b∈X.ex,b∉X.fs
 funs:X.s₀.heap.FunFrames X.base X.outer
 frf:∀b∈X.fs,X.H₀ b=none
structure Inv(X:Cx)(pins:List (Addr×Obj))(σ:List (Option V))(H:Hp)(s:Shared):Prop where
 ok:X.Ok
 os:s.os=X.s₀.os
 bare:AllBare s.gens
 base:Un X.fs X.ex X.H₀ H X.s₀.heap s.heap
 loc:∃m,s.heap.Ns X.env.locals m/\∀(i:Nat) (x:Str) (v:V),X.N[i]?=some x->σ[i]?=some (some v)->Vis X.env.scope x->∃u,RelV v u/\Look X.env s.heap m x u
 cell:∀x c,X.env.cells.lookup x=some c->∃v,s.heap.IsCell c v
 free:H X.env.locals=none
 freeC:∀x c,X.env.cells.lookup x=some c->H c=none
 pin:∀p∈X.pn++pins,s.heap.get? p.1=some p.2/\H p.1=none/\p.1≠X.env.locals/\p.1∉X.fs/\∀v,p.2.data≠.cell v
 hok:HOk X.prog X.w H s.heap
 len:σ.length=X.N.length
section
variable {X:Cx}{pins:List (Addr×Obj)}{σ:List (Option V)}{H H':Hp}{s:Shared}{h':Heap}
theorem Cx.Ok.nofr(ok:X.Ok){b:Addr}{o:Obj}(e:X.base.get? b=some o):b∉X.fs:=fun hb=>by
 have:=(ok.funs.mem hb).1;rw [e] at this;cases this
theorem Inv.bs(I:Inv X pins σ H s):∀b o,X.base.get? b=some o->s.heap.get? b=some o/\H b=none:=fun b o e=>
 ⟨I.base.keep b o (I.ok.bs b o e).1 (I.ok.bs b o e).2 (I.ok.nofr e) (I.ok.noex b o e),I.base.free b o (I.ok.bs b o e).1 (I.ok.bs b o e).2 (I.ok.noex b o e)⟩
theorem Inv.bk(I:Inv X pins σ H s):∀b o,X.base.get? b=some o->s.heap.get? b=some o:=fun b o e=>(I.bs b o e).1
theorem Inv.mod(I:Inv X pins σ H s):Mod X.K X.mg X.base:=I.ok.mod
theorem Inv.kIn(I:Inv X pins σ H s):X.K.In s.heap:=I.ok.mod.kin.keeps I.bk
theorem Inv.lt(I:Inv X pins σ H s):X.env.locals<s.heap.objs.size:=let ⟨_,hn,_⟩:=I.loc;hn.lt
theorem Inv.sz(I:Inv X pins σ H s):X.s₀.heap.objs.size<=s.heap.objs.size:=Nat.le_trans I.ok.above (Nat.le_of_lt I.lt)
theorem Inv.nofs(I:Inv X pins σ H s){a:Addr}(h:s.heap.objs.size<=a):a∉X.fs:=fun hb=>by
 obtain ⟨_,o,ho,_⟩:=I.ok.funs.mem hb;exact absurd (Nat.lt_of_lt_of_le (Heap.lt_size ho) (Nat.le_trans I.sz h)) (Nat.lt_irrefl _)
theorem Inv.cne(I:Inv X pins σ H s):∀x c,X.env.cells.lookup x=some c->c≠X.env.locals:=fun x c e z=>by
 obtain ⟨v,o,ho,hd⟩:=I.cell x c e;obtain ⟨m,⟨o',es,ep,ho',hd',_⟩,_⟩:=I.loc;rw [z,ho'] at ho;cases ho;rw [hd'] at hd;cases hd
theorem Inv.funs(I:Inv X pins σ H s):s.heap.FunFrames X.base X.outer:=by
 have all:∀(l:List Env),(∀b∈frs l,b∈X.fs)->X.s₀.heap.FunFrames X.base l->s.heap.FunFrames X.base l:=by
  intro l
  induction l with
  |nil=>intro _ _;trivial
  |cons env r ih=>
   intro hs hl;obtain ⟨hk,⟨L,o,hf,hn,ho,hd⟩,hr⟩:=hl;have hL:L∈X.fs:=hs L (by unfold frs;rw [List.filterMap_cons,hf];exact List.mem_cons_self)
   obtain ⟨sl,e⟩:=I.base.slot L o ho (I.ok.frf L hL) hL fun z=>I.ok.exfs L z hL;exact ⟨hk,⟨L,_,hf,hn,e,hd⟩,ih (fun b hb=>hs b (by unfold frs;rw [List.filterMap_cons,hf];exact List.mem_cons_of_mem _ hb)) hr⟩
 exact all X.outer (fun _ hb=>hb) I.ok.funs
theorem Inv.stack(I:Inv X pins σ H s):s.heap.FunFrames X.base X.stack:=by
 rcases I.ok.stk with e|⟨e,hf⟩
 ·rw [e];exact I.funs
 ·rw [e]
  obtain ⟨m,hn,_⟩:=I.loc;refine .cons (by rw [I.ok.kind];decide) hf hn ?_ I.funs
  exact Heap.get?_none_of_le (Nat.le_trans I.ok.bsz I.ok.above)
theorem Inv.stkSub(I:Inv X pins σ H s):∀b∈frs X.stack,b∈X.env.locals::X.fs:=fun b hb=>by
 rcases I.ok.stk with e|⟨e,hf⟩
 ·rw [e] at hb;exact List.mem_cons_of_mem _ hb
 ·rw [e] at hb
  unfold frs at hb;rw [List.filterMap_cons,hf] at hb;exact hb
theorem Inv.stkFree(I:Inv X pins σ H s):∀b∈frs X.stack,H b=none:=fun b hb=>by
 rcases List.mem_cons.mp (I.stkSub b hb) with e|hb
 ·rw [e];exact I.free
 ·obtain ⟨_,o,ho,_⟩:=I.ok.funs.mem hb
  exact I.base.free b o ho (I.ok.frf b hb) fun z=>I.ok.exfs b z hb
theorem Inv.step{g':Array GenState}{t':Nat}{d':Drawn}{ch:List Addr}(I:Inv X pins σ H s)
  (hch:∀b∈ch,(b∈X.ex\/X.s₀.heap.objs.size<=b)/\b≠X.env.locals/\(∀x c,X.env.cells.lookup x=some c->c≠b)/\∀p∈X.pn++pins,p.1≠b)
  (keep:∀b o,b≠X.env.locals->b∉X.fs->b∉ch->s.heap.get? b=some o->H b=none->h'.get? b=some o)
  (slot:∀b o,b≠X.env.locals->b∈X.fs->b∉ch->s.heap.get? b=some o->H b=none->∃sl,h'.get? b=some { o with slots:=sl }) (free:∀b o,b∉ch->s.heap.get? b=some o->H b=none->H' b=none)
  (there:∀b o,b∉ch->s.heap.get? b=some o->∃o',h'.get? b=some o')
  (tups:∀b xs,H b=some (.tup xs)->H' b=some (.tup xs)) (frzs:∀b o u,H b=some (.frz o u)->H' b=some (.frz o u)) (tbls:∀b ps,H b=some (.tbl ps)->∃more,H' b=some (.tbl (ps++more)))
  (ns:∀m,s.heap.Ns X.env.locals m->h'.Ns X.env.locals m) (hok:HOk X.prog X.w H' h') (hg:AllBare g'):
  Inv X pins σ H' { s with heap:=h',gens:=g',drawn:=d',toks:=t' }:=by
 have neL:∀b o,X.s₀.heap.get? b=some o->b≠X.env.locals:=fun b o e=>Nat.ne_of_lt (Nat.lt_of_lt_of_le (Heap.lt_size e) I.ok.above);have neC:∀b o,X.s₀.heap.get? b=some o->b∉X.ex->b∉ch:=fun b o e hx hb=>by
  rcases (hch b hb).1 with z|z
  ·exact hx z
  ·exact absurd (Nat.lt_of_lt_of_le (Heap.lt_size e) z) (Nat.lt_irrefl _)
 have cellK:∀x c,X.env.cells.lookup x=some c->∀v,s.heap.IsCell c v->h'.IsCell c v:=fun x c e v ⟨o,ho,hd⟩=>by
  have nch:c∉ch:=fun z=>(hch c z).2.2.1 x c e rfl
  by_cases hc:c∈X.fs
  ·obtain ⟨sl,q⟩:=slot c o (I.cne x c e) hc nch ho (I.freeC x c e)
   exact ⟨_,q,hd⟩
  ·exact ⟨o,keep c o (I.cne x c e) hc nch ho (I.freeC x c e),hd⟩
 refine ⟨I.ok,I.os,hg,⟨fun b o e n hb hx=>?_,fun b o e n hb hx=>?_,fun b o e n hx=>?_,fun b o e hx=>?_,fun b xs e=>tups b xs (I.base.tups b xs e),fun b o xs e=>frzs b o xs (I.base.frzs b o xs e),fun b ps e=>?_⟩,?_,fun x c e=>?_,?_,fun x c e=>?_,fun p hp=>?_,hok,I.len⟩
 ·exact keep b o (neL b o e) hb (neC b o e hx) (I.base.keep b o e n hb hx) (I.base.free b o e n hx)
 ·obtain ⟨sl,e1⟩:=I.base.slot b o e n hb hx
  obtain ⟨sl',e2⟩:=slot b _ (neL b o e) hb (neC b o e hx) e1 (I.base.free b o e n hx);exact ⟨sl',e2⟩
 ·obtain ⟨o',e1⟩:=I.base.there b o e hx
  exact free b o' (neC b o e hx) e1 (I.base.free b o e n hx)
 ·obtain ⟨o',e1⟩:=I.base.there b o e hx
  exact there b o' (neC b o e hx) e1
 ·obtain ⟨m1,e1⟩:=I.base.tbls b ps e
  obtain ⟨m2,e2⟩:=tbls b _ e1;exact ⟨m1++m2,by rw [e2,Array.append_assoc]⟩
 ·obtain ⟨m,hn,hl⟩:=I.loc
  refine ⟨m,ns m hn,fun i x v e1 e2 e3=>?_⟩;obtain ⟨u,r,l⟩:=hl i x v e1 e2 e3;refine ⟨u,r,?_⟩;rcases l with l|⟨k,c,e,z⟩
  ·exact .inl l
  ·exact .inr ⟨k,c,e,cellK x c e _ z⟩
 ·obtain ⟨v,z⟩:=I.cell x c e
  exact ⟨v,cellK x c e v z⟩
 ·obtain ⟨m,⟨o,_,_,ho,_⟩,_⟩:=I.loc
  exact free _ o (fun z=>(hch _ z).2.1 rfl) ho I.free
 ·obtain ⟨v,o,ho,hd⟩:=I.cell x c e
  exact free c o (fun z=>(hch c z).2.2.1 x c e rfl) ho (I.freeC x c e)
 ·obtain ⟨e,n,ne,nf,d⟩:=I.pin p hp
  have nch:p.1∉ch:=fun z=>(hch p.1 z).2.2.2 p hp rfl;exact ⟨keep p.1 p.2 ne nf nch e n,free p.1 p.2 nch e n,ne,nf,d⟩
theorem Inv.un{t':Nat}(I:Inv X pins σ H s)(u:Un X.fs [] H H' s.heap h')(hok:HOk X.prog X.w H' h'):Inv X pins σ H' { s with heap:=h',toks:=t' }:=by
 obtain ⟨m,⟨o,es,ep,ho,r⟩,_⟩:=id I.loc;obtain ⟨sl,hL⟩:=u.any ho I.free (by simp)
 exact I.step (g':=s.gens) (d':=s.drawn) (ch:=[]) (fun _ z=>nomatch z) (fun b o _ hb _ e n=>u.keep b o e n hb (by simp)) (fun b o _ hb _ e n=>u.slot b o e n hb (by simp)) (fun b o _ e n=>u.free b o e n (by simp)) (fun b o _ e=>u.there b o e (by simp)) u.tups u.frzs u.tbls (fun m' hm=>by
  obtain ⟨o',es',ep',ho',r'⟩:=hm;rw [ho] at ho';cases ho';exact ⟨_,es',ep',hL,r'⟩) hok I.bare
theorem Inv.call{g':Array GenState}{t':Nat}{d':Drawn}{ch:List Addr}(I:Inv X pins σ H s)(u:Un (frs X.stack) ch H H' s.heap h')(hok:HOk X.prog X.w H' h')(hg:AllBare g')
  (hch:∀b∈ch,(b∈X.ex\/X.s₀.heap.objs.size<=b)/\b≠X.env.locals/\(∀x c,X.env.cells.lookup x=some c->c≠b)/\∀p∈X.pn++pins,p.1≠b):
  Inv X pins σ H' { s with heap:=h',gens:=g',drawn:=d',toks:=t' }:=by
 obtain ⟨m,⟨o,es,ep,ho,r⟩,_⟩:=id I.loc;obtain ⟨sl,hL⟩:=u.any ho I.free fun z=>(hch _ z).2.1 rfl;exact I.step (ch:=ch) hch (fun b o hL hb hc e n=>u.keep b o e n (fun z=>(List.mem_cons.mp (I.stkSub b z)).elim hL hb) hc) (fun b o _ _ hc e n=>u.any e n hc) (fun b o hc e n=>u.free b o e n hc) (fun b o hc e=>u.there b o e hc) u.tups u.frzs u.tbls (fun m' hm=>by
  obtain ⟨o',es',ep',ho',r'⟩:=hm;rw [ho] at ho';cases ho';exact ⟨_,es',ep',hL,r'⟩) hok hg
theorem Inv.turned{t':Nat}{it:Addr}(I:Inv X pins σ H s)(k:∀b o,b≠it->s.heap.get? b=some o->h'.get? b=some o)(hn:H it=none)(hL:it≠X.env.locals)
  (h1:it∈X.ex\/X.s₀.heap.objs.size<=it) (h2:∀x c,X.env.cells.lookup x=some c->c≠it) (h3:∀p∈X.pn++pins,p.1≠it):Inv X pins σ H { s with heap:=h',toks:=t' }:=by
 have nit:∀b u,H b=some u->b≠it:=fun b u e z=>by rw [z,hn] at e;cases e
 refine I.step (g':=s.gens) (d':=s.drawn) (ch:=[it]) (fun b hb=>?_) (fun b o _ _ hc e _=>k b o (fun z=>hc (by simp [z])) e) (fun b o _ _ hc e _=>⟨o.slots,k b o (fun z=>hc (by simp [z])) e⟩) (fun _ _ _ _ n=>n)
  (fun b o hc e=>⟨o,k b o (fun z=>hc (by simp [z])) e⟩) (fun _ _ e=>e) (fun _ _ _ e=>e) (fun b ps e=>⟨#[],by rw [e];simp⟩) (fun m hm=>?_) (fun b u e=>?_) I.bare
 ·have e:b=it:=by simpa using hb
  subst e;exact ⟨h1,hL,h2,h3⟩
 ·obtain ⟨o,es,ep,ho,r⟩:=hm
  exact ⟨o,es,ep,k _ o (Ne.symm hL) ho,r⟩
 ·refine (I.hok b u e).stay (fun c v hc q=>k c v ?_ q) (fun _ q=>q) fun _ _ q=>q
  rcases hc with z|z
  ·rw [z];exact nit b u e
  ·exact nit c _ z
theorem Inv.tok(I:Inv X pins σ H s)(t:Nat):Inv X pins σ H { s with toks:=t }:=I.un (h':=s.heap) (t':=t) Un.refl I.hok
theorem Inv.kept{t':Nat}(I:Inv X pins σ H s)(k:∀b u,s.heap.get? b=some u->h'.get? b=some u):Inv X pins σ H { s with heap:=h',toks:=t' }:=I.un (Un.kept k) (I.hok.kept k)
theorem Inv.laid{a:Addr}{o:HO}{t':Nat}(I:Inv X pins σ H s)(k:∀b u,s.heap.get? b=some u->h'.get? b=some u)(hp:s.heap.objs.size<=a)(new:ObjOk X.prog X.w (upd H a o) h' a o):
  Inv X pins σ (upd H a o) { s with heap:=h',toks:=t' }:=I.un (Un.laid k hp (I.hok.fresh hp)) (I.hok.laid k hp new)
theorem Inv.write{x e:Addr}{o:HO}{t':Nat}(I:Inv X pins σ H s)(mu:Mut (H x))(he:e=x\/H e=some (.own x))(k:∀b u,b≠e->s.heap.get? b=some u->h'.get? b=some u)(heo:∃u,h'.get? e=some u)
  (new:ObjOk X.prog X.w (upd H x o) h' x o):Inv X pins σ (upd H x o) { s with heap:=h',toks:=t' }:=I.un (Un.write mu he k heo) (I.hok.write mu he k heo new)
theorem Inv.pins_of{pins':List (Addr×Obj)}(I:Inv X pins σ H s)(h:∀p∈pins',s.heap.get? p.1=some p.2/\H p.1=none/\p.1≠X.env.locals/\p.1∉X.fs/\∀v,p.2.data≠.cell v):Inv X pins' σ H s:=
 ⟨I.ok,I.os,I.bare,I.base,I.loc,I.cell,I.free,I.freeC,fun p hp=>(List.mem_append.mp hp).elim (fun z=>I.pin p (List.mem_append_left _ z)) (h p),I.hok,I.len⟩
theorem nodup_ix{N:List Str}(hN:N.Nodup){i j:Nat}{x:Str}(a:N[i]?=some x)(b:N[j]?=some x):i=j:=by
 obtain ⟨h1,e1⟩:=List.getElem?_eq_some_iff.mp a;obtain ⟨h2,e2⟩:=List.getElem?_eq_some_iff.mp b;exact (List.getElem_inj hN).mp (e1.trans e2.symm)
theorem store_ok2{M:Model}{A:Around}{E:Value->Shared->Prop}{i:Nat}{x:Str}{v:V}{u:Value}{Q:Unit->Shared->Prop}(I:Inv X pins σ H s)(hN:X.N.Nodup)(hi:X.N[i]?=some x)(hx:Loc X.env.scope x)(r:RelV v u)
  (h:∀s',Inv X pins (σ.set i (some v)) H s'->(∃a,Heap.SameBut a s.heap s'.heap/\(a=X.env.locals\/X.env.cells.lookup x=some a))->Q () s') (hf:X.fn x=true\/X.env.scope.names.lookup x=some .local:=by first|exact .inl rfl|exact .inr rfl|assumption):wpAny M A (storeName X.env x u) Q E s:=by
 obtain ⟨m,hn,hl⟩:=id I.loc;have hcls:(X.env.scope.kind==.class||(X.env.scope.kind==.module&&X.env.locals != X.env.globals))=false:=by rw [I.ok.kind];rfl
 have hiσ:i<σ.length:=by rw [I.len];exact (List.getElem?_eq_some_iff.mp hi).1
 have cne:=I.cne;have tracked:∀{a:Addr} {h':Heap},(∃o,s.heap.get? a=some o/\H a=none)->Heap.SameBut a s.heap h'->HOk X.prog X.w H h':=fun {a h'} ha hs b ob e=>by
  obtain ⟨_,_,hfree⟩:=ha;refine (I.hok b ob e).stay (fun c w' hc q=>(hs.2 c ?_).trans q) (fun _ q=>q) fun _ _ q=>q
  rintro rfl
  rcases hc with rfl|hc
  ·rw [hfree] at e;cases e
  ·rw [hfree] at hc;cases hc
 rcases hx with hk|hk
 ·refine wpAny_storeName_local hk hn (fun h' hn' hs=>?_) hcls
  obtain ⟨oL,_,_,hoL,_⟩:=id hn;refine h _ ⟨I.ok,I.os,I.bare,⟨fun b o e n hb hx=>?_,fun b o e n hb hx=>?_,I.base.free,fun b o e hx=>?_,I.base.tups,I.base.frzs,I.base.tbls⟩,⟨_,hn',fun j y v' e1 e2 e3=>?_⟩,fun y c e=>?_,I.free,I.freeC,fun p hp=>?_,tracked ⟨oL,hoL,I.free⟩ hs,by simpa using I.len⟩ ⟨_,hs,.inl rfl⟩
  ·exact (hs.2 b (Nat.ne_of_lt (Nat.lt_of_lt_of_le (Heap.lt_size e) I.ok.above))).trans (I.base.keep b o e n hb hx)
  ·obtain ⟨sl,e1⟩:=I.base.slot b o e n hb hx
   exact ⟨sl,(hs.2 b (Nat.ne_of_lt (Nat.lt_of_lt_of_le (Heap.lt_size e) I.ok.above))).trans e1⟩
  ·obtain ⟨o',e1⟩:=I.base.there b o e hx
   exact ⟨o',(hs.2 b (Nat.ne_of_lt (Nat.lt_of_lt_of_le (Heap.lt_size e) I.ok.above))).trans e1⟩
  ·by_cases hj:j=i
   ·subst hj
    rw [hi] at e1;cases e1;rw [List.getElem?_set_self hiσ] at e2;cases e2;exact ⟨u,r,.inl ⟨hk,by simp⟩⟩
   ·rw [List.getElem?_set_ne (Ne.symm hj)] at e2
    obtain ⟨u',r',q⟩:=hl j y v' e1 e2 e3;refine ⟨u',r',?_⟩;rcases q with ⟨k,e⟩|⟨k,c,e,z⟩
    ·refine .inl ⟨k,?_⟩
     have:y≠x:=fun e=>hj (nodup_ix hN e1 (e▸hi));simp [this,e]
    ·exact .inr ⟨k,c,e,z.sameBut hs (cne y c e)⟩
  ·obtain ⟨w',z⟩:=I.cell y c e
   exact ⟨w',z.sameBut hs (cne y c e)⟩
  ·obtain ⟨e,n,ne,nf,d⟩:=I.pin p hp
   exact ⟨(hs.2 p.1 ne).trans e,n,ne,nf,d⟩
 ·have hfn:X.fn x=true:=by
   rcases hf with z|z
   ·exact z
   ·rw [z] at hk;cases hk
  obtain ⟨c,hc⟩:=I.ok.has x (.inl hk);obtain ⟨w',z⟩:=I.cell x c hc;refine wpAny_storeName_cell I.ok.kind hk hc z (fun h' hc' hs=>?_);obtain ⟨oc,hoc,hocd⟩:=id z;refine h { s with heap:=h' } ⟨I.ok,I.os,I.bare,⟨fun b o e n hb hx=>?_,fun b o e n hb hx=>?_,I.base.free,fun b o e hx=>?_,I.base.tups,I.base.frzs,I.base.tbls⟩,⟨m,hn.sameBut hs (Ne.symm (cne x c hc)),fun j y v' e1 e2 e3=>?_⟩,fun y c' e=>?_,I.free,I.freeC,fun p hp=>?_,tracked ⟨oc,hoc,I.freeC x c hc⟩ hs,by simpa using I.len⟩ ⟨c,hs,.inr hc⟩
  ·exact (hs.2 b (Nat.ne_of_lt (Nat.lt_of_lt_of_le (Heap.lt_size e) (I.ok.cab x c hfn hc)))).trans (I.base.keep b o e n hb hx)
  ·obtain ⟨sl,e1⟩:=I.base.slot b o e n hb hx
   exact ⟨sl,(hs.2 b (Nat.ne_of_lt (Nat.lt_of_lt_of_le (Heap.lt_size e) (I.ok.cab x c hfn hc)))).trans e1⟩
  ·obtain ⟨o',e1⟩:=I.base.there b o e hx
   exact ⟨o',(hs.2 b (Nat.ne_of_lt (Nat.lt_of_lt_of_le (Heap.lt_size e) (I.ok.cab x c hfn hc)))).trans e1⟩
  ·by_cases hj:j=i
   ·subst hj
    rw [hi] at e1;cases e1;rw [List.getElem?_set_self hiσ] at e2;cases e2;exact ⟨u,r,.inr ⟨.inl hk,c,hc,hc'⟩⟩
   ·rw [List.getElem?_set_ne (Ne.symm hj)] at e2
    obtain ⟨u',r',q⟩:=hl j y v' e1 e2 e3;refine ⟨u',r',?_⟩;rcases q with q|⟨k,c',e,z'⟩
    ·exact .inl q
    ·refine .inr ⟨k,c',e,z'.sameBut hs ?_⟩
     rintro rfl
     exact hj (nodup_ix hN e1 (I.ok.inj _ _ _ e hc▸hi))
  ·by_cases hcc:c'=c
   ·subst hcc;exact ⟨_,hc'⟩
   ·obtain ⟨w2,z2⟩:=I.cell y c' e
    exact ⟨w2,z2.sameBut hs hcc⟩
  ·obtain ⟨e,n,ne,nf,d⟩:=I.pin p hp
   refine ⟨(hs.2 p.1 ?_).trans e,n,ne,nf,d⟩;intro q;rw [q,hoc] at e;have q':oc=p.2:=Option.some.inj e;exact d w' (by rw [<- q'];exact hocd)
theorem store_ok{M:Model}{A:Around}{E:Value->Shared->Prop}{i:Nat}{x:Str}{v:V}{u:Value}{Q:Unit->Shared->Prop}(I:Inv X pins σ H s)(hN:X.N.Nodup)(hi:X.N[i]?=some x)(hx:Loc X.env.scope x)(r:RelV v u)
  (h:∀s',Inv X pins (σ.set i (some v)) H s'->Q () s') (hf:X.fn x=true\/X.env.scope.names.lookup x=some .local:=by first|exact .inl rfl|exact .inr rfl|assumption):wpAny M A (storeName X.env x u) Q E s:=
 store_ok2 I hN hi hx r (fun s' I' _=>h s' I') hf
theorem Inv.call'{s':Shared}{ch:List Addr}(I:Inv X pins σ H s)(ho:s'.os=s.os)(u:Un (frs X.stack) ch H H' s.heap s'.heap)(hok:HOk X.prog X.w H' s'.heap)(hg:AllBare s'.gens)
  (hch:∀b∈ch,(b∈X.ex\/X.s₀.heap.objs.size<=b)/\b≠X.env.locals/\(∀x c,X.env.cells.lookup x=some c->c≠b)/\∀p∈X.pn++pins,p.1≠b):Inv X pins σ H' s':=by
 obtain ⟨h',g',d',t',o'⟩:=s';have e:o'=s.os:=ho;subst e;exact I.call (g':=g') (t':=t') (d':=d') u hok hg hch
end
noncomputable abbrev XK:=Value->Option Addr->Hp->Prop
noncomputable abbrev St:=List (Option V)
noncomputable abbrev VK:=V->Hp->Prop
noncomputable abbrev TE:=St->Hp->VK->Prop
noncomputable abbrev TT:=St->Hp->(Bool->Hp->Prop)->Prop
noncomputable abbrev TA:=St->Hp->(List V->Hp->Prop)->Prop
structure Ends where
 nx:St->Hp->Prop
 rt:VK
 bk:St->Hp->Prop:=fun _ _=>False
 ct:St->Hp->Prop:=fun _ _=>False
noncomputable abbrev TS:=Ends->St->Hp->Prop
inductive EP(X:Cx)(pins:List (Addr×Obj))(σ:St)(Q:VK)(u:Value)(s':Shared):Prop
 |mk (v:V) (H':Hp) (h0:Inv X pins σ H' s') (h1:RelV v u) (h2:Q v H'):EP X pins σ Q u s'
inductive TP(X:Cx)(pins:List (Addr×Obj))(σ:St)(Q:Bool->Hp->Prop)(b:Bool)(s':Shared):Prop
 |mk (H':Hp) (h0:Inv X pins σ H' s') (h1:Q b H'):TP X pins σ Q b s'
inductive AP(X:Cx)(pins:List (Addr×Obj))(σ:St)(Q:List V->Hp->Prop)(us:List Value)(s':Shared):Prop
 |mk (vs:List V) (H':Hp) (h0:Inv X pins σ H' s') (h1:Vals vs us) (h2:Q vs H'):AP X pins σ Q us s'
noncomputable def SP(X:Cx)(pins:List (Addr×Obj))(D:Ends)(f:Flow)(s':Shared):Prop:=
 match f with
 |.next=>∃σ' H',Inv X pins σ' H' s'/\D.nx σ' H'
 |.brk=>∃σ' H',Inv X pins σ' H' s'/\D.bk σ' H'
 |.cont=>∃σ' H',Inv X pins σ' H' s'/\D.ct σ' H'
 |.ret u=>∃v σ' H',Inv X pins σ' H' s'/\RelV v u/\D.rt v H'
noncomputable def PE(X:Cx)(e:Expr)(t:TE):Prop:=
 ∀(pins:List (Addr×Obj)) (s:Shared) (σ:St) (H:Hp) (Q:VK),Inv X pins σ H s->t σ H Q->wpAny (model X.prog X.w) X.A (eval e X.env) (EP X pins σ Q) X.xe s
noncomputable def PT(X:Cx)(e:Expr)(t:TT):Prop:=
 ∀(pins:List (Addr×Obj)) (s:Shared) (σ:St) (H:Hp) (Q:Bool->Hp->Prop),Inv X pins σ H s->t σ H Q->wpAny (model X.prog X.w) X.A (isTrue e X.env (eval e X.env)) (TP X pins σ Q) X.xe s
noncomputable def PW(X:Cx)(e:Expr)(t:TT):Prop:=
 ∀(whole:Sem Value) (pins:List (Addr×Obj)) (s:Shared) (σ:St) (H:Hp) (Q:Bool->Hp->Prop),Inv X pins σ H s->t σ H Q->wpAny (model X.prog X.w) X.A (isTrue e X.env whole) (TP X pins σ Q) X.xe s
theorem PW.pt{X:Cx}{e:Expr}{t:TT}(h:PW X e t):PT X e t:=h _
noncomputable def PA(X:Cx)(es:List Expr)(t:TA):Prop:=
 ∀(pos:Pos) (pins:List (Addr×Obj)) (s:Shared) (σ:St) (H:Hp) (Q:List V->Hp->Prop),Inv X pins σ H s->t σ H Q->wpAny (model X.prog X.w) X.A (spliced (backTo pos (starEach es X.env))) (AP X pins σ Q) X.xe s
noncomputable def PS(X:Cx)(st:Stmt)(t:TS):Prop:=
 ∀(pins:List (Addr×Obj)) (s:Shared) (σ:St) (H:Hp) (D:Ends),Inv X pins σ H s->t D σ H->wpAny (model X.prog X.w) X.A (exec st X.env) (SP X pins D) X.xe s
noncomputable def PSs(X:Cx)(st:List Stmt)(t:TS):Prop:=
 ∀(pins:List (Addr×Obj)) (s:Shared) (σ:St) (H:Hp) (D:Ends),Inv X pins σ H s->t D σ H->wpAny (model X.prog X.w) X.A (execs st X.env) (SP X pins D) X.xe s
theorem thn{α:Type}{t:Sem α}{Q Q':α->Shared->Prop}{M:Model}{A:Around}{E:Value->Shared->Prop}{s:Shared}(h:wpAny M A t Q E s)(hQ:∀a s,Q a s->Q' a s):wpAny M A t Q' E s:=wpAny_mono h hQ fun _ _ x=>x
end L2
namespace L2
open PySem PySem.Spec PyProof.Rows
section
variable {X:Cx}
theorem bin{a b:Expr}{ta tb:TE}(ha:PE X a ta)(hb:PE X b tb){pins:List (Addr×Obj)}{s:Shared}{σ:St}{H:Hp}{R:V->V->Hp->Prop}(I:Inv X pins σ H s)(h:ta σ H fun x H1=>tb σ H1 fun y H2=>R x y H2)
  {α:Type} {Q:α->Shared->Prop} {f:Value->Value->Sem α}
  (hf:∀v u s2 x y H2,Inv X pins σ H2 s2->RelV x v->RelV y u->R x y H2->wpAny (model X.prog X.w) X.A (f v u) Q X.xe s2):
  wpAny (model X.prog X.w) X.A (eval a X.env) (fun v s₁=>wpAny (model X.prog X.w) X.A (eval b X.env) (fun u s₂=>wpAny (model X.prog X.w) X.A (f v u) Q X.xe s₂) X.xe s₁) X.xe s:=by
 refine thn (ha pins s σ H _ I h) fun v s1 ⟨x,H1,I1,r1,q1⟩=>?_;refine thn (hb pins s1 σ H1 _ I1 q1) fun u s2 ⟨y,H2,I2,r2,q2⟩=>?_;exact hf v u s2 x y H2 I2 r1 r2 q2
noncomputable def tVar(i:Nat):TE:=fun σ H Q=>∃v,σ[i]?=some (some v)/\Q v H
noncomputable def tC(v:V):TE:=fun _ H Q=>Q v H
theorem pe_var{i:Nat}{x:Str}{pos:Pos}(hN:X.N[i]?=some x)(hv:Vis X.env.scope x)(hd:(x==("__debug__":Str))=false:=by decide)(hcd:(x==("__classdict__":Str))=false:=by decide):PE X (.Name x pos) (tVar i):=by
 intro pins s σ H Q I h;obtain ⟨v,e,h⟩:=h;obtain ⟨m,hn,hl⟩:=I.loc;obtain ⟨u,r,l⟩:=hl i x v hN e hv;have fin:EP X pins σ Q u s:=⟨v,H,I,r,h⟩;rcases l with ⟨hk,hm⟩|⟨hk,c,hc,hcell⟩
 ·exact wpAny_Name (wpAny_loadName_local I.ok.kind hk hn hm fin) hd
 ·rcases hk with hk|hk
  ·exact wpAny_Name (wpAny_loadName_cell I.ok.kind hk hc hcell fin) hd
  ·exact wpAny_Name (wpAny_loadName_free I.ok.kind hk hc hcell fin hcd) hd
theorem pe_int{i j pos}:PE X (.Constant (.int i) j pos) (tC (.int i)):=fun _ _ _ H _ I h=>wpAny_Constant_int ⟨.int i,H,I.tok _,⟨_,rfl⟩,h⟩
theorem pe_bl{b j pos}:PE X (.Constant (.bool b) j pos) (tC (.bl b)):=fun _ _ _ H _ I h=>Constant_bool ⟨.bl b,H,I,rfl,h⟩
theorem pe_non{j pos}:PE X (.Constant .none j pos) (tC .non):=fun _ _ _ H _ I h=>Constant_none ⟨.non,H,I,rfl,h⟩
theorem pe_str{x j pos}:PE X (.Constant (.str x) j pos) (tC (.str x)):=fun _ _ _ H _ I h=>Calls.Constant_str ⟨.str x,H,I.tok _,⟨_,rfl⟩,h⟩
noncomputable def Gl(X:Cx)(x:Str):Prop:=X.env.kindOf x=some .globalImplicit
theorem ld_glob{E:Value->Shared->Prop}{pins:List (Addr×Obj)}{s:Shared}{σ:St}{H:Hp}{x:Str}{u:Value}{pos:Pos}{Q:Value->Shared->Prop}(I:Inv X pins σ H s)(hg:Gl X x)(hm:X.mg x=some u)(h:Q u s)
  (hd:(x==("__debug__":Str))=false:=by decide):wpAny (model X.prog X.w) X.A (eval (.Name x pos) X.env) Q E s:=
 Calls.Name_function_global I.ok.kind hg (Calls.loadGlobal_global (by rw [I.ok.glob];exact I.mod.glob.keeps I.bk) hm h) hd
theorem ld_blt{E:Value->Shared->Prop}{pins:List (Addr×Obj)}{s:Shared}{σ:St}{H:Hp}{x:Str}{u:Value}{pos:Pos}{Q:Value->Shared->Prop}(I:Inv X pins σ H s)(hg:Gl X x)(hm:X.mg x=none)(hv:bootBuiltins x=some u)(h:Q u s)
  (hn:x≠"__name__":=by decide) (hd:(x==("__debug__":Str))=false:=by decide):wpAny (model X.prog X.w) X.A (eval (.Name x pos) X.env) Q E s:=by
 obtain ⟨mb,h1,h2⟩:=I.mod.blt;exact Calls.Name_function_global I.ok.kind hg (Calls.loadGlobal_builtin (by rw [I.ok.glob];exact I.mod.glob.keeps I.bk) hm (by rw [I.ok.blt];exact h1.keeps I.bk) ((h2 x hn).trans hv) h) hd
theorem pe_glob{x:Str}{v:V}{u:Value}{pos:Pos}(hg:Gl X x)(hm:X.mg x=some u)(r:RelV v u)(hd:(x==("__debug__":Str))=false:=by decide):PE X (.Name x pos) (tC v):=
 fun _ _ _ H _ I h=>ld_glob I hg hm ⟨v,H,I,r,h⟩ hd
theorem pe_bltn{x:Str}{v:V}{u:Value}{pos:Pos}(hg:Gl X x)(hm:X.mg x=none)(hv:bootBuiltins x=some u)(r:RelV v u)(hn:x≠"__name__":=by decide)(hd:(x==("__debug__":Str))=false:=by decide):PE X (.Name x pos) (tC v):=
 fun _ _ _ H _ I h=>ld_blt I hg hm hv ⟨v,H,I,r,h⟩ hn hd
variable {a b:Expr}{ta tb:TE}{pos:Pos}
variable {tA tB':TT}{rest:List Expr}
noncomputable def tAnd(t u:TT):TT:=fun σ H Q=>t σ H fun c H1=>if c=true then u σ H1 Q else Q false H1
noncomputable def tOr(t u:TT):TT:=fun σ H Q=>t σ H fun c H1=>if c=true then Q true H1 else u σ H1 Q
noncomputable def tNot(t:TT):TT:=fun σ H Q=>t σ H fun c H1=>Q (!c) H1
theorem pw_and1(ha:PT X a tA):PW X (.BoolOp .And [a] pos) tA:=by
 intro wh pins s σ H Q I h;refine isTrue_and (thn (ha pins s σ H Q I h) fun c s1 e=>?_);cases c with
 |true=>exact isTrue_and_nil e
 |false=>exact e
theorem pw_or1(ha:PT X a tA):PW X (.BoolOp .Or [a] pos) tA:=by
 intro wh pins s σ H Q I h;refine isTrue_or (thn (ha pins s σ H Q I h) fun c s1 e=>?_);cases c with
 |false=>exact isTrue_or_nil e
 |true=>exact e
theorem pw_and(ha:PT X a tA)(hb:PW X (.BoolOp .And (b::rest) pos) tB'):PW X (.BoolOp .And (a::b::rest) pos) (tAnd tA tB'):=by
 intro wh pins s σ H Q I h;refine isTrue_and (thn (ha pins s σ H _ I h) fun c s1 ⟨H1,I1,q1⟩=>?_);cases c with
 |true=>exact hb wh pins s1 σ H1 Q I1 q1
 |false=>exact ⟨H1,I1,q1⟩
theorem pw_or(ha:PT X a tA)(hb:PW X (.BoolOp .Or (b::rest) pos) tB'):PW X (.BoolOp .Or (a::b::rest) pos) (tOr tA tB'):=by
 intro wh pins s σ H Q I h;refine isTrue_or (thn (ha pins s σ H _ I h) fun c s1 ⟨H1,I1,q1⟩=>?_);cases c with
 |true=>exact ⟨H1,I1,q1⟩
 |false=>exact hb wh pins s1 σ H1 Q I1 q1
theorem pt_not(ha:PT X a tA):PT X (.UnaryOp .Not a pos) (tNot tA):=by
 intro pins s σ H Q I h;exact isTrue_not (wpAny_mono (ha pins s σ H (fun c H1=>Q (!c) H1) I h) (fun c s' z=>by cases z with|mk a b d=>exact ⟨a,b,d⟩) fun _ _ e=>e)
noncomputable def tAndV(ta tb:TE):TE:=fun σ H Q=>ta σ H fun x H1=>∃c,x=.bl c/\if c=true then tb σ H1 Q else Q (.bl false) H1
noncomputable def tOrV(ta tb:TE):TE:=fun σ H Q=>ta σ H fun x H1=>∃c,x=.bl c/\if c=true then Q (.bl true) H1 else tb σ H1 Q
noncomputable def tNotV(ta:TE):TE:=fun σ H Q=>ta σ H fun x H1=>∃c,x=.bl c/\Q (.bl (!c)) H1
theorem pe_one{op}{t:TE}(h:PE X a t):PE X (.BoolOp op [a] pos) t:=fun pins s σ H Q I hw=>BoolOp_one (h pins s σ H Q I hw)
theorem pe_and(ha:PE X a ta)(hb:PE X (.BoolOp .And (b::rest) pos) tb):PE X (.BoolOp .And (a::b::rest) pos) (tAndV ta tb):=by
 intro pins s σ H Q I h;refine BoolOp_and (thn (ha pins s σ H _ I h) fun v s1 ⟨x,H1,I1,r1,q1⟩=>?_);obtain ⟨c,rfl,q1⟩:=q1;cases r1;refine wpAny_truthy_bool ?_;cases c with
 |true=>exact hb pins s1 σ H1 Q I1 q1
 |false=>exact ⟨.bl false,H1,I1,rfl,q1⟩
theorem pe_or(ha:PE X a ta)(hb:PE X (.BoolOp .Or (b::rest) pos) tb):PE X (.BoolOp .Or (a::b::rest) pos) (tOrV ta tb):=by
 intro pins s σ H Q I h;refine BoolOp_or (thn (ha pins s σ H _ I h) fun v s1 ⟨x,H1,I1,r1,q1⟩=>?_);obtain ⟨c,rfl,q1⟩:=q1;cases r1;refine wpAny_truthy_bool ?_;cases c with
 |false=>exact hb pins s1 σ H1 Q I1 q1
 |true=>exact ⟨.bl true,H1,I1,rfl,q1⟩
theorem pe_not(ha:PE X a ta):PE X (.UnaryOp .Not a pos) (tNotV ta):=by
 intro pins s σ H Q I h;refine UnaryOp_ (thn (ha pins s σ H _ I h) fun v s1 ⟨x,H1,I1,r1,q1⟩=>?_);obtain ⟨c,rfl,q1⟩:=q1;cases r1;exact not_of (wpAny_truthy_bool ⟨.bl (!c),H1,I1,rfl,q1⟩)
noncomputable def tIf(t:TT)(ta tb:TE):TE:=fun σ H Q=>t σ H fun c H1=>if c=true then ta σ H1 Q else tb σ H1 Q
theorem pe_ifExp{c:Expr}(hc:PT X c tA)(ha:PE X a ta)(hb:PE X b tb):PE X (.IfExp c a b pos) (tIf tA ta tb):=by
 intro pins s σ H Q I h;refine wpAny_IfExp (thn (hc pins s σ H _ I h) fun d s1 ⟨H1,I1,q1⟩=>?_);cases d with
 |true=>exact ha pins s1 σ H1 Q I1 q1
 |false=>exact hb pins s1 σ H1 Q I1 q1
end
end L2
namespace L2
open PySem PySem.Spec PyProof.Rows
noncomputable def SqL(K:PySem.W.Frag)(H:Hp)(a:Addr)(xs:List V):Prop:=
 Rd H a (.lst xs)\/
  ∃(o:Obj) (its:Array Value) (n:Nat),K.lookup a=some o/\o.cls=.type "list"/\o.dict=none/\o.data=.seq its n/\its.size<=sizeLine/\Vals xs its.toList
noncomputable def SqT(K:PySem.W.Frag)(H:Hp)(a:Addr)(xs:List V):Prop:=
 Rd H a (.tup xs)\/
  ∃(o:Obj) (its:Array Value) (n:Nat),K.lookup a=some o/\o.cls=.type "tuple"/\o.data=.seq its n/\its.size<=sizeLine/\Vals xs its.toList
noncomputable def absV:Value->Option V
 |.none=>some .non
 |.bool b=>some (.bl b)
 |.int i _=>some (.int i)
 |.str x _=>some (.str x)
 |.bytes b _=>some (.byt b)
 |.float b _=>some (.flt b)
 |.ref a=>some (.ref a)
 |.type n=>some (.ty n)
 |_=>none
theorem RelV.abs{x:V}{u:Value}(r:RelV x u):absV u=some x:=by
 cases x with
 |non=>cases r;rfl
 |bl _=>cases r;rfl
 |int _=>obtain ⟨t,rfl⟩:=r;rfl
 |str _=>obtain ⟨t,rfl⟩:=r;rfl
 |byt _=>obtain ⟨t,rfl⟩:=r;rfl
 |flt _=>obtain ⟨t,rfl⟩:=r;rfl
 |ref _=>cases r;rfl
 |ty _=>cases r;rfl
theorem RelV.inj{x y:V}{u:Value}(r:RelV x u)(q:RelV y u):x=y:=Option.some.inj (r.abs.symm.trans q.abs)
theorem Vals.inj:∀{xs ys:List V} {us:List Value},Vals xs us->Vals ys us->xs=ys
 |_,_,_,.nil,.nil=>rfl
 |_,_,_,.cons r t,.cons r' t'=>by rw [r.inj r',Vals.inj t t']
section
variable {X:Cx}{pins:List (Addr×Obj)}{σ:St}{H:Hp}{s:Shared}{a:Addr}{xs ys:List V}
theorem SqL.of{K:PySem.W.Frag}(h:H a=some (.lst xs)):SqL K H a xs:=.inl (.inl h)
theorem Inv.list(I:Inv X pins σ H s)(h:SqL X.K H a xs):∃its:List Value,Vals xs its/\PlainL s.heap a its.toArray/\xs.length<=sizeLine:=by
 rcases h with h|⟨o,its,n,hk,hc,hd,hs,hz,r⟩
 ·obtain ⟨z,its,n,r,e⟩:=h.ok I.hok
  exact ⟨its,r,⟨_,n,e,rfl,rfl,rfl⟩,z⟩
 ·refine ⟨its.toList,r,⟨o,n,I.kIn a o hk,hc,hd,by simpa using hs⟩,?_⟩
  have e:=r.length;simp only [Array.length_toList] at e;lia
theorem Inv.tuple(I:Inv X pins σ H s)(h:SqT X.K H a xs):∃its:List Value,Vals xs its/\IsTup s.heap a its.toArray/\xs.length<=sizeLine:=by
 rcases h with h|⟨o,its,n,hk,hc,hs,hz,r⟩
 ·obtain ⟨z,its,r,ob,e,c,_⟩:=h.ok I.hok
  exact ⟨its,r,⟨ob,e,c⟩,z⟩
 ·refine ⟨its.toList,r,⟨o,I.kIn a o hk,hc,n,by simpa using hs⟩,?_⟩
  have e:=r.length;simp only [Array.length_toList] at e;lia
theorem Inv.list_inj(I:Inv X pins σ H s)(h:SqL X.K H a xs)(h':SqL X.K H a ys):xs=ys:=by
 obtain ⟨its,r,⟨o,n,e,_,_,d⟩,_⟩:=I.list h;obtain ⟨its',r',⟨o',n',e',_,_,d'⟩,_⟩:=I.list h';rw [e] at e';cases e';rw [d] at d'
 injection d' with d1 _
 have:its=its':=by simpa using congrArg Array.toList d1
 subst this;exact r.inj r'
theorem Inv.tuple_inj(I:Inv X pins σ H s)(h:SqT X.K H a xs)(h':SqT X.K H a ys):xs=ys:=by
 obtain ⟨its,r,⟨o,e,_,n,d⟩,_⟩:=I.tuple h;obtain ⟨its',r',⟨o',e',_,n',d'⟩,_⟩:=I.tuple h';rw [e] at e';cases e';rw [d] at d'
 injection d' with d1 _
 have:its=its':=by simpa using congrArg Array.toList d1
 subst this;exact r.inj r'
end
noncomputable abbrev Cx.wish(X:Cx)(E:Value->Shared->Prop):Cx:={ X with xe:=E }
theorem Cx.Ok.wish{X:Cx}(ok:X.Ok)(E:Value->Shared->Prop):(X.wish E).Ok:=
 ⟨ok.mod,ok.kind,ok.glob,ok.blt,ok.above,ok.inj,ok.has,ok.cab,ok.hd,ok.frames,ok.stk,ok.exf,ok.bs,ok.bsz,ok.noex,ok.exfs,ok.funs,ok.frf⟩
section
variable {X:Cx}{pins:List (Addr×Obj)}{σ:St}{H:Hp}{s:Shared}{E:Value->Shared->Prop}
theorem Inv.wish(I:Inv X pins σ H s)(E:Value->Shared->Prop):Inv (X.wish E) pins σ H s:=⟨I.ok.wish E,I.os,I.bare,I.base,I.loc,I.cell,I.free,I.freeC,I.pin,I.hok,I.len⟩
end
section
variable {X:Cx}{st:Stmt}{rest:List Stmt}{t u:TS}{e:Expr}{te:TE}{pos:Pos}
noncomputable def tNext:TS:=fun D σ H=>D.nx σ H
noncomputable def tSeq(t u:TS):TS:=fun D σ H=>t { D with nx:=u D } σ H
theorem pss_nil:PSs X [] tNext:=fun _ _ σ H _ I h=>wpAny_execs_nil ⟨σ,H,I,h⟩
theorem pss_cons(h1:PS X st t)(h2:PSs X rest u):PSs X (st::rest) (tSeq t u):=by
 intro pins s σ H D I h;refine wpAny_execs_cons (thn (h1 pins s σ H { D with nx:=u D } I h) fun f s1 q=>?_);cases f with
 |next=>
  obtain ⟨σ',H',I',q⟩:=q;exact h2 pins s1 σ' H' D I' q
 |ret v=>exact q
 |brk=>exact q
 |cont=>exact q
theorem pss_one(h1:PS X st t):PSs X [st] t:=by
 intro pins s σ H D I h;refine wpAny_execs_cons (thn (h1 pins s σ H D I h) fun f s1 q=>?_);cases f with
 |next=>exact wpAny_execs_nil q
 |ret v=>exact q
 |brk=>exact q
 |cont=>exact q
theorem Inv.quiet{pins:List (Addr×Obj)}{σ:St}{H:Hp}{s:Shared}(I:Inv X pins σ H s):interactive X.env=false:=by simp [interactive,I.ok.kind]
noncomputable def tDrop(te:TE):TS:=fun D σ H=>te σ H fun _ H1=>D.nx σ H1
theorem ps_expr(he:PE X e te)(hs:swapsWith e none pos.line X.env=pure false:=by rfl):PS X (.Expr e pos) (tDrop te):=by
 intro pins s σ H D I h;exact wpAny_Expr_any (thn (he pins s σ H _ I h) fun v s1 ⟨x,H1,I1,r1,q1⟩=>⟨σ,H1,I1,q1⟩) I.quiet hs
noncomputable def tRet(te:TE):TS:=fun D σ H=>te σ H D.rt
theorem ps_ret(he:PE X e te):PS X (.Return (some e) pos) (tRet te):=by
 intro pins s σ H D I h;exact wpAny_Return_some (thn (he pins s σ H _ I h) fun v s1 ⟨x,H1,I1,r1,q1⟩=>⟨x,σ,H1,I1,r1,q1⟩)
noncomputable def tIfS(c:TT)(t u:TS):TS:=fun D σ H=>c σ H fun b H1=>if b=true then t D σ H1 else u D σ H1
theorem ps_if{c:Expr}{a b:List Stmt}{tc:TT}(hc:PT X c tc)(ha:PSs X a t)(hb:PSs X b u):PS X (.If c a b pos) (tIfS tc t u):=by
 intro pins s σ H D I h;refine wpAny_If (thn (hc pins s σ H _ I h) fun d s1 ⟨H1,I1,q1⟩=>?_);cases d with
 |true=>exact ha pins s1 σ H1 D I1 q1
 |false=>exact hb pins s1 σ H1 D I1 q1
end
noncomputable abbrev TG:=V->St->Hp->(St->Hp->Prop)->Prop
noncomputable abbrev TGs:=List V->St->Hp->(St->Hp->Prop)->Prop
noncomputable def PG(X:Cx)(target:Expr)(t:TG):Prop:=
 ∀(pins:List (Addr×Obj)) (s:Shared) (σ:St) (H:Hp) (v:V) (u:Value) (Q:St->Hp->Prop),Inv X pins σ H s->RelV v u->t v σ H Q->
  wpAny (model X.prog X.w) X.A (assign target X.env u) (fun _ s'=>∃σ' H',Inv X pins σ' H' s'/\Q σ' H') X.xe s
noncomputable def PGs(X:Cx)(ts:List Expr)(t:TGs):Prop:=
 ∀(pins:List (Addr×Obj)) (s:Shared) (σ:St) (H:Hp) (vs:List V) (us:List Value) (Q:St->Hp->Prop),Inv X pins σ H s->Vals vs us->t vs σ H Q->
  wpAny (model X.prog X.w) X.A (assignInOrder ((assignEach ts X.env).map (·.2)) us) (fun _ s'=>∃σ' H',Inv X pins σ' H' s'/\Q σ' H') X.xe s
noncomputable abbrev TSet:=V->V->V->Hp->(Hp->Prop)->Prop
noncomputable def PSet(X:Cx)(t:TSet):Prop:=
 ∀(pins:List (Addr×Obj)) (s:Shared) (σ:St) (H:Hp) (o i v:V) (ov iv u:Value) (Q:Hp->Prop),Inv X pins σ H s->RelV o ov->RelV i iv->RelV v u->t o i v H Q->
  wpAny (model X.prog X.w) X.A (setItem ov iv u) (fun _ s'=>∃H',Inv X pins σ H' s'/\Q H') X.xe s
section
variable {X:Cx}{pos:Pos}
noncomputable def gName(i:Nat):TG:=fun v σ H Q=>Q (σ.set i (some v)) H
theorem pg_name{i:Nat}{x:Str}(hN:X.N.Nodup)(hi:X.N[i]?=some x)(hx:Loc X.env.scope x)(hf:X.fn x=true\/X.env.scope.names.lookup x=some .local:=by first|exact .inl rfl|exact .inr rfl|assumption):PG X (.Name x pos) (gName i):=by
 intro pins s σ H v u Q I r h;exact wpAny_assign_Name (store_ok I hN hi hx r (fun s' I'=>⟨_,H,I',h⟩) hf)
noncomputable def gNil:TGs:=fun vs σ H Q=>vs=[]/\Q σ H
noncomputable def gCons(t:TG)(u:TGs):TGs:=fun vs σ H Q=>∃v r,vs=v::r/\t v σ H fun σ' H'=>u r σ' H' Q
theorem pgs_nil:PGs X [] gNil:=by
 intro pins s σ H vs us Q I r h;obtain ⟨e,h⟩:=h;subst e;cases r;exact assignInOrder_nil ⟨σ,H,I,h⟩
theorem pgs_cons{e:Expr}{es:List Expr}{t:TG}{u:TGs}(h1:PG X e t)(h2:PGs X es u)
  (hs:(assignEach (e::es) X.env).map (·.2)=assign e X.env::(assignEach es X.env).map (·.2):=by rfl):PGs X (e::es) (gCons t u):=by
 intro pins s σ H vs us Q I r h;obtain ⟨v,vr,e1,h⟩:=h;subst e1;cases r with
 |cons r rr=>
  rw [hs];refine assignInOrder_cons (thn (h1 pins s σ H _ _ _ I r h) fun _ s1 ⟨σ1,H1,I1,q1⟩=>?_);exact h2 pins s1 σ1 H1 _ _ Q I1 rr q1
noncomputable def gTup(K:PySem.W.Frag)(n:Nat)(t:TGs):TG:=fun v σ H Q=>∃a xs,v=.ref a/\SqT K H a xs/\xs.length=n/\t xs σ H Q
theorem pg_tup{es:List Expr}{k:Nat}{t:TGs}{n:Nat}(hc:X.calm=true)(h:PGs X es t)
  (hn:(assignEach es X.env).length=n:=by rfl) (hst:(assignEach es X.env).findIdx? (·.1)=none:=by rfl):PG X (.Tuple es k pos) (gTup X.K n t):=by
 intro pins s σ H v u Q I r hw;obtain ⟨a,xs,e1,hq,hl,hw⟩:=hw;subst e1;cases r;obtain ⟨its,rv,ht,hz⟩:=I.tuple hq;refine assign_Tuple_tuple (I.ok.hd hc) ht (by simp [hn,<- hl,rv.length]) hst fun h' hx=>?_
 have I1:Inv X pins σ H { s with heap:=h' }:=I.kept (t':=s.toks) fun b o e=>hx b o (Nat.ne_of_lt (Heap.lt_size e)) e;exact h pins _ σ H xs _ Q I1 (by simpa using rv) hw
noncomputable def gSub(to ti:TE)(t:TSet):TG:=fun v σ H Q=>to σ H fun o H1=>ti σ H1 fun i H2=>t o i v H2 fun H3=>Q σ H3
theorem pg_sub{o i:Expr}{to ti:TE}{t:TSet}(ho:PE X o to)(hi:PE X i ti)(hs:PSet X t)
  (ha:∀v,assign (.Subscript o i pos) X.env v=(do
   let ov <- holding [v] (eval o X.env)
   let iv <- holding [v,ov] (eval i X.env)
   standAt pos
   holding [v,ov,iv] (setItem ov iv v)
   release [v,ov,iv] []):=by intro _;rfl):PG X (.Subscript o i pos) (gSub to ti t):=by
 intro pins s σ H v u Q I r h;rw [ha];refine wpAny_bind (wpAny_holding (thn (ho pins s σ H _ I h) fun ov s1 ⟨x,H1,I1,r1,q1⟩=>?_));refine wpAny_bind (wpAny_holding (thn (hi pins s1 σ H1 _ I1 q1) fun iv s2 ⟨y,H2,I2,r2,q2⟩=>?_));refine wpAny_bind (wpAny_standAt (wpAny_bind (wpAny_holding (thn (hs pins s2 σ H2 x y v ov iv u _ I2 r1 r2 r q2) fun _ s3 ⟨H3,I3,q3⟩=>?_))));exact wpAny_release ⟨σ,H3,I3,q3⟩
noncomputable def tAsg(te:TE)(g:TG):TS:=fun D σ H=>te σ H fun x H1=>g x σ H1 D.nx
theorem ps_asg{tg e:Expr}{te:TE}{g:TG}(he:PE X e te)(hg:PG X tg g)(hs:swapsWithSole [tg] e pos.line X.env=pure false:=by rfl)(hw:swappedStores [tg] e X.env=pure none:=by rfl)
  (h1:(assignEach [tg] X.env).map (·.2)=[assign tg X.env]:=by rfl):PS X (.Assign [tg] e pos) (tAsg te g):=by
 intro pins s σ H D I h;refine wpAny_Assign_stores (thn (he pins s σ H _ I h) fun v s1 ⟨x,H1,I1,r1,q1⟩=>?_) hs hw;rw [h1];exact thn (hg pins s1 σ H1 x v _ I1 r1 q1) fun _ s2 q=>q
theorem ps_set{i:Nat}{x:Str}{e:Expr}{te:TE}{pos':Pos}(hN:X.N.Nodup)(hi:X.N[i]?=some x)(hx:Loc X.env.scope x)(he:PE X e te)(hs:swapsWith e (some (.Name x pos')) pos.line X.env=pure false:=by rfl)(hf:X.fn x=true\/X.env.scope.names.lookup x=some .local:=by first|exact .inl rfl|exact .inr rfl|assumption):
  PS X (.Assign [.Name x pos'] e pos) (tAsg te (gName i)):=by
 intro pins s σ H D I h;refine wpAny_Assign_Name (thn (he pins s σ H _ I h) fun v s1 ⟨y,H1,I1,r1,q1⟩=>?_) hs;exact store_ok I1 hN hi hx r1 (fun s2 I2=>⟨_,H1,I2,q1⟩) hf
end
section
variable {X:Cx}{pos:Pos}
end
structure It where
 go:Nat->Hp->Prop
 yld:Nat->Hp->V->Hp->Prop
 stop:Nat->Hp->Prop
noncomputable def FpOk(X:Cx)(pins:List (Addr×Obj))(H:Hp)(b:Addr):Prop:=
 H b=none/\b≠X.env.locals/\b∉X.fs/\(b∈X.ex\/X.s₀.heap.objs.size<=b)/\(∀x c,X.env.cells.lookup x=some c->c≠b)/\∀p∈X.pn++pins,p.1≠b
theorem Inv.fpOk{X:Cx}{pins:List (Addr×Obj)}{σ:St}{H H':Hp}{s:Shared}{b:Addr}(I:Inv X pins σ H s)(hb:s.heap.objs.size<=b)(hn:H' b=none):FpOk X pins H' b:=by
 refine ⟨hn,Nat.ne_of_gt (Nat.lt_of_lt_of_le I.lt hb),I.nofs hb,.inr (Nat.le_trans I.sz hb),fun x c e z=>?_,fun p hp z=>?_⟩
 ·obtain ⟨v,q⟩:=I.cell x c e
  exact absurd (Nat.lt_of_lt_of_le q.lt (by rw [z];exact hb)) (Nat.lt_irrefl _)
 ·exact absurd (Nat.lt_of_lt_of_le (Heap.lt_size (I.pin p hp).1) (by rw [z];exact hb)) (Nat.lt_irrefl _)
structure Turn(P:Program)(w:World)(K:PySem.W.Frag)(tg:Expr)(J:It)(fp:List Addr)(it:Addr)(tn:Nat->Heap->Prop):Prop where
 mem:it∈fp
 obj:∀i h,tn i h->∀b∈fp,∃o,h.get? b=some o/\∀v,o.data≠.cell v
 keep:∀i h h',tn i h->(∀b∈fp,∀o,h.get? b=some o->h'.get? b=some o)->tn i h'
 item:∀(X:Cx),X.prog=P->X.w=w->X.K=K->X.calm=true->∀(i:Nat) (pins:List (Addr×Obj)) (s:Shared) (σ:St) (H:Hp) (E:Value->Shared->Prop),Inv X pins σ H s->(∀b∈fp,FpOk X pins H b)->tn i s.heap->J.go i H->
  wpAny (model P w) X.A (pyNext (.ref it)) (fun r s1=>∃u,r=some u/\
   wpAny (model P w) X.A (letOwnedTupleGo tg (.ref it) u) (fun _ s2=>∃x H',Inv X pins σ H' s2/\RelV x u/\J.yld i H x H'/\tn (i+1) s2.heap/\∀b∈fp,H' b=none) E s1) E s
 done:∀(X:Cx),X.prog=P->X.w=w->X.K=K->X.calm=true->∀(i:Nat) (pins:List (Addr×Obj)) (s:Shared) (σ:St) (H:Hp) (E:Value->Shared->Prop),Inv X pins σ H s->(∀b∈fp,FpOk X pins H b)->tn i s.heap->J.stop i H->
  wpAny (model P w) X.A (pyNext (.ref it)) (fun r s1=>r=none/\Inv X pins σ H s1) E s
 self:∀(A:Around) (i:Nat) (s:Shared) (Q:Value->Shared->Prop) (E:Value->Shared->Prop),tn i s.heap->Q (.ref it) s->wpAny (model P w) A (pyIter (.ref it)) Q E s
noncomputable abbrev TI:=St->Hp->(It->Hp->Prop)->Prop
noncomputable def PIE(X:Cx)(pins:List (Addr×Obj))(σ:St)(tg:Expr)(R:It->Hp->Prop)(itv:Value)(s2:Shared):Prop:=
 ∃(it:Addr) (fp:List Addr) (tn:Nat->Heap->Prop) (J:It) (H':Hp),itv=.ref it/\Inv X pins σ H' s2/\Turn X.prog X.w X.K tg J fp it tn/\tn 0 s2.heap/\(∀b∈fp,FpOk X pins H' b)/\R J H'
noncomputable def PI(X:Cx)(tg iter:Expr)(wi:TI):Prop:=
 ∀(pins:List (Addr×Obj)) (s:Shared) (σ:St) (H:Hp) (R:It->Hp->Prop),Inv X pins σ H s->wi σ H R->
  wpAny (model X.prog X.w) X.A (eval iter X.env) (fun v s1=>wpAny (model X.prog X.w) X.A (pyIter v) (PIE X pins σ tg R) X.xe s1) X.xe s
theorem go_of{M:Model}{A:Around}{E:Value->Shared->Prop}{s:Shared}{tg:Expr}{it:Addr}{u:Value}{o:Obj}{n:String}{vs:Array Value}{Q:Unit->Shared->Prop}(ho:s.heap.get? it=some o)(hc:o.cls=.type n)(hd:o.data=.fields vs)
  (hn:["enumerate","zip","dict_itemiterator","dict_reverseitemiterator","odict_iterator","itertools.zip_longest","itertools.pairwise"].contains n=false) (hQ:Q () s):wpAny M A (letOwnedTupleGo tg (.ref it) u) Q E s:=by
 unfold letOwnedTupleGo
 cases tg<;>first
  |exact wpAny_pure hQ
  |(cases u<;>first
    |exact wpAny_pure hQ
    |(refine wpAny_bind (wpAny_load ho ?_)
      rw [hc,hd];show wpAny M A (if (["enumerate","zip","dict_itemiterator","dict_reverseitemiterator","odict_iterator","itertools.zip_longest","itertools.pairwise"].contains n&&vs[0]?==some (rawInt _))=true then _ else _) Q E s
      rw [if_neg (by intro h;rw [hn,Bool.false_and] at h;cases h)]
      exact wpAny_pure hQ))
noncomputable def Itl(K:PySem.W.Frag)(a:Addr):It:=
 ⟨fun i H=>∃xs x,SqL K H a xs/\xs[i]?=some x,fun i H x H'=>H'=H/\∀xs,SqL K H a xs->xs[i]?=some x,fun i H=>∃xs,SqL K H a xs/\xs.length<=i⟩
noncomputable def Itt(K:PySem.W.Frag)(a:Addr):It:=
 ⟨fun i H=>∃xs x,SqT K H a xs/\xs[i]?=some x,fun i H x H'=>H'=H/\∀xs,SqT K H a xs->xs[i]?=some x,fun i H=>∃xs,SqT K H a xs/\xs.length<=i⟩
noncomputable def Itr(lo:Int)(n:Nat):It:=⟨fun i _=>i<n,fun i H x H'=>H'=H/\x=.int (lo+i),fun i _=>n<=i⟩
theorem turn_list{P:Program}{w:World}{K:PySem.W.Frag}{tg:Expr}(a it:Addr):Turn P w K tg (Itl K a) [it] it (fun i h=>h.IsListIter it a i) where
 mem:=by simp
 obj:=fun i h st b hb=>by
  have e:b=it:=by simpa using hb
  subst e;obtain ⟨o,e,c,d⟩:=st;exact ⟨o,e,fun v z=>by rw [d] at z;cases z⟩
 keep:=fun i h h' st k=>st.at fun o e=>k it (by simp) o e
 item:=by
  intro X hP hw hK hc i pins s σ H E I hf st hg;subst hP hw hK;obtain ⟨xs,x,hq,hx⟩:=hg;obtain ⟨its,rv,p,hz⟩:=I.list hq;obtain ⟨u,hu,ru⟩:=rv.get hx;obtain ⟨f0,f1,f2,f3,f4,f5⟩:=hf it (by simp)
  refine wpAny_pyNext_list_item st p.isList (x:=u) (by simpa using hu) fun h' st' sb=>?_
  have I1:Inv X pins σ H { s with heap:=h' }:=I.turned (t':=s.toks) (fun b o hb e=>(sb.2 b hb).trans e) f0 f1 f3 f4 f5;obtain ⟨o,e,c,d⟩:=id st';exact ⟨u,rfl,go_of (s:={ s with heap:=h' }) e c d (by decide) ⟨x,H,I1,ru,⟨rfl,fun ys hy=>by rw [I.list_inj hy hq];exact hx⟩,st',fun b hb=>(hf b hb).1⟩⟩
 done:=by
  intro X hP hw hK hc i pins s σ H E I hf st hg;subst hP hw hK;obtain ⟨xs,hq,hx⟩:=hg;obtain ⟨its,rv,p,hz⟩:=I.list hq;obtain ⟨f0,f1,f2,f3,f4,f5⟩:=hf it (by simp)
  have hl:=rv.length;exact wpAny_pyNext_list_end (I.ok.hd hc) st p.isList (by simp;lia) fun h' eb=>⟨rfl,I.turned (t':=s.toks) (fun b o hb e=>eb b o hb e) f0 f1 f3 f4 f5⟩
 self:=fun _ _ _ _ _ st h=>wpAny_pyIter_listiter st h
theorem turn_tuple{P:Program}{w:World}{K:PySem.W.Frag}{tg:Expr}(a it:Addr):Turn P w K tg (Itt K a) [it] it (fun i h=>h.IsTupleIter it a i) where
 mem:=by simp
 obj:=fun i h st b hb=>by
  have e:b=it:=by simpa using hb
  subst e;obtain ⟨o,e,c,d⟩:=st;exact ⟨o,e,fun v z=>by rw [d] at z;cases z⟩
 keep:=fun i h h' st k=>st.at fun o e=>k it (by simp) o e
 item:=by
  intro X hP hw hK hc i pins s σ H E I hf st hg;subst hP hw hK;obtain ⟨xs,x,hq,hx⟩:=hg;obtain ⟨its,rv,p,hz⟩:=I.tuple hq;obtain ⟨u,hu,ru⟩:=rv.get hx;obtain ⟨f0,f1,f2,f3,f4,f5⟩:=hf it (by simp)
  refine wpAny_pyNext_tuple_item st (show s.heap.IsTuple a its.toArray from p) (x:=u) (by simpa using hu) fun h' st' sb=>?_
  have I1:Inv X pins σ H { s with heap:=h' }:=I.turned (t':=s.toks) (fun b o hb e=>(sb.2 b hb).trans e) f0 f1 f3 f4 f5;obtain ⟨o,e,c,d⟩:=id st';exact ⟨u,rfl,go_of (s:={ s with heap:=h' }) e c d (by decide) ⟨x,H,I1,ru,⟨rfl,fun ys hy=>by rw [I.tuple_inj hy hq];exact hx⟩,st',fun b hb=>(hf b hb).1⟩⟩
 done:=by
  intro X hP hw hK hc i pins s σ H E I hf st hg;subst hP hw hK;obtain ⟨xs,hq,hx⟩:=hg;obtain ⟨its,rv,p,hz⟩:=I.tuple hq;obtain ⟨f0,f1,f2,f3,f4,f5⟩:=hf it (by simp)
  have hl:=rv.length;exact wpAny_pyNext_tuple_end (I.ok.hd hc) st (show s.heap.IsTuple a its.toArray from p) (by simp;lia) fun h' eb=>⟨rfl,I.turned (t':=s.toks) (fun b o hb e=>eb b o hb e) f0 f1 f3 f4 f5⟩
 self:=fun _ _ _ _ _ st h=>wpAny_pyIter_tupleiter st h
theorem turn_range{P:Program}{w:World}{K:PySem.W.Frag}{tg:Expr}(it:Addr)(lo:Int)(n:Nat):Turn P w K tg (Itr lo n) [it] it (fun i h=>IsRangeIter h it (lo+(i:Nat)*1) ((n:Int)-(i:Nat)) 1) where
 mem:=by simp
 obj:=fun i h st b hb=>by
  have e:b=it:=by simpa using hb
  subst e;exact ⟨_,st,fun v z=>by
   have z':Data.fields _=Data.cell v:=z;cases z'⟩
 keep:=fun i h h' st k=>k it (by simp) _ st
 item:=by
  intro X hP hw hK hc i pins s σ H E I hf st hg;subst hP hw hK;obtain ⟨f0,f1,f2,f3,f4,f5⟩:=hf it (by simp)
  have W:=Walks.range (prog:=X.prog) (w:=X.w) (I.ok.hd hc) it lo 1 n;refine W.item i s _ _ hg st fun v h' tk hv st' kk=>?_;obtain ⟨t,rfl⟩:=hv;have I1:Inv X pins σ H { s with heap:=h',toks:=tk }:=I.turned (fun b o hb e=>kk b o (by simpa using hb) e) f0 f1 f3 f4 f5
  refine ⟨_,rfl,go_of (s:={ s with heap:=h',toks:=tk }) (n:="range_iterator") st' rfl rfl (by decide) ⟨.int (lo+i),H,I1,⟨t,?_⟩,⟨rfl,rfl⟩,st',fun b hb=>(hf b hb).1⟩⟩
  rw [Int.mul_one]
 done:=by
  intro X hP hw hK hc i pins s σ H E I hf st hg;subst hP hw hK;obtain ⟨f0,f1,f2,f3,f4,f5⟩:=hf it (by simp)
  exact wpAny_pyNext_range_end (I.ok.hd hc) st (by have:n<=i:=hg;lia) fun h' eb=>⟨rfl,I.turned (t':=s.toks) (fun b o hb e=>eb b o hb e) f0 f1 f3 f4 f5⟩
 self:=fun _ _ _ _ _ st h=>wpAny_pyIter_rangeiter st h
end L2
namespace L2
open PySem PySem.Spec PyProof.Rows
section
variable {X:Cx}{tg:Expr}
theorem range_it{pins:List (Addr×Obj)}{σ:St}{H:Hp}{s:Shared}{R:It->Hp->Prop}{E:Value->Shared->Prop}{lo hi:Int}{t u v:Tok}{tk:Nat}(I:Inv X pins σ H s)(h1:-(2 ^ 62)<=lo)(h2:lo<2 ^ 62)(h3:-(2 ^ 62)<=hi)(h4:hi<2 ^ 62)
  (q:R (Itr lo (hi-lo).toNat) H):wpAny (model X.prog X.w) X.A (pyIter (.ref s.heap.objs.size)) (PIE X pins σ tg R) E { s with heap:=s.heap.push { cls:=.type "range",data:=.fields #[.int lo t,.int hi u,.int 1 v] },toks:=tk }:=by
 refine wpAny_pyIter_range (IsRange.new ..) (small_one h1 h2 h3 h4) ?_;have I1:Inv X pins σ H { s with heap:=s.heap.push { cls:=.type "range",data:=.fields #[.int lo t,.int hi u,.int 1 v] },toks:=tk }:=I.kept fun b o e=>Heap.get?_push_of_some _ e;refine ⟨(s.heap.push { cls:=.type "range",data:=.fields #[.int lo t,.int hi u,.int 1 v] }).objs.size,[(s.heap.push { cls:=.type "range",data:=.fields #[.int lo t,.int hi u,.int 1 v] }).objs.size],_,_,H,rfl,
  I1.kept (t':=tk) fun b o e=>Heap.get?_push_of_some _ e,turn_range _ lo (hi-lo).toNat,?_,fun b hb=>?_,q⟩
 ·have e1:lo+((0:Nat):Int)*1=lo:=by simp
  have e2:(((hi-lo).toNat:Nat):Int)-((0:Nat):Int)=Builtin.Range.rangeSize lo hi 1:=by rw [rangeSize_one];split<;>lia
  show IsRangeIter _ _ (lo+((0:Nat):Int)*1) ((((hi-lo).toNat:Nat):Int)-((0:Nat):Int)) 1;rw [e1,e2];exact Heap.get?_push_size _ rfl
 ·have e:b=(s.heap.push { cls:=.type "range",data:=.fields #[.int lo t,.int hi u,.int 1 v] }).objs.size:=by simpa using hb
  subst e;exact I1.fpOk (Nat.le_refl _) (I1.hok.fresh (Nat.le_refl _))
noncomputable def iRng1(ta:TA):TI:=fun σ H R=>ta σ H fun vs H1=>∃j:Int,vs=[.int j]/\-(2 ^ 62)<=j/\j<2 ^ 62/\R (Itr 0 j.toNat) H1
theorem pi_range1{a:Expr}{ta:TA}{p pos:Pos}(hg:Gl X "range")(hm:X.mg "range"=none)(ha:PA X [a] ta)(hs:starEach [a] X.env=[(false,eval a X.env)]:=by rfl):PI X tg (.Call (.Name "range" p) [a] [] pos) (iRng1 ta):=by
 intro pins s σ H R I h;refine Call_ (ld_blt I hg hm boot_range (PyProof.Rows.callWith_type1 (thn (ha pos pins s σ H _ I h) fun us s1 ⟨vs,H1,I1,r1,q1⟩=>?_) hs rfl));obtain ⟨j,e,q1,q2,q⟩:=q1;subst e;cases r1 with
 |cons r rr=>
  cases rr;obtain ⟨t,rfl⟩:=r;exact call_range_1 (range_it I1 (by lia) (by lia) q1 q2 (by simpa using q))
noncomputable def tFor(wi:TI)(g:TG)(tb:TS):TS:=fun D σ H=>wi σ H fun J H1=>∃W:Nat->Nat->St->Hp->Prop,(∃m,W 0 m σ H1)/\∀i m σ H,W i m σ H->
 (J.stop i H/\D.nx σ H)\/(J.go i H/\∃N:St->Hp->Prop,(∀σ' H',N σ' H'->∃m',m'<m/\W (i+1) m' σ' H')/\∀x H',J.yld i H x H'->g x σ H' fun σ2 H2=>tb { D with nx:=N,ct:=N,bk:=D.nx } σ2 H2)
noncomputable def pinsAt(fp:List Addr)(h:Heap):List (Addr×Obj):=fp.filterMap fun b=>(h.get? b).map fun o=>(b,o)
theorem mem_pinsAt{fp:List Addr}{h:Heap}{b:Addr}{o:Obj}(hb:b∈fp)(e:h.get? b=some o):(b,o)∈pinsAt fp h:=List.mem_filterMap.mpr ⟨b,hb,by rw [e];rfl⟩
theorem of_pinsAt{fp:List Addr}{h:Heap}{p:Addr×Obj}(hp:p∈pinsAt fp h):p.1∈fp/\h.get? p.1=some p.2:=by
 obtain ⟨b,hb,e⟩:=List.mem_filterMap.mp hp;cases q:h.get? b with
 |none=>rw [q] at e;cases e
 |some o=>
  rw [q] at e;have e':(b,o)=p:=Option.some.inj e;subst e';exact ⟨hb,q⟩
theorem Inv.pinned{pins:List (Addr×Obj)}{σ:St}{H:Hp}{s:Shared}{fp:List Addr}(I:Inv X pins σ H s)(hf:∀b∈fp,FpOk X pins H b)(ho:∀b∈fp,∃o,s.heap.get? b=some o/\∀v,o.data≠.cell v):Inv X (pins++pinsAt fp s.heap) σ H s:=
 I.pins_of fun p hp=>(List.mem_append.mp hp).elim (fun z=>I.pin p (List.mem_append_right _ z)) fun z=>by
  obtain ⟨hb,e⟩:=of_pinsAt z;obtain ⟨f0,f1,f2,_⟩:=hf p.1 hb;obtain ⟨o,e',d⟩:=ho p.1 hb;rw [e] at e';cases e';exact ⟨e,f0,f1,f2,d⟩
theorem Inv.unpinned{pins pl:List (Addr×Obj)}{σ:St}{H:Hp}{s:Shared}(I:Inv X (pins++pl) σ H s):Inv X pins σ H s:=I.pins_of fun p hp=>I.pin p (List.mem_append_right _ (List.mem_append_left _ hp))
theorem ps_for{iter:Expr}{body:List Stmt}{wi:TI}{g:TG}{tb:TS}{pos:Pos}(hp:PassesOwn (model X.prog X.w) X.A X.env X.xe)(hc:X.calm=true)(hi:PI X tg iter wi)(hg:PG X tg g)(hb:PSs X body tb)
  (hs:∀x,foldedSetIterable iter X.env x=pure x:=by intro _;rfl):PS X (.For tg iter body [] pos) (tFor wi g tb):=by
 intro pins s σ H D I h;refine wpAny_For (thn (hi pins s σ H _ I h) fun v s1 h1=>thn h1 fun itv s2 h2=>?_) hs;obtain ⟨it,fp,tn,J,H2,e,I2,T,st2,f2,W,⟨m0,w0⟩,turn⟩:=h2;subst e
 -- what stays true of the iterator's objects through the loop
 have stat:∀{H':Hp},(∀b∈fp,H' b=none)->∀b∈fp,FpOk X pins H' b:=fun hn b hb=>⟨hn b hb,(f2 b hb).2⟩;refine codeAny_forLoop_any (fun n s'=>∃i σ' H',Inv X pins σ' H' s'/\tn i s'.heap/\(∀b∈fp,H' b=none)/\W i n σ' H') ?_ m0 ⟨0,σ,H2,I2,st2,fun b hb=>(f2 b hb).1,w0⟩
 rintro n s3 ⟨i,σ3,H3,I3,st3,fr3,w3⟩
 rcases turn i n σ3 H3 w3 with ⟨stop,qn⟩|⟨go,N,hN,step⟩
 ·refine wpAny_passesOwn hp (thn (T.done X rfl rfl rfl hc i pins s3 σ3 H3 X.xe I3 (stat fr3) st3 stop) fun r s4 ⟨hr,I4⟩=>?_)
  subst hr;exact wpAny_execs_nil ⟨σ3,H3,I4,qn⟩
 ·refine wpAny_passesOwn hp (thn (T.item X rfl rfl rfl hc i pins s3 σ3 H3 X.xe I3 (stat fr3) st3 go) fun r s4 ⟨u,hr,h4⟩=>?_)
  subst hr;refine wpAny_passesOwn hp (thn h4 fun _ s5 ⟨x,H5,I5,r5,y5,st5,fr5⟩=>?_);have I5':=I5.pinned (stat fr5) (T.obj _ _ st5);refine wpAny_passesOwn hp (thn (hg _ s5 σ3 H5 x u _ I5' r5 (step x H5 y5)) fun _ s6 ⟨σ6,H6,I6,q6⟩=>?_);refine wpAny_passesOwn hp (thn (hb _ s6 σ6 H6 _ I6 q6) fun f s7 q7=>?_);have again:∀{σ7:St} {H7:Hp},Inv X (pins++pinsAt fp s5.heap) σ7 H7 s7->N σ7 H7->∃m,m<n/\∃i σ' H',Inv X pins σ' H' s7/\tn i s7.heap/\(∀b∈fp,H' b=none)/\W i m σ' H':=fun {σ7 H7} I7 n7=>by
   obtain ⟨m',hm,w7⟩:=hN σ7 H7 n7;refine ⟨m',hm,i+1,σ7,H7,I7.unpinned,T.keep _ _ _ st5 fun b hb o e=>(I7.pin (b,o) (List.mem_append_right _ (List.mem_append_right _ (mem_pinsAt hb e)))).1,fun b hb=>?_,w7⟩;obtain ⟨o,e,d⟩:=T.obj _ _ st5 b hb;exact (I7.pin (b,o) (List.mem_append_right _ (List.mem_append_right _ (mem_pinsAt hb e)))).2.1
  cases f with
  |next=>obtain ⟨σ7,H7,I7,n7⟩:=q7;exact again I7 n7
  |cont=>obtain ⟨σ7,H7,I7,n7⟩:=q7;exact again I7 n7
  |brk=>obtain ⟨σ7,H7,I7,q7⟩:=q7;exact ⟨σ7,H7,I7.unpinned,q7⟩
  |ret v=>obtain ⟨x7,σ7,H7,I7,r7,q7⟩:=q7;exact ⟨x7,σ7,H7,I7.unpinned,r7,q7⟩
end
end L2
namespace L2
open PySem PySem.Spec PyProof.Rows
noncomputable abbrev R2:=V->V->Hp->VK->Prop
noncomputable def OpR(X:Cx)(f:Value->Value->Sem Value)(r:R2):Prop:=
 ∀(pins:List (Addr×Obj)) (s:Shared) (σ:St) (H:Hp) (x y:V) (v u:Value) (Q:VK),Inv X pins σ H s->RelV x v->RelV y u->r x y H Q->
  wpAny (model X.prog X.w) X.A (f v u) (EP X pins σ Q) X.xe s
noncomputable def UnR(X:Cx)(f:Value->Sem Value)(r:V->Hp->VK->Prop):Prop:=
 ∀(pins:List (Addr×Obj)) (s:Shared) (σ:St) (H:Hp) (x:V) (v:Value) (Q:VK),Inv X pins σ H s->RelV x v->r x H Q->
  wpAny (model X.prog X.w) X.A (f v) (EP X pins σ Q) X.xe s
noncomputable def CallR(X:Cx)(f:Value)(r:List V->Hp->VK->Prop):Prop:=
 ∀(pins:List (Addr×Obj)) (s:Shared) (σ:St) (H:Hp) (xs:List V) (us:List Value) (Q:VK),Inv X pins σ H s->Vals xs us->r xs H Q->
  wpAny (model X.prog X.w) X.A (call f us) (EP X pins σ Q) X.xe s
noncomputable def TruR(X:Cx)(r:V->Hp->(Bool->Hp->Prop)->Prop):Prop:=
 ∀(pins:List (Addr×Obj)) (s:Shared) (σ:St) (H:Hp) (x:V) (v:Value) (Q:Bool->Hp->Prop),Inv X pins σ H s->RelV x v->r x H Q->
  wpAny (model X.prog X.w) X.A (truthy v) (TP X pins σ Q) X.xe s
noncomputable def tOp(r:R2)(ta tb:TE):TE:=fun σ H Q=>ta σ H fun x H1=>tb σ H1 fun y H2=>r x y H2 Q
noncomputable def tUn(r:V->Hp->VK->Prop)(ta:TE):TE:=fun σ H Q=>ta σ H fun x H1=>r x H1 Q
noncomputable def rI(C:Int->Int->Prop)(g:Int->Int->V):R2:=fun x y H Q=>∃i j,x=.int i/\y=.int j/\C i j/\Q (g i j) H
noncomputable def rI0(g:Int->Int->V):R2:=fun x y H Q=>∃i j,x=.int i/\y=.int j/\Q (g i j) H
noncomputable def rU(g:Int->V):V->Hp->VK->Prop:=fun x H Q=>∃i,x=.int i/\Q (g i) H
section
variable {X:Cx}{a b c:Expr}{ta tb tc:TE}{pos:Pos}
theorem binT(ha:PE X a ta)(hb:PE X b tb){pins:List (Addr×Obj)}{s:Shared}{σ:St}{H:Hp}{R:V->V->Hp->Prop}(I:Inv X pins σ H s)
  (h:ta σ H fun x H1=>tb σ H1 fun y H2=>R x y H2) {Q:Value->Shared->Prop} {f:Value->Value->Sem Value}
  (hf:∀v u s2 x y H2,Inv X pins σ H2 s2->RelV x v->RelV y u->R x y H2->wpAny (model X.prog X.w) X.A (f v u) Q X.xe s2):
  wpAny (model X.prog X.w) X.A (eval a X.env) (fun v s₁=>wpAny (model X.prog X.w) X.A (eval b X.env) (fun u s₂=>wpAny (model X.prog X.w) X.A (f v u) Q X.xe s₂) X.xe s₁) X.xe s:=by
 refine thn (ha pins s σ H _ I h) fun v s1 ⟨x,H1,I1,r1,q1⟩=>?_;refine thn (hb pins s1 σ H1 _ I1 q1) fun u s2 ⟨y,H2,I2,r2,q2⟩=>?_;exact hf v u s2 x y H2 I2 r1 r2 q2
theorem pe_op{op:Operator}{r:R2}(ho:OpR X (binaryOp op) r)(ha:PE X a ta)(hb:PE X b tb):PE X (.BinOp a op b pos) (tOp r ta tb):=by
 intro pins s σ H Q I h;exact wpAny_BinOp (binT ha hb I h fun v u s2 x y H2 I2 rx ry q=>ho pins s2 σ H2 x y v u Q I2 rx ry q)
theorem pe_un{op:UnaryOp}{r:V->Hp->VK->Prop}(ho:UnR X (unaryOp op) r)(ha:PE X a ta):PE X (.UnaryOp op a pos) (tUn r ta):=by
 intro pins s σ H Q I h;exact UnaryOp_ (thn (ha pins s σ H _ I h) fun v s1 ⟨x,H1,I1,r1,q1⟩=>ho pins s1 σ H1 x v Q I1 r1 q1)
theorem opI{f:Value->Value->Sem Value}{C:Int->Int->Prop}{g:Int->Int->Int}
  (rule:∀(i j:Int) (t u:Tok) (s:Shared) (Q:Value->Shared->Prop) (E:Value->Shared->Prop),C i j->Q (.int (g i j) s.toks) { s with toks:=s.toks+1 }->wpAny (model X.prog X.w) X.A (f (.int i t) (.int j u)) Q E s):
  OpR X f (rI C fun i j=>.int (g i j)):=by
 intro pins s σ H x y v u Q I rx ry h;obtain ⟨i,j,rfl,rfl,hc,q⟩:=h;obtain ⟨t,rfl⟩:=rx;obtain ⟨t',rfl⟩:=ry;exact rule i j t t' s _ _ hc ⟨.int (g i j),H,I.tok _,⟨_,rfl⟩,q⟩
theorem opI0{f:Value->Value->Sem Value}{g:Int->Int->Int}
  (rule:∀(i j:Int) (t u:Tok) (s:Shared) (Q:Value->Shared->Prop) (E:Value->Shared->Prop),Q (.int (g i j) s.toks) { s with toks:=s.toks+1 }->wpAny (model X.prog X.w) X.A (f (.int i t) (.int j u)) Q E s):
  OpR X f (rI0 fun i j=>.int (g i j)):=by
 intro pins s σ H x y v u Q I rx ry h;obtain ⟨i,j,rfl,rfl,q⟩:=h;obtain ⟨t,rfl⟩:=rx;obtain ⟨t',rfl⟩:=ry;exact rule i j t t' s _ _ ⟨.int (g i j),H,I.tok _,⟨_,rfl⟩,q⟩
theorem opB0{f:Value->Value->Sem Value}{g:Int->Int->Bool}
  (rule:∀(i j:Int) (t u:Tok) (s:Shared) (Q:Value->Shared->Prop) (E:Value->Shared->Prop),Q (.bool (g i j)) s->wpAny (model X.prog X.w) X.A (f (.int i t) (.int j u)) Q E s):
  OpR X f (rI0 fun i j=>.bl (g i j)):=by
 intro pins s σ H x y v u Q I rx ry h;obtain ⟨i,j,rfl,rfl,q⟩:=h;obtain ⟨t,rfl⟩:=rx;obtain ⟨t',rfl⟩:=ry;exact rule i j t t' s _ _ ⟨.bl (g i j),H,I,rfl,q⟩
noncomputable def CPow(i j:Int):Prop:=0<=j/\j<=1000000/\i.natAbs<2 ^ 64
noncomputable def CMul(i j:Int):Prop:=(-(2 ^ 64)<i/\i<2 ^ 64)\/(-(2 ^ 64)<j/\j<2 ^ 64)
theorem CMul.ok{i j:Int}(h:CMul i j):IntMulOk i j:=by
 rcases h with ⟨h1,h2⟩|⟨h1,h2⟩
 ·exact .of_left (intBits_le_64 h1 h2)
 ·exact .of_right (intBits_le_64 h1 h2)
theorem op_add:OpR X (binaryOp .Add) (rI0 fun i j=>.int (i+j)):=opI0 fun _ _ _ _ _ _ _ q=>add_int q
theorem op_sub:OpR X (binaryOp .Sub) (rI0 fun i j=>.int (i-j)):=opI0 fun _ _ _ _ _ _ _ q=>sub_int q
theorem op_mul:OpR X (binaryOp .Mult) (rI CMul fun i j=>.int (i*j)):=opI fun _ _ _ _ _ _ _ hc q=>mul_int q hc.ok
theorem op_mod:OpR X (binaryOp .Mod) (rI (fun _ j=>0<j) fun i j=>.int (i % j)):=opI fun i j _ _ _ _ _ hc q=>by
 have h1:(0:Int)<j:=hc;exact mod_int' (by lia) (by rw [Int.fmod_eq_emod_of_nonneg i (by lia)];exact q)
theorem op_pow:OpR X (binaryOp .Pow) (rI CPow fun i j=>.int (i ^ j.toNat)):=opI fun _ _ _ _ _ _ _ hc q=>pow_int_small hc.1 hc.2.1 hc.2.2 q
theorem op_xor:OpR X (binaryOp .BitXor) (rI0 fun i j=>.int (Builtin.bitXor i j)):=opI0 fun _ _ _ _ _ _ _ q=>xor_int q
theorem unI{f:Value->Sem Value}{g:Int->Int}
  (rule:∀(i:Int) (t:Tok) (s:Shared) (Q:Value->Shared->Prop) (E:Value->Shared->Prop),Q (.int (g i) s.toks) { s with toks:=s.toks+1 }->wpAny (model X.prog X.w) X.A (f (.int i t)) Q E s):
  UnR X f (rU fun i=>.int (g i)):=by
 intro pins s σ H x v Q I rx h;obtain ⟨i,rfl,q⟩:=h;obtain ⟨t,rfl⟩:=rx;exact rule i t s _ _ ⟨.int (g i),H,I.tok _,⟨_,rfl⟩,q⟩
theorem un_neg:UnR X (unaryOp .USub) (rU fun i=>.int (-i)):=unI fun _ _ _ _ _ q=>neg_int q
end
section
variable {X:Cx}{a b c:Expr}{ta tb tc:TE}{pos:Pos}
theorem fin_bl{pins:List (Addr×Obj)}{σ:St}{H:Hp}{s:Shared}{Q:VK}{k k':Bool}(I:Inv X pins σ H s)(q:Q (.bl k) H)(e:k=k'):EP X pins σ Q (.bool k') s:=by
 subst e;exact ⟨.bl k,H,I,rfl,q⟩
theorem op_lt:OpR X (compareOp .Lt) (rI0 fun i j=>.bl (decide (i<j))):=opB0 fun _ _ _ _ _ _ _ q=>lt_int q
theorem op_le:OpR X (compareOp .LtE) (rI0 fun i j=>.bl (decide (i<=j))):=opB0 fun _ _ _ _ _ _ _ q=>le_int q
theorem op_gt:OpR X (compareOp .Gt) (rI0 fun i j=>.bl (decide (j<i))):=opB0 fun _ _ _ _ _ _ _ q=>gt_int q
theorem op_isN:OpR X (compareOp .Is) (fun x y H Q=>y=.non/\Q (.bl (decide (x=.non))) H):=by
 intro pins s σ H x y v u Q I rx ry h;obtain ⟨rfl,q⟩:=h;cases ry;refine is_none_gen (fin_bl I q ?_)
 cases x<;>first
  |(cases rx;rfl)
  |(obtain ⟨t,rfl⟩:=rx;rfl)
theorem op_notN:OpR X (compareOp .IsNot) (fun x y H Q=>y=.non/\Q (.bl (!decide (x=.non))) H):=by
 intro pins s σ H x y v u Q I rx ry h;obtain ⟨rfl,q⟩:=h;cases ry;refine isnot_none_gen (fin_bl I q ?_)
 cases x<;>first
  |(cases rx;rfl)
  |(obtain ⟨t,rfl⟩:=rx;rfl)
theorem nomark(b:Expr){op:CmpOp}(h:op≠.In:=by decide)(h2:op≠.NotIn:=by decide):behindInMarks op b=false:=by
 have e1:(op==CmpOp.In)=false:=by cases op<;>first|rfl|exact absurd rfl h
 have e2:(op==CmpOp.NotIn)=false:=by cases op<;>first|rfl|exact absurd rfl h2
 cases b<;>simp [behindInMarks,e1,e2]
theorem pe_cmpR{op:CmpOp}{r:R2}(ho:OpR X (compareOp op) r)(ha:PE X a ta)(hb:PE X b tb)(hm:behindInMarks op b=false):PE X (.Compare a [op] [b] pos) (tOp r ta tb):=by
 intro pins s σ H Q I h;exact wpAny_Compare1 (binT ha hb I h fun v u s2 x y H2 I2 rx ry q=>ho pins s2 σ H2 x y v u Q I2 rx ry q) hm
noncomputable def tTest(t:TE):TT:=fun σ H Q=>t σ H fun x H'=>∃k,x=.bl k/\Q k H'
theorem pt_cmpR{op:CmpOp}{r:R2}(ho:OpR X (compareOp op) r)(ha:PE X a ta)(hb:PE X b tb)(hm:behindInMarks op b=false):PT X (.Compare a [op] [b] pos) (tTest (tOp r ta tb)):=by
 intro pins s σ H Q I h;refine wpAny_isTrue_Compare1 (thn (ha pins s σ H _ I h) fun v s1 ⟨x,H1,I1,r1,q1⟩=>thn (hb pins s1 σ H1 _ I1 q1) fun u s2 ⟨y,H2,I2,r2,q2⟩=>
  thn (ho pins s2 σ H2 x y v u _ I2 r1 r2 q2) fun c s3 ⟨z,H3,I3,r3,k,e,q3⟩=>?_) hm
 subst e;cases r3;exact wpAny_truthy_bool ⟨H3,I3,q3⟩
noncomputable def tChain(r r':R2)(ta tb tc:TE):TE:=fun σ H Q=>ta σ H fun x H1=>tb σ H1 fun y H2=>r x y H2 fun z H3=>∃k,z=.bl k/\
 (if k=true then tc σ H3 fun w' H4=>r' y w' H4 Q else Q (.bl false) H3)
theorem pe_chain{op op':CmpOp}{r r':R2}(ho:OpR X (compareOp op) r)(ho':OpR X (compareOp op') r')(ha:PE X a ta)(hb:PE X b tb)(hc:PE X c tc)
  (hm:lastMarks [op,op'] [b,c]=false:=by with_unfolding_all rfl):PE X (.Compare a [op,op'] [b,c] pos) (tChain r r' ta tb tc):=by
 intro pins s σ H Q I h;refine Compare_chain (thn (ha pins s σ H _ I h) fun v s1 ⟨x,H1,I1,r1,q1⟩=>chain_link (thn (hb pins s1 σ H1 _ I1 q1) fun u s2 ⟨y,H2,I2,r2,q2⟩=>
  thn (ho pins s2 σ H2 x y v u _ I2 r1 r2 q2) fun d s3 ⟨z,H3,I3,r3,k,e,q3⟩=>?_)) hm
 subst e;cases r3;refine wpAny_truthy_bool ?_;cases k with
 |false=>exact ite_ff ⟨.bl false,H3,I3,rfl,q3⟩
 |true=>exact ite_tt (chain_last (thn (hc pins s3 σ H3 _ I3 q3) fun w' s4 ⟨z',H4,I4,r4,q4⟩=>ho' pins s4 σ H4 y z' u w' Q I4 r2 r4 q4))
theorem pt_chain{op op':CmpOp}{r r':R2}(ho:OpR X (compareOp op) r)(ho':OpR X (compareOp op') r')(ha:PE X a ta)(hb:PE X b tb)(hc:PE X c tc)
  (hm:lastMarks [op,op'] [b,c]=false:=by with_unfolding_all rfl):PT X (.Compare a [op,op'] [b,c] pos) (tTest (tChain r r' ta tb tc)):=by
 intro pins s σ H Q I h;refine isTrue_chain (thn (ha pins s σ H _ I h) fun v s1 ⟨x,H1,I1,r1,q1⟩=>test_link (thn (hb pins s1 σ H1 _ I1 q1) fun u s2 ⟨y,H2,I2,r2,q2⟩=>
  thn (ho pins s2 σ H2 x y v u _ I2 r1 r2 q2) fun d s3 ⟨z,H3,I3,r3,k,e,q3⟩=>?_)) hm
 subst e;cases r3;refine wpAny_truthy_bool ?_;cases k with
 |false=>
  obtain ⟨k',e',q'⟩:=q3;cases e';exact ite_ff ⟨H3,I3,q'⟩
 |true=>
  refine ite_tt (test_last (thn (hc pins s3 σ H3 _ I3 q3) fun w' s4 ⟨z',H4,I4,r4,q4⟩=>thn (ho' pins s4 σ H4 y z' u w' _ I4 r2 r4 q4) fun d' s5 ⟨z2,H5,I5,r5,k2,e2,q5⟩=>?_));subst e2;cases r5;exact wpAny_truthy_bool ⟨H5,I5,q5⟩
noncomputable def TruV(K:PySem.W.Frag)(x:V)(H:Hp)(k:Bool):Prop:=
 match x with
 |.non=>k=false
 |.bl b=>k=b
 |.int i=>k=(i != 0)
 |.str y=>y.length<=sizeLine/\k=((y.length:Int) != 0)
 |.byt y=>y.size<=sizeLine/\k=((y.size:Int) != 0)
 |.ref p=>(∃xs,SqL K H p xs/\k=!xs.isEmpty)\/(∃xs,SqT K H p xs/\k=!xs.isEmpty)\/∃kvs,H p=some (.dK kvs)/\k=!kvs.isEmpty
 |_=>False
theorem isEmpty_kv{κ:Type}{kvs:List (κ×V)}{vs:List (κ×Value)}(r:KV kvs vs):(!vs.isEmpty)=!kvs.isEmpty:=by
 cases r<;>rfl
theorem isEmpty_of{xs:List V}{its:List Value}(r:Vals xs its):(!its.toArray.isEmpty)=!xs.isEmpty:=by
 cases r<;>simp
theorem line63:(sizeLine:Nat)<2 ^ 63:=by rw [sizeLine_eq];decide
theorem tru_ok:TruR X (fun x H Q=>∃k,TruV X.K x H k/\Q k H):=by
 intro pins s σ H x v Q I rx h;obtain ⟨k,e,q⟩:=h;have hl:=line63;have hs:sizeLine=16777216:=sizeLine_eq;cases x with
 |non=>
  cases rx;have e':k=false:=e;subst e';exact truthy_none ⟨H,I,q⟩
 |bl b=>
  cases rx;have e':k=b:=e;subst e';exact wpAny_truthy_bool ⟨H,I,q⟩
 |int i=>
  obtain ⟨t,rfl⟩:=rx;have e':k=(i != 0):=e;subst e';exact PySem.P.truthy_int ⟨H,I,q⟩
 |str y=>
  obtain ⟨t,rfl⟩:=rx;obtain ⟨hy,e'⟩:y.length<=sizeLine/\k=((y.length:Int) != 0):=e;subst e';exact PySem.P.truthy_str (by lia) ⟨H,I.tok _,q⟩
 |byt y=>
  obtain ⟨t,rfl⟩:=rx;obtain ⟨hy,e'⟩:y.size<=sizeLine/\k=((y.size:Int) != 0):=e;subst e';exact PySem.W.truthy_bytes (by lia) ⟨H,I.tok _,q⟩
 |ref p=>
  cases rx;have e':(∃xs,SqL X.K H p xs/\k=!xs.isEmpty)\/(∃xs,SqT X.K H p xs/\k=!xs.isEmpty)\/∃kvs,H p=some (.dK kvs)/\k=!kvs.isEmpty:=e;rcases e' with ⟨xs,hx,e'⟩|⟨xs,hx,e'⟩|⟨kvs,hx,e'⟩
  ·subst e'
   obtain ⟨its,r,pl,hz⟩:=I.list hx;have hlen:=r.length;exact wpAny_truthy_list pl.isList (by simp only [List.size_toArray];lia) ⟨H,I.tok _,by rw [isEmpty_of r];exact q⟩
  ·subst e'
   obtain ⟨its,r,pl,hz⟩:=I.tuple hx;have hlen:=r.length;exact truthy_tuple pl (by simp only [List.size_toArray];lia) ⟨H,I.tok _,by rw [isEmpty_of r];exact q⟩
  ·subst e'
   obtain ⟨hz,hS,vs,r,m⟩:kvs.length<=sizeLine/\(p==sysModules)=false/\∃vs,KV kvs vs/\s.heap.DictOf (mixKind X.prog X.w) p vs:=I.hok p _ hx;have hlen:kvs.length=vs.length:=Paired.length r;exact wpAny_truthy_dict hS m (by lia) ⟨H,I.tok _,by rw [isEmpty_kv r];exact q⟩
 |_=>exact (show False from e).elim
theorem pt_truth(ha:PE X a ta)(he:∀whole,isTrue a X.env whole=(do let v <- whole;standAt a.pos;holding [v] (truthy v))):
  PT X a (fun σ H Q=>ta σ H fun x H'=>∃k,TruV X.K x H' k/\Q k H'):=by
 intro pins s σ H Q I h;exact isTrue_plain (thn (ha pins s σ H _ I h) fun v s1 ⟨x,H1,I1,r1,q1⟩=>tru_ok pins s1 σ H1 x v Q I1 r1 q1) (he _)
theorem op_add_str:OpR X (binaryOp .Add) (fun x y H Q=>∃i j,x=.str i/\y=.str j/\i.length+j.length<=sizeLine/\Q (.str (i++j)) H):=by
 intro pins s σ H x y v u Q I rx ry h;obtain ⟨i,j,rfl,rfl,hz,q⟩:=h;obtain ⟨t,rfl⟩:=rx;obtain ⟨t',rfl⟩:=ry;exact add_str (fun t' tk=>⟨.str (i++j),H,I.tok _,⟨_,rfl⟩,q⟩) hz
theorem vals1{x:V}{us:List Value}(r:Vals [x] us):∃u,us=[u]/\RelV x u:=by
 cases r with
 |cons r1 r2=>cases r2;exact ⟨_,rfl,r1⟩
theorem vals2{x y:V}{us:List Value}(r:Vals [x,y] us):∃u w',us=[u,w']/\RelV x u/\RelV y w':=by
 cases r with
 |cons r1 r2=>
  cases r2 with
  |cons r3 r4=>cases r4;exact ⟨_,_,rfl,r1,r3⟩
theorem call_min2(hc:X.calm=true):CallR X (.builtin "min") (fun xs H Q=>∃i j,xs=[.int i,.int j]/\Q (.int (if j<i then j else i)) H):=by
 intro pins s σ H xs us Q I r h;obtain ⟨i,j,rfl,q⟩:=h;obtain ⟨u,w',rfl,⟨t,rfl⟩,⟨t',rfl⟩⟩:=vals2 r;refine min_two_ints (I.ok.hd hc) fun h' tk k=>⟨_,H,I.kept k,?_,q⟩
 by_cases hj:j<i
 ·rw [if_pos hj,if_pos hj];exact ⟨_,rfl⟩
 ·rw [if_neg hj,if_neg hj];exact ⟨_,rfl⟩
end
end L2
namespace L2
open PySem PySem.Spec PyProof.Rows
structure ObjM(h:Heap)(x dx C:Addr)(mA:Str->Option Value):Prop where
 obj:h.get? x=some (PySem.W.instObj C dx)
 ns:h.Ns1 dx mA
 ne:dx≠x
theorem lookIn_ns{h:Heap}{dx:Addr}{mA:Str->Option Value}(n:h.Ns1 dx mA):∃od,h.get? dx=some od/\∀name,PySem.W.lookIn name od=some (mA name):=by
 obtain ⟨o,es,ep,ho,hd,hk,_,hm⟩:=n;refine ⟨o,ho,fun name=>?_⟩;have e:=hm name;unfold nsFind findBy at e;rw [<- Array.find?_toList] at e;unfold PySem.W.lookIn;rw [hd];dsimp only
 split
 ·rename_i y q
  rw [q] at e;exact congrArg some e
 ·rename_i q
  rw [q] at e;have a:es.toList.any (·.refKey)=false:=by
   rw [List.any_eq_false];intro y hy;obtain ⟨z,t,hkey⟩:=hk y (Array.mem_toList_iff.mp hy);simp [DictEntry.refKey,hkey]
  have a':¬es.toList.any (·.refKey)=true:=by rw [a];exact Bool.false_ne_true
  rw [if_neg a'];exact congrArg some e
theorem ObjM.look{h:Heap}{x dx C:Addr}{mA:Str->Option Value}(I:ObjM h x dx C mA):∃od,PySem.W.InstAt h x (PySem.W.instObj C dx) C (some od)/\∀name,PySem.W.lookIn name od=some (mA name):=
 let ⟨od,ho,hl⟩:=lookIn_ns I.ns
 ⟨od,⟨I.obj,rfl,rfl,ho⟩,hl⟩
section
variable {prog:Program}{w:World}{A:Around}{E:Value->Shared->Prop}{s:Shared}{K:PySem.W.Frag}{x dx C f:Addr}{mA:Str->Option Value}{name:Str}{v:Value}
theorem get_map{expr:Bool}{Q:Value->Shared->Prop}(X:K.In s.heap)(I:ObjM s.heap x dx C mA)(hg:PySem.W.plainGet K C name=true)(hh:PySem.W.hasDictIn K C=true)
  (ha:PySem.W.findIn K (.ref C) name=some none) (hv:mA name=some v) (hv':PySem.W.handedIn v=true) (h:Q v { s with toks:=s.toks+1 }):
  wpAny (model prog w) A (getAttr (.ref x) name expr) Q E s:=by
 obtain ⟨od,J,hl⟩:=I.look;exact PySem.W.get_value X J (PySem.W.plainGet_of hg).1 (PySem.W.findObj_own hh ha rfl (by rw [hl,hv])) hv' h
theorem get_meth{pl:Sem Bool}{Q:Value×List Value->Shared->Prop}(X:K.In s.heap)(I:ObjM s.heap x dx C mA)(hg:PySem.W.plainGet K C name=true)
  (hf:PySem.W.findIn K (.ref C) name=some (some (.ref f))) (ht:PySem.W.isFn K (.ref f)=true) (hv:mA name=none) (h:Q (.ref f,[.ref x]) s):
  wpAny (model prog w) A (getMethod (.ref x) name pl) Q E s:=by
 obtain ⟨od,J,hl⟩:=I.look;exact PySem.W.method_fn X J (PySem.W.plainGet_of hg).1 (PySem.W.plainGet_of hg).2 hf (beq_iff_eq.mp ht) (by show (PySem.W.lookIn name od).map (·.isSome)=some false;rw [hl,hv];rfl) h
theorem set_map{ns:List Str}{Q:Unit->Shared->Prop}(X:K.In s.heap)(I:ObjM s.heap x dx C mA)
  (hs:PySem.W.findIn K (.ref C) "__setattr__"=some (some (.builtin "object.__setattr__"))) (hp:PySem.W.plainOver K C=true) (ht:PySem.W.takerIn K C name=some none) (hh:PySem.W.hasDictIn K C=true)
  (hw:PySem.Within mA ns) (hsz:ns.length<=sizeLine)
  (h:∀h',ObjM h' x dx C (fun y=>if y=name then some v else mA y)->Heap.SameBut dx s.heap h'->Q () { s with heap:=h',toks:=s.toks+2 }):
  wpAny (model prog w) A (setAttr (.ref x) name v) Q E s:=by
 obtain ⟨od,J,hl⟩:=I.look;refine PySem.W.set_plain X J hs (PySem.W.osa_open (s:={ s with toks:=s.toks+1 }) (r:=none) X J hp ht fun b=>?_);obtain ⟨cd,hc,hd'⟩:=PySem.W.any_some hh;have hx:s.heap.get? x=some ⟨.ref C,some dx,.plain,#[]⟩:=I.obj;refine wpAny_bind (wpAny_pure (wpAny_bind (wpAny_bind (wpAny_loadPart hx (wpAny_bind (PySem.W.Looks.here (s:={ s with toks:=s.toks+1 }) (PySem.W.looks_clsIn X hc) ?_))))));rw [hd'];refine wpAny_pure (a:=some dx) (wpAny_bind (wpAny_pure (wpAny_bind ?_)));refine wpAny_nsSet1 (s:={ s with toks:=s.toks+1 }) I.ns fun h' hn2 hs2=>?_;obtain ⟨oD,esD,epD,hoD,hdD,hcD⟩:=hn2.count (PySem.Within.cons name v hw);refine wpAny_bind (wpAny_lookBehind hoD (by rw [hdD];exact pastItsLine_dict (Nat.le_trans hcD (by rw [List.length_cons];lia))) ?_)
 exact wpAny_pure (h _ ⟨(hs2.2 _ (Ne.symm I.ne)).trans I.obj,hn2,I.ne⟩ hs2)
theorem make_map{R:Result->Shared->Prop}{vs:List Value}{kw:List (Str×Value)}(X:K.In s.heap)(hm:PySem.W.makesIn K C=true)
  (hi:PySem.W.findIn K (.ref C) "__init__"=some (some (.ref f))) (hf:PySem.W.typeIn K (.ref f)=some (.type "function"))
  (h:codeAny (model prog w) (A.under (.builtin "type.__call__" ⟨.ref C::vs,kw⟩)) (.call (.ref f) ⟨.ref (s.heap.objs.size+1)::vs,kw⟩) (PySem.W.InitBack (s.heap.objs.size+1) R)
   { s with heap:=(s.heap.push PySem.W.emptyDict).push (PySem.W.instObj C s.heap.objs.size) }):
  codeAny (model prog w) A (.call (.ref C) ⟨vs,kw⟩) R s:=by
 obtain ⟨hh,g,d,t,os⟩:=s;exact PySem.W.make_core (PySem.W.makes_of X hm) (PySem.W.looks_findIn X hi) (fun self=>PySem.W.bind_fn X self hf) (.inl rfl) h
end
noncomputable def putF(f:Str)(v:V):List (Str×V)->List (Str×V)
 |[]=>[(f,v)]
 |(g,x)::r=>if g=f then (g,v)::r else (g,x)::putF f v r
theorem lookup_putF(f g:Str)(v:V):∀fs:List (Str×V),(putF f v fs).lookup g=if g=f then some v else fs.lookup g
 |[]=>by
  show List.lookup g [(f,v)]=_
  by_cases h:g=f
  ·have hb:(g==f)=true:=beq_iff_eq.mpr h
   simp only [List.lookup,hb,if_pos h]
  ·have hb:(g==f)=false:=beq_eq_false_iff_ne.mpr h
   simp only [List.lookup,hb,if_neg h]
 |(k,x)::r=>by
  have ih:=lookup_putF f g v r;rw [show putF f v ((k,x)::r)=(if k=f then (k,v)::r else (k,x)::putF f v r) from rfl]
  by_cases hk:k=f
  ·rw [if_pos hk]
   by_cases h:g=k
   ·have hb:(g==k)=true:=beq_iff_eq.mpr h
    simp only [List.lookup,hb,if_pos (h.trans hk)]
   ·have hb:(g==k)=false:=beq_eq_false_iff_ne.mpr h
    simp only [List.lookup,hb,if_neg (fun e:g=f=>h (e.trans hk.symm))]
  ·rw [if_neg hk]
   by_cases h:g=k
   ·have hb:(g==k)=true:=beq_iff_eq.mpr h
    simp only [List.lookup,hb,if_neg (fun e:g=f=>hk (h.symm.trans e))]
   ·have hb:(g==k)=false:=beq_eq_false_iff_ne.mpr h
    simp only [List.lookup,hb];exact ih
theorem keys_putF(f:Str)(v:V):∀fs:List (Str×V),f∈(putF f v fs).map (·.1)/\∀g,g∈fs.map (·.1)->g∈(putF f v fs).map (·.1)
 |[]=>⟨by simp [putF],fun g h=>by simp at h⟩
 |(k,x)::r=>by
  obtain ⟨i1,i2⟩:=keys_putF f v r;rw [show putF f v ((k,x)::r)=(if k=f then (k,v)::r else (k,x)::putF f v r) from rfl]
  by_cases hk:k=f
  ·rw [if_pos hk]
   subst hk;exact ⟨by simp,fun g h=>by simpa using h⟩
  ·rw [if_neg hk]
   refine ⟨?_,fun g h=>?_⟩
   ·rw [List.map_cons]
    exact List.mem_cons_of_mem _ i1
   ·rw [List.map_cons] at h ⊢
    rcases List.mem_cons.mp h with e|e
    ·exact List.mem_cons.mpr (.inl e)
    ·exact List.mem_cons_of_mem _ (i2 g e)
theorem length_putF(f:Str)(v:V):∀fs:List (Str×V),(putF f v fs).length<=fs.length+1
 |[]=>by simp [putF]
 |(k,x)::r=>by
  have ih:=length_putF f v r;rw [show putF f v ((k,x)::r)=(if k=f then (k,v)::r else (k,x)::putF f v r) from rfl]
  by_cases hk:k=f
  ·rw [if_pos hk,List.length_cons,List.length_cons];lia
  ·rw [if_neg hk,List.length_cons,List.length_cons];lia
theorem RelO.some_of{v:V}{o:Option Value}(r:RelO (some v) o):∃u,o=some u/\RelV v u:=by
 cases o with
 |none=>exact (show False from r).elim
 |some u=>exact ⟨u,rfl,r⟩
theorem RelO.none_of{o:Option Value}(r:RelO none o):o=none:=by
 cases o with
 |none=>rfl
 |some u=>exact (show False from r).elim
theorem handed_of{v:V}{u:Value}(r:RelV v u):PySem.W.handedIn u=true:=by
 cases v with
 |non=>cases (show u=Value.none from r);rfl
 |bl b=>cases (show u=Value.bool b from r);rfl
 |int i=>obtain ⟨t,e⟩:=(show ∃t,u=Value.int i t from r);cases e;rfl
 |str x=>obtain ⟨t,e⟩:=(show ∃t,u=Value.str x t from r);cases e;rfl
 |byt b=>obtain ⟨t,e⟩:=(show ∃t,u=Value.bytes b t from r);cases e;rfl
 |flt b=>obtain ⟨t,e⟩:=(show ∃t,u=Value.float b t from r);cases e;rfl
 |ref a=>cases (show u=Value.ref a from r);rfl
 |ty n=>cases (show u=Value.type n from r);rfl
section
variable {P:Program}{w:World}{H H':Hp}{h h':Heap}{a C dx:Addr}{fs fs':List (Str×V)}
theorem ins_get(hok:HOk P w H h)(e:H a=some (.ins C dx fs)):∃mA,ObjM h a dx C mA/\(∀f,RelO (fs.lookup f) (mA f))/\PySem.Within mA (fs.map (·.1))/\fs.length<=1000/\H dx=some (.own a):=by
 obtain ⟨d,z,ne,ob,mA,n,r,q⟩:=(show ObjOk P w H h a (.ins C dx fs) from hok a _ e);exact ⟨mA,⟨ob,n,ne⟩,r,q,z,d⟩
end
structure Cls(K:PySem.W.Frag)(C:Addr):Prop where
 pg:PySem.W.plainGet K C Str.empty=true
 hd:PySem.W.hasDictIn K C=true
 po:PySem.W.plainOver K C=true
 sa:PySem.W.findIn K (.ref C) "__setattr__"=some (some (.builtin "object.__setattr__"))
theorem Cls.get{K:PySem.W.Frag}{C:Addr}(c:Cls K C)(f:Str):PySem.W.plainGet K C f=true:=c.pg
noncomputable def NoAttr(K:PySem.W.Frag)(C:Addr)(f:Str):Prop:=PySem.W.findIn K (.ref C) f=some none
theorem NoAttr.taker{K:PySem.W.Frag}{C:Addr}{f:Str}(n:NoAttr K C f):PySem.W.takerIn K C f=some none:=by
 unfold PySem.W.takerIn;rw [show PySem.W.findIn K (.ref C) f=some none from n];rfl
structure Meth(K:PySem.W.Frag)(C:Addr)(m:Str)(f:Addr):Prop where
 at_:PySem.W.findIn K (.ref C) m=some (some (.ref f))
 fn:PySem.W.isFn K (.ref f)=true
 kp:PySem.W.keepIn K (.ref f)=true
section
variable {X:Cx}{pins:List (Addr×Obj)}{σ:St}{H:Hp}{s:Shared}{a C dx:Addr}{fs:List (Str×V)}{f:Str}{v:V}{A:Around}{E:Value->Shared->Prop}
theorem getattr_ok{b:Bool}{Q:Value->Shared->Prop}(I:Inv X pins σ H s)(e:H a=some (.ins C dx fs))(c:Cls X.K C)(n:NoAttr X.K C f)(l:fs.lookup f=some v)
  (h:∀u s',Inv X pins σ H s'->RelV v u->Q u s'):wpAny (model X.prog X.w) A (getAttr (.ref a) f b) Q E s:=by
 obtain ⟨mA,O,r,_,_,_⟩:=ins_get I.hok e;obtain ⟨u,hu,ru⟩:=RelO.some_of (v:=v) (o:=mA f) (by rw [<- l];exact r f)
 exact get_map I.kIn O (c.get f) c.hd n hu (handed_of ru) (h u _ (I.tok _) ru)
theorem getmeth_ok{m:Str}{g:Addr}{pl:Sem Bool}{Q:Value×List Value->Shared->Prop}(I:Inv X pins σ H s)(e:H a=some (.ins C dx fs))(c:Cls X.K C)(k:Meth X.K C m g)(l:fs.lookup m=none)
  (h:Q (.ref g,[.ref a]) s):wpAny (model X.prog X.w) A (getMethod (.ref a) m pl) Q E s:=by
 obtain ⟨mA,O,r,_,_,_⟩:=ins_get I.hok e;have hn:mA m=none:=RelO.none_of (by rw [<- l];exact r m)
 exact get_meth I.kIn O (c.get m) k.at_ k.fn hn h
theorem setattr_ok{y:V}{u:Value}{Q:Unit->Shared->Prop}(I:Inv X pins σ H s)(e:H a=some (.ins C dx fs))(c:Cls X.K C)(n:NoAttr X.K C f)(hl:fs.length<1000)(ry:RelV y u)
  (h:∀s',Inv X pins σ (upd H a (.ins C dx (putF f y fs))) s'->Q () s'):wpAny (model X.prog X.w) A (setAttr (.ref a) f u) Q E s:=by
 obtain ⟨mA,O,r,wi,_,ho⟩:=ins_get I.hok e;have hz:(fs.map (·.1)).length<=sizeLine:=by rw [List.length_map,sizeLine_eq];lia
 refine set_map I.kIn O c.sa c.po n.taker c.hd wi hz fun h' O' sb=>h _ ?_;have hd:∃o,h'.get? dx=some o:=let ⟨o,_,_,e',_⟩:=O'.ns;⟨o,e'⟩;refine I.write (x:=a) (e:=dx) (by rw [e];exact True.intro) (.inr ho) (fun b q hb z=>(sb.2 b hb).trans z) hd ?_
 refine ⟨by rw [upd_ne O.ne];exact ho,?_,O.ne,O'.obj,_,O'.ns,fun g=>?_,fun g hg=>?_⟩
 ·have:=length_putF f y fs;lia
 ·show RelO ((putF f y fs).lookup g) (if g=f then some u else mA g)
  rw [lookup_putF]
  by_cases q:g=f
  ·rw [if_pos q,if_pos q];exact ry
  ·rw [if_neg q,if_neg q];exact r g
 ·by_cases q:g=f
  ·rw [q];exact (keys_putF f y fs).1
  ·refine (keys_putF f y fs).2 g (wi g fun z=>hg ?_)
   show (if g=f then some u else mA g)=none
   rw [if_neg q];exact z
theorem Inv.made(I:Inv X pins σ H s):Inv X pins σ (upd (upd H s.heap.objs.size (.own (s.heap.objs.size+1))) (s.heap.objs.size+1) (.ins C s.heap.objs.size []))
  { s with heap:=(s.heap.push PySem.W.emptyDict).push (PySem.W.instObj C s.heap.objs.size) }:=by
 have e1:(s.heap.push PySem.W.emptyDict).get? s.heap.objs.size=some PySem.W.emptyDict:=Heap.get?_push_size s.heap rfl;have e2:((s.heap.push PySem.W.emptyDict).push (PySem.W.instObj C s.heap.objs.size)).get? (s.heap.objs.size+1)=some (PySem.W.instObj C s.heap.objs.size):=by
  have:=Heap.get?_push_size (s.heap.push PySem.W.emptyDict) (o:=PySem.W.instObj C s.heap.objs.size) rfl
  rwa [Heap.size_push] at this
 have e3:(s.heap.push PySem.W.emptyDict).Ns s.heap.objs.size (fun _=>none):=⟨PySem.W.emptyDict,#[],_,e1,rfl,(fun e he=>absurd he (by simp)),fun _=>rfl⟩
 have I1:=I.laid (a:=s.heap.objs.size) (o:=.own (s.heap.objs.size+1)) (h':=s.heap.push PySem.W.emptyDict) (t':=s.toks) (fun b u q=>Heap.get?_push_of_some _ q) (Nat.le_refl _) ⟨_,e1⟩;refine I1.laid (a:=s.heap.objs.size+1) (o:=.ins C s.heap.objs.size []) (t':=s.toks) (fun b u q=>Heap.get?_push_of_some _ q) (Nat.le_of_eq (Heap.size_push _ _)) ?_;have ne:s.heap.objs.size≠s.heap.objs.size+1:=Nat.ne_of_lt (Nat.lt_succ_self _);refine ⟨by rw [upd_ne ne,upd_same],Nat.zero_le _,ne,e2,fun _=>none,(Heap.Ns1.of_empty e3).at fun o q=>Heap.get?_push_of_some _ q,fun _=>True.intro,fun y hy=>absurd rfl hy⟩
theorem attr_of{prog:Program}{w:World}{env:Env}{e:Expr}{f:Str}{pos:Pos}{s:Shared}{Q:Value->Shared->Prop}(hb:attributeBase e f env (eval e env)=eval e env)
  (h:wpAny (model prog w) A (eval e env) (fun o s₁=>wpAny (model prog w) A (getAttr o f true) Q E s₁) E s):wpAny (model prog w) A (eval (.Attribute e f pos) env) Q E s:=
 Attribute_any_ h (by rw [arm_eval_Attribute,hb])
end
noncomputable def tFld(K:PySem.W.Frag)(ta:TE)(f:Str):TE:=fun σ H Q=>ta σ H fun x H1=>∃a C dx fs v,x=.ref a/\H1 a=some (.ins C dx fs)/\Cls K C/\NoAttr K C f/\fs.lookup f=some v/\Q v H1
noncomputable def sFld(K:PySem.W.Frag)(ta tv:TE)(f:Str):TS:=fun D σ H=>tv σ H fun y H1=>ta σ H1 fun x H2=>∃a C dx fs,x=.ref a/\H2 a=some (.ins C dx fs)/\Cls K C/\NoAttr K C f/\fs.length<1000/\
 D.nx σ (upd H2 a (.ins C dx (putF f y fs)))
noncomputable def InOp(X:Cx)(op:Operator)(rd:V->V->Hp->VK->Prop):Prop:=
 ∀(pins:List (Addr×Obj)) (s:Shared) (σ:St) (H:Hp) (x y:V) (u v:Value) (Q:VK),Inv X pins σ H s->RelV x u->RelV y v->rd x y H Q->wpAny (model X.prog X.w) X.A (inplaceOp op u v) (EP X pins σ Q) X.xe s
noncomputable def sFldAug(K:PySem.W.Frag)(ta tv:TE)(rd:V->V->Hp->VK->Prop)(f:Str):TS:=fun D σ H=>ta σ H fun x H1=>∃a C dx fs v,x=.ref a/\H1 a=some (.ins C dx fs)/\Cls K C/\NoAttr K C f/\fs.lookup f=some v/\
 tv σ H1 fun y H2=>rd v y H2 fun z H3=>∃dx' fs',H3 a=some (.ins C dx' fs')/\fs'.length<1000/\D.nx σ (upd H3 a (.ins C dx' (putF f z fs')))
section
variable {X:Cx}{o e value:Expr}{f:Str}{pos pos' tpos:Pos}{ta tv:TE}
theorem pe_fld(he:PE X e ta)(hb:attributeBase e f X.env (eval e X.env)=eval e X.env):PE X (.Attribute e f pos) (tFld X.K ta f):=by
 intro pins s σ H Q I h;refine attr_of hb (thn (he pins s σ H _ I h) fun u s1 zz=>?_);obtain ⟨x,H1,I1,rx,a,C,dx,fs,v,ex,ea,c,n,l,q⟩:=zz;subst ex;obtain rfl:u=Value.ref a:=rx;exact getattr_ok I1 ea c n l fun u' s2 I2 ru=>⟨v,H1,I2,ru,q⟩
theorem ps_fld(ha:PE X o ta)(hv:PE X value tv)(hs:swapsWith value (some (.Attribute o f pos')) pos.line X.env=pure false):PS X (.Assign [.Attribute o f pos'] value pos) (sFld X.K ta tv f):=by
 intro pins s σ H D I h;refine plainObj_wpAny_Assign_Attribute (thn (hv pins s σ H _ I h) fun u s1 ⟨y,H1,I1,ry,q⟩=>thn (ha pins s1 σ H1 _ I1 q) fun ov s2 zz=>?_) hs;obtain ⟨x,H2,I2,rx,a,C,dx,fs,ex,ea,c,n,l,q2⟩:=zz;subst ex;obtain rfl:ov=Value.ref a:=rx;exact setattr_ok I2 ea c n l ry fun s3 I3=>⟨σ,_,I3,q2⟩
theorem ps_fldaug{op:Operator}{rd:V->V->Hp->VK->Prop}(ha:PE X o ta)(hv:PE X value tv)(hop:InOp X op rd):PS X (.AugAssign (.Attribute o f tpos) op value pos) (sFldAug X.K ta tv rd f):=by
 intro pins s σ H D I h;refine wpAny_AugAssign_AttributeAny (thn (ha pins s σ H _ I h) fun ov s1 zz=>?_);obtain ⟨x,H1,I1,rx,a,C,dx,fs,v,ex,ea,c,n,l,q⟩:=zz;subst ex;obtain rfl:ov=Value.ref a:=rx;refine getattr_ok I1 ea c n l fun u s2 I2 ru=>thn (hv pins s2 σ H1 _ I2 q) fun w3 s3 ⟨y,H2,I3,ry,q3⟩=>thn (hop pins s3 σ H2 v y u w3 _ I3 ru ry q3) fun w4 s4 ⟨z,H3,I4,rz,dx',fs',ea',l',q4⟩=>?_;exact setattr_ok I4 ea' c n l' rz fun s5 I5=>⟨σ,_,I5,q4⟩
noncomputable def rAdd:V->V->Hp->VK->Prop:=fun x y H Q=>∃i j,x=.int i/\y=.int j/\Q (.int (i+j)) H
theorem in_add:InOp X .Add rAdd:=by
 rintro pins s σ H x y u v Q I rx ry ⟨i,j,rfl,rfl,q⟩
 obtain ⟨t,rfl⟩:=(show ∃t,u=Value.int i t from rx);obtain ⟨t',rfl⟩:=(show ∃t',v=Value.int j t' from ry);exact PyProof.Rows.iadd_int ⟨.int (i+j),H,I.tok _,⟨_,rfl⟩,q⟩
theorem methcall_of{pl:Sem Bool}{m:Str}{apos:Pos}{args:List Expr}{pins:List (Addr×Obj)}{s:Shared}{σ:St}{H:Hp}{Q:Value->Shared->Prop}{te:TE}(he:PE X e te)(I:Inv X pins σ H s)
  (h:te σ H fun x H1=>∃a C dx fs g,x=.ref a/\H1 a=some (.ins C dx fs)/\Cls X.K C/\Meth X.K C m g/\fs.lookup m=none/\
   ∀s1,Inv X pins σ H1 s1->wpAny (model X.prog X.w) X.A (callWith pos (.ref g) [.ref a] (backTo pos (starEach args X.env)) (backToKw pos (keywordEach [] X.env))) Q X.xe s1)
  (ht:eval (.Call (.Attribute e m apos) args [] pos) X.env=(do
   let ov <- eval e X.env
   standAt apos.atName
   let (f,first) <- holding [ov] (getMethod ov m pl)
   callWith pos f first (backTo pos (starEach args X.env)) (backToKw pos (keywordEach [] X.env)))):
  wpAny (model X.prog X.w) X.A (eval (.Call (.Attribute e m apos) args [] pos) X.env) Q X.xe s:=by
 refine PySem.W.methodCall_KW (pl:=pl) (thn (he pins s σ H _ I h) fun u s1 zz=>?_) ht;obtain ⟨x,H1,I1,rx,a,C,dx,fs,g,ex,ea,c,k,l,q⟩:=zz;subst ex;obtain rfl:u=Value.ref a:=rx;exact getmeth_ok I1 ea c k l (q s1 I1)
end
section
variable {X:Cx}{pins:List (Addr×Obj)}{σ:St}{H:Hp}{s:Shared}{A:Around}{E:Value->Shared->Prop}{Q:Value->Shared->Prop}{c:Value}{b:Bool}
inductive TyOf(K:PySem.W.Frag)(H:Hp):V->Value->Prop where
 |non:TyOf K H .non (.type "NoneType")
 |bl (x:Bool):TyOf K H (.bl x) (.type "bool")
 |int (i:Int):TyOf K H (.int i) (.type "int")
 |str (x:Str):TyOf K H (.str x) (.type "str")
 |flt (x:UInt64):TyOf K H (.flt x) (.type "float")
 |lst {a:Addr} {xs:List V} (e:H a=some (.lst xs)):TyOf K H (.ref a) (.type "list")
 |frz {a:Addr} {o:Obj} {xs:List V} (e:H a=some (.frz o (.lst xs))):TyOf K H (.ref a) (.type "list")
 |tup {a:Addr} {xs:List V} (e:H a=some (.tup xs)):TyOf K H (.ref a) (.type "tuple")
 |dK {a:Addr} {kvs:List (Key×V)} (e:H a=some (.dK kvs)):TyOf K H (.ref a) (.type "dict")
 |dT {a:Addr} {kvs:List (List Key×V)} (e:H a=some (.dT kvs)):TyOf K H (.ref a) (.type "dict")
 |ins {a C dx:Addr} {fs:List (Str×V)} (e:H a=some (.ins C dx fs)) (cl:Cls K C) (ha:PySem.W.findIn K (.ref C) "__class__"=some (some (.builtin "object.__class__")))
   (hn:PySem.W.specialIn K (.builtin "object.__class__") "__get__"=some (some (.builtin "getset_descriptor.__get__"))) (htk:PySem.W.takesIn K (.builtin "object.__class__")=some true)
   (hm:PySem.W.mroIn K C (.type "object")=some true):TyOf K H (.ref a) (.ref C)
theorem isinst_ok{x:V}{u t:Value}(I:Inv X pins σ H s)(rx:RelV x u)(ty:TyOf X.K H x t)(e:PySem.W.kitOne X.K t c=some b)(h:∀tk,Q (.bool b) { s with toks:=tk }):
  wpAny (model X.prog X.w) A (call (.builtin "isinstance") [u,c]) Q E s:=by
 cases ty with
 |non=>cases (show u=Value.none from rx);exact PySem.W.kia_one PySem.W.kitx_none I.kIn True.intro e (fun z=>nomatch z) h
 |bl y=>cases (show u=Value.bool y from rx);exact PySem.W.kia_one PySem.W.kitx_bool I.kIn True.intro e (fun z=>nomatch z) h
 |int i=>obtain ⟨t,q⟩:=(show ∃t,u=Value.int i t from rx);cases q;exact PySem.W.kia_one PySem.W.kitx_int I.kIn True.intro e (fun z=>nomatch z) h
 |str y=>obtain ⟨t,q⟩:=(show ∃t,u=Value.str y t from rx);cases q;exact PySem.W.kia_one PySem.W.kitx_str I.kIn True.intro e (fun z=>nomatch z) h
 |flt y=>obtain ⟨t,q⟩:=(show ∃t,u=Value.float y t from rx);cases q;exact PySem.W.kia_one PySem.W.kitx_float I.kIn True.intro e (fun z=>nomatch z) h
 |@lst a xs ea=>
  cases (show u=Value.ref a from rx);obtain ⟨_,_,n,_,h1⟩:=(show ObjOk X.prog X.w H s.heap a (.lst xs) from I.hok a _ ea);exact PySem.W.kia_one PySem.W.kitx_list I.kIn ⟨_,h1,rfl⟩ e (fun z=>nomatch z) h
 |@frz a ob xs ea=>
  cases (show u=Value.ref a from rx);obtain ⟨_,_,_,n,_,h1⟩:=(show ObjOk X.prog X.w H s.heap a (.frz ob (.lst xs)) from I.hok a _ ea);exact PySem.W.kia_one PySem.W.kitx_list I.kIn ⟨_,h1,rfl⟩ e (fun z=>nomatch z) h
 |@tup a xs ea=>
  cases (show u=Value.ref a from rx);obtain ⟨_,_,_,p⟩:=(show ObjOk X.prog X.w H s.heap a (.tup xs) from I.hok a _ ea);obtain ⟨o,h1,⟨h2,_⟩,_⟩:=p;exact PySem.W.kia_one PySem.W.kitx_tuple I.kIn ⟨o,h1,h2⟩ e (fun z=>nomatch z) h
 |@dK a kvs ea=>
  cases (show u=Value.ref a from rx);obtain ⟨_,_,vs,_,p⟩:=(show ObjOk X.prog X.w H s.heap a (.dK kvs) from I.hok a _ ea);obtain ⟨o,es,ep,h1,h2,_⟩:=p;exact PySem.W.kia_one PySem.W.kitx_dict I.kIn ⟨o,h1,h2.1⟩ e (fun z=>nomatch z) h
 |@dT a kvs ea=>
  cases (show u=Value.ref a from rx);obtain ⟨_,_,xs,_,o,es,ep,h1,h2,_⟩:=(show ObjOk X.prog X.w H s.heap a (.dT kvs) from I.hok a _ ea);exact PySem.W.kia_one PySem.W.kitx_dict I.kIn ⟨o,h1,h2.1⟩ e (fun z=>nomatch z) h
 |@ins a C dx fs ea cl ha hn htk hm=>
  cases (show u=Value.ref a from rx);obtain ⟨mA,O,_⟩:=ins_get I.hok ea;obtain ⟨od,J,_⟩:=O.look;exact PySem.W.kia_one (PySem.W.kitx_own (cl.get _) cl.hd ha hn htk hm) I.kIn J e (fun z=>nomatch z) h
end
end L2
namespace L2
open PySem PySem.Spec PyProof.Rows
structure Room(k:Nat)(A:Around):Prop where
 hd:A.handled=none
 dp:A.depth+3*k+5<recursionLimit
 un:A.units+16*k+200<cLine
 gd:A.guards=some []
theorem Room.mono{j k:Nat}{A:Around}(r:Room k A)(h:j<=k):Room j A:=⟨r.hd,by have:=r.dp;lia,by have:=r.un;lia,r.gd⟩
theorem Room.deeper{k:Nat}{A:Around}(r:Room (k+1) A)(env:Env):Room k (A.deeper env):=
 ⟨r.hd,by have:=r.dp;show A.depth+1+3*k+5<_;lia,by have:=r.un;show A.units+3+16*k+200<_;lia,r.gd⟩
theorem make_depth{A:Around}{C:Addr}{us:List Value}{kw:List (Str×Value)}:(A.under (.builtin "type.__call__" ⟨.ref C::us,kw⟩)).depth=A.depth+1:=by
 first|rfl|simp [Around.under,Code.weight,Code.isCreation,Code.isGuard,Code.isCaller,Code.frames,Code.isFrame,guardIds]
theorem make_units{A:Around}{C:Addr}{us:List Value}{kw:List (Str×Value)}:(A.under (.builtin "type.__call__" ⟨.ref C::us,kw⟩)).units=A.units+1:=by
 first|rfl|simp [Around.under,Code.cUnits,Code.frames,Code.isFrame]
theorem make_guards{A:Around}{C:Addr}{us:List Value}{kw:List (Str×Value)}:(A.under (.builtin "type.__call__" ⟨.ref C::us,kw⟩)).guards=A.guards:=by
 first|rfl|simp [Around.under,Code.guards,pushGuards,Code.isGuard,guardIds]
theorem Room.make{k:Nat}{A:Around}(r:Room (k+1) A)(C:Addr)(us:List Value)(kw:List (Str×Value)):Room k (A.under (.builtin "type.__call__" ⟨.ref C::us,kw⟩)):=
 ⟨r.hd,by have:=r.dp;rw [make_depth];lia,by have:=r.un;rw [make_units];lia,by rw [make_guards];exact r.gd⟩
theorem Room.depth{k:Nat}{A:Around}(r:Room k A):A.depth<recursionLimit:=by have:=r.dp;lia
theorem Room.units{k:Nat}{A:Around}(r:Room k A):A.units+64<cLine:=by have:=r.un;lia
noncomputable def tNil:TA:=fun _ H Q=>Q [] H
noncomputable def tCons(ta:TE)(tr:TA):TA:=fun σ H Q=>ta σ H fun x H1=>tr σ H1 fun xs H2=>Q (x::xs) H2
section
variable {X:Cx}{e:Expr}{es:List Expr}{te:TE}{t:TA}{pos:Pos}
theorem pa_nil:PA X [] tNil:=fun _ _ _ _ H Q I h=>Calls.spliced_nil ⟨[],H,I,.nil,h⟩
theorem pa_cons(ha:PE X e te)(hr:PA X es t)(hs:starEach (e::es) X.env=(false,eval e X.env)::starEach es X.env:=by rfl):PA X (e::es) (tCons te t):=by
 intro pos pins s σ H Q I h;rw [hs];show wpAny _ _ (spliced ((false,eval e X.env)::backTo pos (starEach es X.env))) _ _ s;refine Calls.spliced_cons (thn (ha pins s σ H _ I h) fun u s1 ⟨x,H1,I1,r1,q1⟩=>?_);exact thn (hr pos pins s1 σ H1 _ I1 q1) fun us s2 ⟨xs,H2,I2,r2,q2⟩=>⟨x::xs,H2,I2,.cons r1 r2,q2⟩
noncomputable def tTup(t:TA):TE:=fun σ H Q=>t σ H fun xs H1=>xs.length<=sizeLine/\∀p,H1 p=none->Q (.ref p) (upd H1 p (.tup xs))
noncomputable def tLst(t:TA):TE:=fun σ H Q=>t σ H fun xs H1=>xs.length<=sizeLine/\∀p,H1 p=none->Q (.ref p) (upd H1 p (.lst xs))
theorem pe_tup{x1}(h:PA X es t):PE X (.Tuple es x1 pos) (tTup t):=by
 intro pins s σ H Q I hq;refine wpAny_Tuple_spliced (thn (h pos pins s σ H _ I hq) fun us s1 ⟨xs,H1,I1,r,z,q⟩=>⟨by rw [<- r.length];exact z,?_⟩)
 have hf:H1 s1.heap.objs.size=none:=I1.hok.fresh (Nat.le_refl _);refine ⟨.ref s1.heap.objs.size,upd H1 s1.heap.objs.size (.tup xs),I1.laid (t':=s1.toks) (fun b u e=>Heap.get?_push_of_some _ e) (Nat.le_refl _) ?_,rfl,q _ hf⟩;exact ⟨z,us,r,⟨_,Heap.get?_push_size _ rfl,⟨rfl,_,rfl⟩,rfl⟩⟩
theorem pe_lst(h:PA X es t):PE X (.List es pos) (tLst t):=by
 intro pins s σ H Q I hq;refine wpAny_List_spliced (thn (h pos pins s σ H _ I hq) fun us s1 ⟨xs,H1,I1,r,z,q⟩=>⟨by rw [<- r.length];exact z,?_⟩)
 have hf:H1 s1.heap.objs.size=none:=I1.hok.fresh (Nat.le_refl _);refine ⟨.ref s1.heap.objs.size,upd H1 s1.heap.objs.size (.lst xs),I1.laid (t':=s1.toks) (fun b u e=>Heap.get?_push_of_some _ e) (Nat.le_refl _) ?_,rfl,q _ hf⟩;exact ⟨z,us,0,r,Heap.get?_push_size _ rfl⟩
end
noncomputable abbrev Sp:=List V->Hp->VK->XK->Prop
noncomputable abbrev CXT:=List Env->Hp->Shared->XK->Value->Shared->Prop
structure Env0(P:Program)(w:World)(K:PySem.W.Frag)(mg:Str->Option Value)(base:Heap)(A:Around)(outer:List Env)(s:Shared)(H:Hp):Prop where
 frames:A.frames=some outer
 mod:Mod K mg base
 bs:∀b o,base.get? b=some o->s.heap.get? b=some o/\H b=none
 bsz:base.objs.size<=s.heap.objs.size
 funs:s.heap.FunFrames base outer
 frf:∀b∈frs outer,H b=none
 hok:HOk P w H s.heap
 bare:AllBare s.gens
noncomputable def CE(outer:List Env)(P:Program)(w:World)(H:Hp)(s:Shared)(Q:VK)(u:Value)(s':Shared):Prop:=
 ∃v H',s'.os=s.os/\AllBare s'.gens/\Un (frs outer) [] H H' s.heap s'.heap/\HOk P w H' s'.heap/\RelV v u/\Q v H'
noncomputable def CR(CX:CXT)(outer:List Env)(P:Program)(w:World)(H:Hp)(s:Shared)(Q:VK)(E:XK)(r:Result)(s':Shared):Prop:=
 match r with
 |.ok (.ret u)=>CE outer P w H s Q u s'
 |.ok _=>False
 |.error e=>CX outer H s E e s'
structure FnOk(P:Program)(w:World)(K:PySem.W.Frag)(mg:Str->Option Value)(base:Heap)(CX:CXT)(k:Nat)(f:Addr)(fd:FuncData)(ps:List Str)(sp:Sp):Prop where
 len:∀vs H Q E,sp vs H Q E->vs.length=ps.length
 run:∀(A:Around) (outer:List Env) (s:Shared) (H:Hp) (args:Args) (us:List Value) (vs:List V) (Q:VK) (E:XK),Room k A->Env0 P w K mg base A outer s H->BindsTo s fd args (ps.zip us)->Vals vs us->sp vs H Q E->
  codeAny (model P w) A (.call (.ref f) args) (CR CX outer P w H s Q E) s
theorem FnOk.imp{P:Program}{w:World}{K:PySem.W.Frag}{mg:Str->Option Value}{base:Heap}{CX:CXT}{k:Nat}{f:Addr}{fd:FuncData}{ps:List Str}{sp sp':Sp}(F:FnOk P w K mg base CX k f fd ps sp)
  (h:∀vs H Q E,sp' vs H Q E->sp vs H Q E):FnOk P w K mg base CX k f fd ps sp':=
 ⟨fun vs H Q E q=>F.len vs H Q E (h _ _ _ _ q),fun A outer s H args us vs Q E hr he hb hv hs=>F.run A outer s H args us vs Q E hr he hb hv (h _ _ _ _ hs)⟩
theorem Env0.make{P:Program}{w:World}{K:PySem.W.Frag}{mg:Str->Option Value}{base:Heap}{A:Around}{outer:List Env}{s:Shared}{H:Hp}(e:Env0 P w K mg base A outer s H)(C:Addr)(us:List Value)(kw:List (Str×Value)):
  Env0 P w K mg base (A.under (.builtin "type.__call__" ⟨.ref C::us,kw⟩)) outer s H:=⟨by first|exact e.frames|(simpa [Around.under,Code.envs,Code.isFrame,pushEnvs] using e.frames),e.mod,e.bs,e.bsz,e.funs,e.frf,e.hok,e.bare⟩
section
variable {X:Cx}{pins:List (Addr×Obj)}{σ:St}{H:Hp}{s s':Shared}
theorem Inv.env0(I:Inv X pins σ H s):Env0 X.prog X.w X.K X.mg X.base X.A X.stack s H:=
 ⟨I.ok.frames,I.ok.mod,I.bs,Nat.le_trans I.ok.bsz I.sz,I.stack,I.stkFree,I.hok,I.bare⟩
theorem Inv.after{Q:VK}{u:Value}(I:Inv X pins σ H s)(h:CE X.stack X.prog X.w H s Q u s'):EP X pins σ Q u s':=by
 obtain ⟨v,H',os,bare,un,hok,r,q⟩:=h;obtain ⟨hh,g,d,t,os'⟩:=s';obtain rfl:os'=s.os:=os;exact ⟨v,H',I.call (h':=hh) (g':=g) (d':=d) (t':=t) (ch:=[]) un hok bare (fun b z=>absurd z (by simp)),r,q⟩
end
noncomputable def tCall(sp:Sp)(dvs:List V)(E:XK)(t:TA):TE:=fun σ H Q=>t σ H fun vs H1=>sp (vs++dvs) H1 Q E
noncomputable def tMeth(C:Addr)(m:Str)(sp:Sp)(dvs:List V)(E:XK)(ta:TE)(t:TA):TE:=fun σ H Q=>ta σ H fun x H1=>∃a dx fs,x=.ref a/\H1 a=some (.ins C dx fs)/\fs.lookup m=none/\
 t σ H1 fun vs H2=>sp (x::(vs++dvs)) H2 Q E
noncomputable def tMake(C:Addr)(sp:Sp)(dvs:List V)(E:XK)(t:TA):TE:=fun σ H Q=>t σ H fun vs H1=>∀x dx,H1 x=none->H1 dx=none->dx≠x->
 sp (.ref x::(vs++dvs)) (upd (upd H1 dx (.own x)) x (.ins C dx [])) (fun v H2=>v=.non/\Q (.ref x) H2) E
noncomputable def Binds(K:PySem.W.Frag)(fd:FuncData)(ps:List Str)(ds:List Value):Prop:=
 ∀(s:Shared) (us:List Value),K.In s.heap->(us++ds).length=ps.length->BindsTo s fd ⟨us,[]⟩ (ps.zip (us++ds))
theorem Binds.all{K:PySem.W.Frag}{fd:FuncData}{ps:List Str}(h:∀us:List Value,us.length=ps.length->bindArgs fd ⟨us,[]⟩=pure (ps.zip us)):Binds K fd ps []:=fun s us _ hl=>by
 rw [List.append_nil] at hl ⊢;exact .of_eq (h us hl)
noncomputable def Passes(CX:CXT)(X:Cx)(E:XK):Prop:=∀(pins:List (Addr×Obj)) (σ:St) (H:Hp) (s:Shared) (e:Value) (s':Shared),Inv X pins σ H s->CX X.stack H s E e s'->X.xe e s'
section
variable {X:Cx}{CX:CXT}{k:Nat}{f C:Addr}{fd:FuncData}{ps:List Str}{sp:Sp}{dvs:List V}{ds:List Value}{E:XK}{x m:Str}{p pos apos:Pos}{e o:Expr}{es:List Expr}{ta:TE}{t:TA}
theorem run_fn{pins:List (Addr×Obj)}{σ:St}{H:Hp}{s:Shared}{Q:VK}{us:List Value}{vs:List V}(F:FnOk X.prog X.w X.K X.mg X.base CX k f fd ps sp)(hr:Room k X.A)(hb:Binds X.K fd ps ds)(hd:Vals dvs ds)(hx:Passes CX X E)
  (I:Inv X pins σ H s) (r:Vals vs us) (h:sp (vs++dvs) H Q E):wpAny (model X.prog X.w) X.A (call (.ref f) us) (EP X pins σ Q) X.xe s:=by
 have r2:Vals (vs++dvs) (us++ds):=r.append hd;have hl:(us++ds).length=ps.length:=by rw [<- r2.length];exact F.len _ _ _ _ h
 refine wpAny_call (codeAny_mono (F.run X.A X.stack s H ⟨us,[]⟩ (us++ds) (vs++dvs) Q E hr I.env0 (hb s us I.kIn hl) r2 h) fun r s' hq=>?_);cases r with
 |error e=>exact hx pins σ H s e s' I hq
 |ok fl=>
  cases fl with
  |ret u=>exact I.after hq
  |next=>exact False.elim hq
  |brk=>exact False.elim hq
  |cont=>exact False.elim hq
theorem pe_call(F:FnOk X.prog X.w X.K X.mg X.base CX k f fd ps sp)(hr:Room k X.A)(hg:Gl X x)(hm:X.mg x=some (.ref f))(hk:PySem.W.keepIn X.K (.ref f)=true)(hb:Binds X.K fd ps ds)(hd:Vals dvs ds)(hx:Passes CX X E)
  (ha:PA X (e::es) t) (hdb:(x==("__debug__":Str))=false:=by decide) (he:starEach (e::es) X.env=(false,eval e X.env)::starEach es X.env:=by rfl) (hpl:(backTo pos (starEach es X.env)).any (·.1)=false:=by rfl):
  PE X (.Call (.Name x p) (e::es) [] pos) (tCall sp dvs E t):=by
 intro pins s σ H Q I h;refine wpAny_Call_Name_kw (ld_glob I hg hm ?_ hdb);refine PySem.W.callWith_K (h₀:=X.base) I.ok.mod.kin hk (thn (ha pos pins s σ H _ I h) fun us s1 ⟨vs,H1,I1,r,q⟩=>⟨I1.kIn,?_⟩) he hpl;exact run_fn F hr hb hd hx I1 r q
theorem pe_meth{pl:Sem Bool}(he:PE X o ta)(c:Cls X.K C)(hm:Meth X.K C m f)(F:FnOk X.prog X.w X.K X.mg X.base CX k f fd ps sp)(hr:Room k X.A)(hb:Binds X.K fd ps ds)(hd:Vals dvs ds)(hx:Passes CX X E)(ha:PA X (e::es) t)
  (hst:starEach (e::es) X.env=(false,eval e X.env)::starEach es X.env:=by rfl) (hpl:(backTo pos (starEach es X.env)).any (·.1)=false:=by rfl)
  (ht:eval (.Call (.Attribute o m apos) (e::es) [] pos) X.env=(do
   let ov <- eval o X.env
   standAt apos.atName
   let (f,first) <- holding [ov] (getMethod ov m pl)
   callWith pos f first (backTo pos (starEach (e::es) X.env)) (backToKw pos (keywordEach [] X.env))):=by rfl):
  PE X (.Call (.Attribute o m apos) (e::es) [] pos) (tMeth C m sp dvs E ta t):=by
 intro pins s σ H Q I h;refine PySem.W.methodCall_KW (pl:=pl) (thn (he pins s σ H _ I h) fun u s1 zz=>?_) ht;obtain ⟨x,H1,I1,rx,a,dx,fs,ex,ea,l,q⟩:=zz;subst ex;obtain rfl:u=Value.ref a:=rx;refine getmeth_ok I1 ea c hm l ?_;refine PySem.W.callWith_K (first:=[.ref a]) (h₀:=X.base) I.ok.mod.kin hm.kp (thn (ha pos pins s1 σ H1 _ I1 q) fun us s2 ⟨vs,H2,I2,r,q2⟩=>⟨I2.kIn,?_⟩) hst hpl
 exact run_fn (us:=.ref a::us) (vs:=.ref a::vs) F hr hb hd hx I2 (.cons rfl r) q2
theorem pe_meth0{pl:Sem Bool}(he:PE X o ta)(c:Cls X.K C)(hm:Meth X.K C m f)(F:FnOk X.prog X.w X.K X.mg X.base CX k f fd ps sp)(hr:Room k X.A)(hb:Binds X.K fd ps ds)(hd:Vals dvs ds)(hx:Passes CX X E)
  (ht:eval (.Call (.Attribute o m apos) [] [] pos) X.env=(do
   let ov <- eval o X.env
   standAt apos.atName
   let (f,first) <- holding [ov] (getMethod ov m pl)
   callWith pos f first (backTo pos (starEach [] X.env)) (backToKw pos (keywordEach [] X.env))):=by rfl):
  PE X (.Call (.Attribute o m apos) [] [] pos) (tMeth C m sp dvs E ta tNil):=by
 intro pins s σ H Q I h;refine PySem.W.methodCall_KW (pl:=pl) (thn (he pins s σ H _ I h) fun u s1 zz=>?_) ht;obtain ⟨x,H1,I1,rx,a,dx,fs,ex,ea,l,q⟩:=zz;subst ex;obtain rfl:u=Value.ref a:=rx;refine getmeth_ok I1 ea c hm l ?_;exact PySem.W.callWith_K0 (first:=[.ref a]) I1.kIn hm.kp (run_fn (us:=[.ref a]) (vs:=[.ref a]) F hr hb hd hx I1 (.cons rfl .nil) q)
structure Mk(K:PySem.W.Frag)(C f:Addr):Prop where
 makes:PySem.W.makesIn K C=true
 init:PySem.W.findIn K (.ref C) "__init__"=some (some (.ref f))
 fn:PySem.W.isFn K (.ref f)=true
 kp:PySem.W.keepIn K (.ref C)=true
theorem run_make{pins:List (Addr×Obj)}{σ:St}{H:Hp}{s:Shared}{Q:VK}{us:List Value}{vs:List V}(M:Mk X.K C f)(F:FnOk X.prog X.w X.K X.mg X.base CX k f fd ps sp)(hr:Room (k+1) X.A)(hb:Binds X.K fd ps ds)(hd:Vals dvs ds)
  (hx:Passes CX X E) (I:Inv X pins σ H s) (r:Vals vs us)
  (h:∀x dx,H x=none->H dx=none->dx≠x->sp (.ref x::(vs++dvs)) (upd (upd H dx (.own x)) x (.ins C dx [])) (fun v H2=>v=.non/\Q (.ref x) H2) E):
  wpAny (model X.prog X.w) X.A (call (.ref C) us) (EP X pins σ Q) X.xe s:=by
 have hq:=h (s.heap.objs.size+1) s.heap.objs.size (I.hok.fresh (Nat.le_succ _)) (I.hok.fresh (Nat.le_refl _)) (Nat.ne_of_lt (Nat.lt_succ_self _));have I2:=Inv.made (C:=C) I;have r2:Vals (V.ref (s.heap.objs.size+1)::(vs++dvs)) (Value.ref (s.heap.objs.size+1)::(us++ds)):=.cons rfl (r.append hd);have hl:(Value.ref (s.heap.objs.size+1)::us++ds).length=ps.length:=by
  have e:=r2.length;rw [F.len _ _ _ _ hq] at e;exact e.symm
 refine wpAny_call (make_map (f:=f) I.kIn M.makes M.init (beq_iff_eq.mp M.fn) (codeAny_mono (F.run _ X.stack _ _ ⟨Value.ref (s.heap.objs.size+1)::us,[]⟩ (Value.ref (s.heap.objs.size+1)::(us++ds)) _ _ E (hr.make C us [])
  (I2.env0.make C us []) (hb _ (Value.ref (s.heap.objs.size+1)::us) I2.kIn hl) r2 hq) fun r s' hq'=>?_))
 cases r with
 |error e=>exact hx pins σ _ _ e s' I2 hq'
 |ok fl=>
  cases fl with
  |ret u=>
   obtain ⟨v,H',I3,rv,ev,q3⟩:=I2.after hq';subst ev;exact ⟨rv,⟨V.ref (s.heap.objs.size+1),H',I3,rfl,q3⟩⟩
  |next=>exact False.elim hq'
  |brk=>exact False.elim hq'
  |cont=>exact False.elim hq'
theorem pe_make(M:Mk X.K C f)(F:FnOk X.prog X.w X.K X.mg X.base CX k f fd ps sp)(hr:Room (k+1) X.A)(hg:Gl X x)(hm:X.mg x=some (.ref C))(hb:Binds X.K fd ps ds)(hd:Vals dvs ds)(hx:Passes CX X E)
  (ha:PA X (e::es) t) (hdb:(x==("__debug__":Str))=false:=by decide) (he:starEach (e::es) X.env=(false,eval e X.env)::starEach es X.env:=by rfl) (hpl:(backTo pos (starEach es X.env)).any (·.1)=false:=by rfl):
  PE X (.Call (.Name x p) (e::es) [] pos) (tMake C sp dvs E t):=by
 intro pins s σ H Q I h;refine wpAny_Call_Name_kw (ld_glob I hg hm ?_ hdb);refine PySem.W.callWith_K (h₀:=X.base) I.ok.mod.kin M.kp (thn (ha pos pins s σ H _ I h) fun us s1 ⟨vs,H1,I1,r,q⟩=>⟨I1.kIn,?_⟩) he hpl;exact run_make M F hr hb hd hx I1 r q
theorem pe_make0(M:Mk X.K C f)(F:FnOk X.prog X.w X.K X.mg X.base CX k f fd ps sp)(hr:Room (k+1) X.A)(hg:Gl X x)(hm:X.mg x=some (.ref C))(hb:Binds X.K fd ps ds)(hd:Vals dvs ds)(hx:Passes CX X E)
  (hdb:(x==("__debug__":Str))=false:=by decide):PE X (.Call (.Name x p) [] [] pos) (tMake C sp dvs E tNil):=by
 intro pins s σ H Q I h;refine wpAny_Call_Name_kw (ld_glob I hg hm ?_ hdb);exact PySem.W.callWith_K0 I.kIn M.kp (run_make (us:=[]) M F hr hb hd hx I .nil h)
end
section
variable {X:Cx}{CX:CXT}{k:Nat}{f C:Addr}{fd:FuncData}{ps ks:List Str}{sp:Sp}{E:XK}{x m:Str}{p pos apos kpos:Pos}{e o:Expr}{es:List Expr}{kws:List Keyword}{te ta:TE}{t tk:TA}{nm:Option Str}
variable {g:List Value->List Value->List Value}{gV:List V->List V->List V}
end
structure FnScope(N P:List Str)(sc:Scope):Prop where
 kind:sc.kind=.function
 co:sc.isCoroutine=false
 gen:sc.isGenerator=false
 nd:N.Nodup
 pre:N.take P.length=P
 par:∀x∈P,sc.names.lookup x=some .local\/sc.names.lookup x=some .cell
 nofree:∀y∈sc.names,y.2≠.free
theorem bindL_out{kindOf:Str->Option NameKind}{x:Str}:∀{binds:List (Str×Value)} {m:Str->Option Value},(∀v,(x,v)∉binds)->bindL kindOf binds m x=m x
 |[],_,_=>rfl
 |(n,v)::r,m,h=>by
  unfold bindL;rw [bindL_out fun w hw=>h w (List.mem_cons_of_mem _ hw)]
  split
  ·have:x≠n:=by rintro rfl;exact h v List.mem_cons_self
   simp [this]
  ·rfl
theorem bindC_out{kindOf:Str->Option NameKind}{x:Str}:∀{binds:List (Str×Value)} {m:Str->Option Value},(∀v,(x,v)∉binds)->bindC kindOf binds m x=m x
 |[],_,_=>rfl
 |(n,v)::r,m,h=>by
  unfold bindC;rw [bindC_out fun w hw=>h w (List.mem_cons_of_mem _ hw)]
  split
  ·rfl
  ·have:x≠n:=by rintro rfl;exact h v List.mem_cons_self
   simp [this]
theorem bindL_get{kindOf:Str->Option NameKind}{x:Str}{v:Value}:∀{P:List Str} {vs:List Value} {i:Nat} {m:Str->Option Value},P.Nodup->P[i]?=some x->vs[i]?=some v->kindOf x=some .local->
  bindL kindOf (P.zip vs) m x=some v
 |[],_,_,_,_,h,_,_=>by simp at h
 |_::_,[],_,_,_,_,h,_=>by simp at h
 |p::P,w::vs,0,m,nd,h1,h2,hk=>by
  simp at h1 h2;subst h1;subst h2;show bindL kindOf ((p,w)::P.zip vs) m p=_;unfold bindL;rw [bindL_out fun v hv=>(List.nodup_cons.mp nd).1 (List.of_mem_zip hv).1,if_pos hk];simp
 |p::P,w::vs,i+1,m,nd,h1,h2,hk=>by
  show bindL kindOf ((p,w)::P.zip vs) m x=_;unfold bindL;exact bindL_get (i:=i) (List.nodup_cons.mp nd).2 (by simpa using h1) (by simpa using h2) hk
theorem bindC_get{kindOf:Str->Option NameKind}{x:Str}{v:Value}:∀{P:List Str} {vs:List Value} {i:Nat} {m:Str->Option Value},P.Nodup->P[i]?=some x->vs[i]?=some v->kindOf x≠some .local->
  bindC kindOf (P.zip vs) m x=some v
 |[],_,_,_,_,h,_,_=>by simp at h
 |_::_,[],_,_,_,_,h,_=>by simp at h
 |p::P,w::vs,0,m,nd,h1,h2,hk=>by
  simp at h1 h2;subst h1;subst h2;show bindC kindOf ((p,w)::P.zip vs) m p=_;unfold bindC;rw [bindC_out fun v hv=>(List.nodup_cons.mp nd).1 (List.of_mem_zip hv).1,if_neg hk];simp
 |p::P,w::vs,i+1,m,nd,h1,h2,hk=>by
  show bindC kindOf ((p,w)::P.zip vs) m x=_;unfold bindC;exact bindC_get (i:=i) (List.nodup_cons.mp nd).2 (by simpa using h1) (by simpa using h2) hk
noncomputable def start(N:List Str)(vs:List V):St:=vs.map some++List.replicate (N.length-vs.length) none
noncomputable def cxOf(CX:CXT)(P:Program)(w:World)(K:PySem.W.Frag)(mg:Str->Option Value)(base:Heap)(N:List Str)(qual:Str)(scope:Scope)(f:Addr)(cd:Value)(A:Around)(outer:List Env)(s:Shared)(H:Hp)(E:XK):Cx where
 prog:=P
 w:=w
 K:=K
 mg:=mg
 base:=base
 A:=A.deeper (envOfC qual scope s.heap.objs.size f cd)
 N:=N
 s₀:=s
 H₀:=H
 env:=envOfC qual scope s.heap.objs.size f cd
 outer:=outer
 stack:=envOfC qual scope s.heap.objs.size f cd::outer
 ex:=[]
 calm:=true
 fn:=fun _=>true
 pn:=[]
 xe:=fun e s'=>wpAny (model P w) (A.deeper (envOfC qual scope s.heap.objs.size f cd)) (leaving (envOfC qual scope s.heap.objs.size f cd) e) (fun _ s''=>CX outer H s E e s'') (fun e' s''=>CX outer H s E e' s'') s'
theorem cell_has{sc:Scope}{n:Nat}{x:Str}(h:sc.names.lookup x=some .cell):∃c,(cellsFrom n sc.names []).lookup x=some c:=by
 have q:=PySem.W.cellsFrom_some sc.names n [] (.inl h);exact Option.isSome_iff_exists.mp q
theorem inv_start{CX:CXT}{P:Program}{w:World}{K:PySem.W.Frag}{mg:Str->Option Value}{base:Heap}{N ps:List Str}{qual:Str}{scope:Scope}{f:Addr}{cd:Value}{A:Around}{outer:List Env}{s s1:Shared}{H:Hp}{E:XK}{us:List Value}{vs:List V}
  (S:FnScope N ps scope) (hd:A.handled=none) (e0:Env0 P w K mg base A outer s H) (hl:vs.length=ps.length) (r:Vals vs us)
  (x:InCallC s s.heap.objs.size (bindL (envOfC qual scope s.heap.objs.size f cd).kindOf (ps.zip us) fun _=>none) (cellsFrom (s.heap.objs.size+1) scope.names []) (bindC (envOfC qual scope s.heap.objs.size f cd).kindOf (ps.zip us) fun _=>none) s1):
  Inv (cxOf CX P w K mg base N qual scope f cd A outer s H E) [] (start N vs) H s1:=by
 have hpl:ps.length<=N.length:=by have:=congrArg List.length S.pre;rw [List.length_take] at this;lia
 obtain ⟨h1,tk,rfl,hk⟩:=x.done;have noA:∀b:Addr,b∉(cxOf CX P w K mg base N qual scope f cd A outer s H E).ex:=fun b z=>absurd (show b∈([]:List Addr) from z) (by simp)
 refine ⟨⟨e0.mod,S.kind,rfl,rfl,Nat.le_refl _,fun y z c h1 h2=>?_,fun y hy=>?_,fun y c _ h=>?_,fun _=>hd,Around.frames_deeper e0.frames,.inr ⟨rfl,rfl⟩,fun b z=>absurd z (noA b),e0.bs,e0.bsz,fun b _ _=>noA b,fun b z=>absurd z (noA b),e0.funs,e0.frf⟩,
  rfl,e0.bare,Un.kept hk,⟨_,x.toInCall.ns,fun i y v h1 h2 h3=>?_⟩,fun y c h=>⟨_,x.cell y c h⟩,e0.hok.fresh (Nat.le_refl _),fun y c h=>?_,fun p hp=>absurd (show p∈([]:List (Addr×Obj)) from hp) (by simp),e0.hok.kept hk,?_⟩
 ·exact name_of_addr x.apart (PySem.mem_of_lookup h1) (PySem.mem_of_lookup h2)
 ·have hy:scope.names.lookup y=some .cell\/scope.names.lookup y=some .free:=hy
  rcases hy with hy|hy
  ·exact cell_has hy
  ·exact absurd rfl (S.nofree _ (PySem.mem_of_lookup hy))
 ·exact Nat.le_of_lt (x.above y c (PySem.mem_of_lookup h))
 ·have hi:i<vs.length:=by
   unfold start at h2
   by_cases hi:i<vs.length
   ·exact hi
   ·rw [List.getElem?_append_right (by simpa using hi)] at h2
    rw [List.getElem?_replicate] at h2
    split at h2<;>cases h2
  have ha:vs[i]?=some v:=by
   unfold start at h2;rw [List.getElem?_append_left (by simpa using hi),List.getElem?_map] at h2
   cases e:vs[i]? with
   |none=>rw [e] at h2;cases h2
   |some a=>rw [e] at h2;cases h2;rfl
  obtain ⟨u,hu,rv⟩:=r.get ha;have hp:ps[i]?=some y:=by
   rw [<- S.pre,List.getElem?_take_of_lt (by lia)];exact h1
  have ndP:ps.Nodup:=by rw [<- S.pre];exact S.nd.sublist (List.take_sublist _ _)
  refine ⟨u,rv,?_⟩;rcases S.par y (List.mem_of_getElem? hp) with k|k
  ·exact .inl ⟨k,bindL_get ndP hp hu k⟩
  ·obtain ⟨c,e⟩:=cell_has (n:=s.heap.objs.size+1) k
   refine .inr ⟨.inl k,c,e,?_⟩;have q:=x.cell y c e;rw [bindC_get ndP hp hu (by show scope.names.lookup y≠_;rw [k];decide)] at q
   exact q
 ·exact e0.hok.fresh (Nat.le_of_lt (x.above y c (PySem.mem_of_lookup h)))
 ·unfold start
  show _=N.length;rw [List.length_append,List.length_map,List.length_replicate];lia
theorem fn_of{CX:CXT}{P:Program}{w:World}{K:PySem.W.Frag}{mg:Str->Option Value}{base:Heap}{k:Nat}{f:Addr}{name qual:Str}{params:Arguments}{body:List Stmt}{scope:Scope}{dV kV doc pm cdv ct oc:Value}{an od:Option Addr}
  {osl:Array (Option Value)} {N ps:List Str} {sp:Sp} (lk:K.lookup f=some ⟨oc,od,.func (PySem.W.fnOf name qual params body scope dV kV doc pm an cdv ct),osl⟩) (hcd:PySem.W.codeIn K cdv qual=true) (S:FnScope N ps scope)
  (len:∀vs H Q E,sp vs H Q E->vs.length=ps.length)
  (hbody:∀(A:Around) (outer:List Env) (s:Shared) (H:Hp) (vs:List V) (Q:VK) (E:XK),Room k (A.deeper (envOfC qual scope s.heap.objs.size f cdv))->sp vs H Q E->
   ∃t,PSs (cxOf CX P w K mg base N qual scope f cdv A outer s H E) body t/\t { nx:=fun _ H'=>Q .non H',rt:=Q } (start N vs) H):
  FnOk P w K mg base CX (k+1) f (PySem.W.fnOf name qual params body scope dV kV doc pm an cdv ct) ps sp:=by
 refine ⟨len,fun A outer s H args us vs Q E hr e0 hb r hsp=>?_⟩;have hl:=len _ _ _ _ hsp;have KX:K.In s.heap:=e0.mod.kin.keeps fun b o e=>(e0.bs b o e).1;have lim:s.heap.NoLimit:=e0.mod.nolimit.keeps fun b o e=>(e0.bs b o e).1;have hkind:∀y∈ps.zip us,scope.names.lookup y.1=some .local\/(scope.names.lookup y.1=some .cell/\((cellsFrom (s.heap.objs.size+1) scope.names []).lookup y.1).isSome=true):=fun ⟨n,v⟩ hy=>by
  rcases S.par n (List.of_mem_zip hy).1 with q|q
  ·exact .inl q
  ·exact .inr ⟨q,PySem.W.cellsFrom_some _ _ _ (.inl q)⟩
 refine codeAny_call_function hr.depth (KX _ _ lk) rfl S.co S.gen rfl (PySem.W.codeRec_of KX hcd) (hb _ _ _ _ ?_);refine wpAny_newFunctionEnv_cells S.kind hkind fun env he s1 x=>?_;subst he;refine ⟨lim.keeps x.toInCall.keep,codeAny_func ?_⟩;obtain ⟨t,ht,hq⟩:=hbody A outer s H vs Q E (hr.deeper _) hsp;have I:Inv (cxOf CX P w K mg base N qual scope f cdv A outer s H E) [] (start N vs) H s1:=inv_start S hr.hd e0 hl r x;refine wpAny_mono (ht [] s1 (start N vs) H _ I hq) (fun fl s' hs=>?_) fun e s' hs=>hs;have fin:∀{σ':St} {H':Hp} {v:V} {u:Value},Inv (cxOf CX P w K mg base N qual scope f cdv A outer s H E) [] σ' H' s'->RelV v u->Q v H'->CE outer P w H s Q u s':=
  fun {σ' H' v u} J rv q=>⟨v,H',J.os,J.bare,J.base,J.hok,rv,q⟩
 cases fl with
 |ret u=>
  obtain ⟨v,σ',H',J,rv,q⟩:=hs;exact fin J rv q
 |next=>
  obtain ⟨σ',H',J,q⟩:=hs;exact fin (v:=V.non) (u:=Value.none) J rfl q
 |brk=>
  obtain ⟨_,_,_,q⟩:=hs;exact False.elim q
 |cont=>
  obtain ⟨_,_,_,q⟩:=hs;exact False.elim q
end L2
namespace L2
open PySem PySem.Spec PyProof.Rows
section
variable {X:Cx}{x:Str}{p pos:Pos}{e:Expr}{es:List Expr}{t:TA}{id T:String}{r:List V->Hp->VK->Prop}
noncomputable def tCB(r:List V->Hp->VK->Prop)(t:TA):TE:=fun σ H Q=>t σ H fun vs H1=>r vs H1 Q
theorem pe_callB(hc:CallR X (.builtin id) r)(hg:Gl X x)(hm:X.mg x=none)(hv:bootBuiltins x=some (.builtin id))(ha:PA X (e::es) t)(hn:x≠"__name__":=by decide)(hdb:(x==("__debug__":Str))=false:=by decide)
  (he:starEach (e::es) X.env=(false,eval e X.env)::starEach es X.env:=by rfl) (hpl:(backTo pos (starEach es X.env)).any (·.1)=false:=by rfl):PE X (.Call (.Name x p) (e::es) [] pos) (tCB r t):=by
 intro pins s σ H Q I h;refine wpAny_Call_Name_kw (ld_blt I hg hm hv ?_ hn hdb);exact PyProof.Rows.callWith_builtin1 (thn (ha pos pins s σ H _ I h) fun us s1 ⟨vs,H1,I1,r1,q1⟩=>hc pins s1 σ H1 vs us Q I1 r1 q1) he hpl
theorem pe_callTy(hc:CallR X (.type T) r)(hg:Gl X x)(hm:X.mg x=none)(hv:bootBuiltins x=some (.type T))(ha:PA X (e::es) t)(hn:x≠"__name__":=by decide)(hdb:(x==("__debug__":Str))=false:=by decide)
  (he:starEach (e::es) X.env=(false,eval e X.env)::starEach es X.env:=by rfl) (hpl:(backTo pos (starEach es X.env)).any (·.1)=false:=by rfl):PE X (.Call (.Name x p) (e::es) [] pos) (tCB r t):=by
 intro pins s σ H Q I h;refine wpAny_Call_Name_kw (ld_blt I hg hm hv ?_ hn hdb);exact PyProof.Rows.callWith_type1 (thn (ha pos pins s σ H _ I h) fun us s1 ⟨vs,H1,I1,r1,q1⟩=>hc pins s1 σ H1 vs us Q I1 r1 q1) he hpl
end
end L2
namespace HT
open PySem PyProof.Rows
section
open PySem.SeqAt
open PySem.AutoSeq1 (wpAny_loadPart')
open PySem.MeetsSeq PySem.MeetsSeq2 PySem.MeetsSeq3
end
section
variable {prog:Program}{w:World}{A:Around}{E:Value->Shared->Prop}{s:Shared}
theorem cat_tup{t b:Addr}{vs ws:List Value}{Q:Value->Shared->Prop}(ht:IsTup s.heap t vs.toArray)(hb:IsTup s.heap b ws.toArray)(hv:vs≠[])
  (h1:ws=[]->Q (.ref t) s) (h2:ws≠[]->Q (.ref s.heap.objs.size) { s with heap:=s.heap.push { cls:=.type "tuple",data:=.seq (vs++ws).toArray } })
  (hsz:vs.length+ws.length<=sizeLine):wpAny (model prog w) A (binaryOp .Add (.ref t) (.ref b)) Q E s:=by
 obtain ⟨⟨cls,dd,data,sl⟩,ho,hc,n,hd⟩:=id ht;obtain ⟨⟨cls2,dd2,data2,sl2⟩,ho2,hc2,n2,hd2⟩:=id hb;simp only at hc hd hc2 hd2;subst hc hd hc2 hd2;have e:vs.toArray++ws.toArray=(vs++ws).toArray:=by simp
 by_cases hw:ws=[]
 ·exact concat_meets ⟨_,ho,rfl⟩ ⟨_,ho2,rfl⟩ noFill_tuple_add seq_tuple_add PySem.F.slot_tuple_add PySem.F.entry_tuple_add (PySem.F.args_tuple_add_2 _ _)
   (tuple_addW1 t b vs.toArray ws.toArray n n2 dd dd2 sl sl2 (by simpa using hv) (by simp [hw])) ⟨ho,ho2,h1 hw⟩
 ·refine concat_meets ⟨_,ho,rfl⟩ ⟨_,ho2,rfl⟩ noFill_tuple_add seq_tuple_add PySem.F.slot_tuple_add PySem.F.entry_tuple_add (PySem.F.args_tuple_add_2 _ _)
   (tuple_addW2 t b vs.toArray ws.toArray n n2 dd dd2 sl sl2 (by simpa using hv) (by simpa using hw) (by rw [List.size_toArray,List.size_toArray];exact hsz)) ⟨ho,ho2,?_⟩
  rw [e];exact h2 hw
noncomputable def sIx(n d:Nat):Option Int->Nat
 |none=>d
 |some v=>if v<0 then (v+(n:Int)).toNat else min v.toNat n
theorem sIx_none(n d:Nat):sIx n d none=d:=rfl
theorem sIx_nat(n d k:Nat):sIx n d (some (k:Int))=min k n:=by
 show (if (k:Int)<0 then ((k:Int)+(n:Int)).toNat else min (k:Int).toNat n)=min k n
 rw [if_neg (by lia),Int.toNat_natCast]
theorem sIx_le(n d:Nat)(hd:d<=n)(o:Option Int):sIx n d o<=n:=by
 cases o with
 |none=>exact hd
 |some v=>
  show (if v<0 then (v+(n:Int)).toNat else min v.toNat n)<=n
  by_cases hv:v<0
  ·rw [if_pos hv];lia
  ·rw [if_neg hv];exact Nat.min_le_right _ _
theorem clip_eq(v:Int)(n d:Nat):(if v<0 then max (v+(n:Int)) 0 else min v (n:Int))=((sIx n d (some v):Nat):Int):=by
 show (if v<0 then max (v+(n:Int)) 0 else min v (n:Int))=(((if v<0 then (v+(n:Int)).toNat else min v.toNat n):Nat):Int)
 by_cases hv:v<0
 ·simp only [if_pos hv];lia
 ·simp only [if_neg hv];lia
theorem adjust_gen(lo hi:Option Int)(n:Nat):Builtin.Slice.sliceAdjust lo hi 1 (n:Int)=(((sIx n 0 lo:Nat):Int),((sIx n n hi:Nat):Int)):=by
 have h1:¬((1:Int)<0):=by lia
 unfold Builtin.Slice.sliceAdjust;simp only [h1,if_false];refine Prod.ext ?_ ?_
 ·cases lo with
  |none=>rfl
  |some v=>exact clip_eq v n 0
 ·cases hi with
  |none=>rfl
  |some v=>exact clip_eq v n n
theorem places_gen(i j:Nat):Builtin.Slice.slicePlaces (i:Int) (j:Int) 1=j-i:=by
 unfold Builtin.Slice.slicePlaces;have h1:(1:Int)>0:=by lia
 simp only [h1,if_true,Int.ediv_one]
 split<;>lia
theorem slicePart_{v:Value}{o:Option Int}{Q:Option Int->Shared->Prop}(p:IsPart v o)(h:Q o s):wpAny (model prog w) A (Builtin.Slice.slicePartIndex v) Q E s:=by
 cases p with
 |none=>exact slicePart_none h
 |int i t=>exact slicePart_int h
theorem sliceApplied_gen{sl:Addr}{vl vu:Value}{lo hi:Option Int}{n:Nat}{Q:Int×Int×Nat->Shared->Prop}(hs:s.heap.IsSliceOf sl vl vu .none)(pl:IsPart vl lo)(pu:IsPart vu hi)
  (h:Q (((sIx n 0 lo:Nat):Int),1,sIx n n hi-sIx n 0 lo) s):wpAny (model prog w) A (Builtin.Slice.sliceApplied (.ref sl) (pure (n:Int))) Q E s:=by
 obtain ⟨os,hos,hcs,hds⟩:=id hs;unfold Builtin.Slice.sliceApplied Builtin.Slice.sliceFields;refine wpAny_bind (wpAny_bind (wpAny_field hos hds (x:=vl) rfl (wpAny_bind (wpAny_field hos hds (x:=vu) rfl (wpAny_bind (wpAny_field hos hds (x:=.none) rfl (wpAny_pure ?_)))))));refine wpAny_bind (slicePart_none ?_);show wpAny _ _ (if ((1:Int)==0)=true then _ else _) _ _ s
 rw [if_neg (by decide)]
 refine wpAny_bind (slicePart_ pl (wpAny_bind (slicePart_ pu (wpAny_bind (wpAny_pure ?_)))));show wpAny _ _ (match Builtin.Slice.sliceAdjust lo hi 1 (n:Int) with|(lo,hi)=>pure (lo,(1:Int),Builtin.Slice.slicePlaces lo hi 1)) _ _ s
 rw [adjust_gen lo hi n];show wpAny _ _ (pure (((sIx n 0 lo:Nat):Int),(1:Int),Builtin.Slice.slicePlaces ((sIx n 0 lo:Nat):Int) ((sIx n n hi:Nat):Int) 1)) _ _ s;rw [places_gen];exact wpAny_pure h
theorem pick_gen(xs:Array Value)(i k:Nat):((List.range k).filterMap fun (m:Nat)=>xs[((i:Int)+(m:Int)*1).toNat]?).toArray=((xs.toList.drop i).take k).toArray:=by
 have e:(fun (m:Nat)=>xs[((i:Int)+(m:Int)*1).toNat]?)=fun m=>xs[i+m]?:=by
  funext m;have:((i:Int)+(m:Int)*1).toNat=i+m:=by lia
  rw [this]
 rw [e];have:=pick_run xs i k;rw [List.filterMap_map] at this;have e2:((fun x=>xs[x]?) ∘ fun x=>i+x)=fun m=>xs[i+m]?:=rfl;rw [e2] at this;rw [this]
theorem getItem_tuple_cut{t sl:Addr}{items:Array Value}{vl vu:Value}{lo hi:Option Int}{Q:Value->Shared->Prop}(ht:IsTup s.heap t items)(hs:s.heap.IsSliceOf sl vl vu .none)(pl:IsPart vl lo)(pu:IsPart vu hi)
  (hw:¬(sIx items.size 0 lo=0/\sIx items.size items.size hi=items.size))
  (h:Q (.ref s.heap.objs.size) { s with heap:=s.heap.push { cls:=.type "tuple",data:=.seq ((items.toList.drop (sIx items.size 0 lo)).take (sIx items.size items.size hi-sIx items.size 0 lo)).toArray } })
  (hsz:items.size<=sizeLine):wpAny (model prog w) A (getItem (.ref t) (.ref sl)) Q E s:=by
 have htake:sizeOk (.seq ((items.toList.drop (sIx items.size 0 lo)).take (sIx items.size items.size hi-sIx items.size 0 lo)).toArray):=by
  show ((items.toList.drop (sIx items.size 0 lo)).take (sIx items.size items.size hi-sIx items.size 0 lo)).toArray.size<=sizeLine;rw [List.size_toArray,List.length_take,List.length_drop,Array.length_toList];lia
 have hj:sIx items.size items.size hi<=items.size:=sIx_le _ _ (Nat.le_refl _) hi;obtain ⟨os,hos,hcs,hds⟩:=id hs;have hTs:s.TypeIs (.ref sl) "slice":=⟨os,hos,hcs⟩;unfold getItem
 try with_reducible refine wpAny_holding ?_
 first|refine wpAny_bind (wpAny_pure ?_)|skip
 refine wpAny_bind (wpAny_sequenceKey ht.typeIs (by decide) ?_)
 refine wpAny_bind (wpAny_callSpecial?_slot (name:=Str.ofString "__getitem__") ht.typeIs PyProof.Rows.slot_tuple_getitem
  (wpAny_call_entry PyProof.Rows.slot_tuple_getitem ht.typeIs entry_tuple_getitem ?_ (args_tuple_getitem _ _)))
 show wpAny _ _ (Builtin.Tuple.tupleItemsOf (.ref t) >>= _) _ _ s;refine wpAny_bind (tupleItemsOf_ ht ?_);refine wpAny_bind (wpAny_typeOf hTs ?_);rw [if_pos (by decide)]
 refine wpAny_bind (sliceApplied_gen hs pl pu ?_);have hno:¬((((sIx items.size 0 lo:Nat):Int)==0&&(1:Int)==1&&(sIx items.size items.size hi-sIx items.size 0 lo)==items.size)=true):=by
  intro q;rw [Bool.and_eq_true,Bool.and_eq_true] at q;have q1:((sIx items.size 0 lo:Nat):Int)=0:=eq_of_beq q.1.1;have q2:sIx items.size items.size hi-sIx items.size 0 lo=items.size:=eq_of_beq q.2;exact hw ⟨by lia,by lia⟩
 show wpAny _ _ (if (((sIx items.size 0 lo:Nat):Int)==0&&(1:Int)==1&&(sIx items.size items.size hi-sIx items.size 0 lo)==items.size)=true then _ else _) _ _ s
 rw [if_neg hno,pick_gen]
 first
  |exact wpAny_bind (m:=Builtin.Tuple.tupleExact _) (wpAny_newObj_type (wpAny_pure ⟨_,rfl,wpAny_pure h⟩) htake)
  |exact wpAny_bind (m:=Builtin.Tuple.tupleExact _) (wpAny_newObj_type (wpAny_bind (wpAny_pure (wpAny_pure ⟨_,rfl,wpAny_pure h⟩))) htake)
  |exact wpAny_bind (wpAny_bind (m:=Builtin.Tuple.tupleExact _) (wpAny_newObj_type (wpAny_pure (wpAny_pure ⟨_,rfl,wpAny_pure h⟩)) htake))
  |exact wpAny_bind (wpAny_bind (m:=Builtin.Tuple.tupleExact _) (wpAny_newObj_type (wpAny_pure ⟨_,rfl,wpAny_pure h⟩) htake))
end
end HT
namespace L2
open PySem PySem.Spec PyProof.Rows
noncomputable abbrev TO:=St->Hp->(Option Int->Hp->Prop)->Prop
noncomputable def PO(X:Cx)(e:Option Expr)(t:TO):Prop:=
 ∀(pins:List (Addr×Obj)) (s:Shared) (σ:St) (H:Hp) (Q:Option Int->Hp->Prop),Inv X pins σ H s->t σ H Q->
  wpAny (model X.prog X.w) X.A (evalPart e X.env) (fun u s'=>∃o H',Inv X pins σ H' s'/\IsPart u o/\Q o H') X.xe s
noncomputable def tNoPart:TO:=fun _ H Q=>Q none H
noncomputable def tPart(t:TE):TO:=fun σ H Q=>t σ H fun x H1=>∃i,x=.int i/\Q (some i) H1
section
variable {X:Cx}{e:Expr}{te:TE}{lo hi:Option Expr}{tl th:TO}{pos p2:Pos}
theorem po_none:PO X none tNoPart:=by
 intro pins s σ H Q I h;rw [evalPart_none];exact wpAny_pure ⟨none,H,I,.none,h⟩
theorem po_some(h:PE X e te):PO X (some e) (tPart te):=by
 intro pins s σ H Q I hw;rw [evalPart_some];refine thn (h pins s σ H _ I hw) fun u s1 ⟨x,H1,I1,r1,q1⟩=>?_;obtain ⟨i,rfl,q⟩:=q1;obtain ⟨t,rfl⟩:=r1;exact ⟨some i,H1,I1,.int i t,q⟩
noncomputable def SlR(X:Cx)(r:V->Option Int->Option Int->Hp->VK->Prop):Prop:=
 ∀(pins:List (Addr×Obj)) (s:Shared) (σ:St) (H:Hp) (x:V) (v vl vu:Value) (lo hi:Option Int) (sl:Addr) (Q:VK),Inv X pins σ H s->RelV x v->s.heap.IsSliceOf sl vl vu .none->IsPart vl lo->IsPart vu hi->r x lo hi H Q->
  ∃T id,typeLookup (.type T) "__getitem__"=pure (some (.builtin id))/\s.TypeIs v T/\wpAny (model X.prog X.w) X.A (getItem v (.ref sl)) (EP X pins σ Q) X.xe s
noncomputable def tSl(r:V->Option Int->Option Int->Hp->VK->Prop)(te:TE)(tl th:TO):TE:=fun σ H Q=>te σ H fun x H1=>tl σ H1 fun l H2=>th σ H2 fun u H3=>r x l u H3 Q
theorem pe_slice{r:V->Option Int->Option Int->Hp->VK->Prop}(hr:SlR X r)(he:PE X e te)(hl:PO X lo tl)(hu:PO X hi th):PE X (.Subscript e (.Slice lo hi none p2) pos) (tSl r te tl th):=by
 intro pins s σ H Q I h;refine Subscript_ (thn (he pins s σ H _ I h) fun v s1 ⟨x,H1,I1,r1,q1⟩=>?_);refine wpAny_Slice (thn (hl pins s1 σ H1 _ I1 q1) fun vl s2 ⟨l,H2,I2,pl,q2⟩=>thn (hu pins s2 σ H2 _ I2 q2) fun vu s3 ⟨u,H3,I3,pu,q3⟩=>?_);rw [evalPart_none];refine wpAny_pure ?_;have I4:Inv X pins σ H3 { s3 with heap:=s3.heap.push { cls:=.type "slice",data:=.fields #[vl,vu,.none] } }:=I3.kept (t':=s3.toks) fun b ob q=>Heap.get?_push_of_some _ q;obtain ⟨T,id,hT,ht,hg⟩:=hr pins { s3 with heap:=s3.heap.push { cls:=.type "slice",data:=.fields #[vl,vu,.none] } } σ H3 x v vl vu l u s3.heap.objs.size Q I4 r1 (Heap.IsSliceOf.new ..) pl pu q3;show wpAny (model X.prog X.w) X.A (subscriptTail e (.Slice lo hi none p2) v (.ref s3.heap.objs.size)) (EP X pins σ Q) X.xe { s3 with heap:=s3.heap.push { cls:=.type "slice",data:=.fields #[vl,vu,.none] } };exact tail_any (ops:=[.ref s3.heap.objs.size,v]) ht hT hg (by with_unfolding_all rfl)
noncomputable def cutV(xs:List V)(lo hi:Option Int):List V:=(xs.drop (HT.sIx xs.length 0 lo)).take (HT.sIx xs.length xs.length hi-HT.sIx xs.length 0 lo)
theorem cutV_length(xs:List V)(lo hi:Option Int):(cutV xs lo hi).length<=xs.length:=by
 unfold cutV;rw [List.length_take,List.length_drop];lia
noncomputable def rSlT(K:PySem.W.Frag):V->Option Int->Option Int->Hp->VK->Prop:=fun x lo hi H Q=>∃a xs,x=.ref a/\SqT K H a xs/\
 ¬(HT.sIx xs.length 0 lo=0/\HT.sIx xs.length xs.length hi=xs.length)/\∀p,H p=none->Q (.ref p) (upd H p (.tup (cutV xs lo hi)))
theorem sl_tup:SlR X (rSlT X.K):=by
 intro pins s σ H x v vl vu lo hi sl Q I rx hs pl pu h;obtain ⟨a,xs,rfl,hx,hw,q⟩:=h;cases rx;obtain ⟨its,r,ht,hz⟩:=I.tuple hx;have hlen:its.toArray.size=xs.length:=by rw [List.size_toArray];exact r.length.symm
 refine ⟨"tuple",_,PyProof.Rows.slot_tuple_getitem.lookup,ht.typeIs,?_⟩;refine HT.getItem_tuple_cut ht hs pl pu (by rw [hlen];exact hw) ?_ (by rw [hlen];exact hz)
 rw [hlen];refine ⟨.ref s.heap.objs.size,_,I.laid (t':=s.toks) (o:=.tup (cutV xs lo hi)) (fun b ob q=>Heap.get?_push_of_some _ q) (Nat.le_refl _) ?_,rfl,q _ (I.hok.fresh (Nat.le_refl _))⟩;exact ⟨Nat.le_trans (cutV_length xs lo hi) hz,_,(r.drop (HT.sIx xs.length 0 lo)).take (HT.sIx xs.length xs.length hi-HT.sIx xs.length 0 lo),⟨_,Heap.get?_push_size _ rfl,⟨rfl,_,rfl⟩,rfl⟩⟩
noncomputable def rCatT(K:PySem.W.Frag):R2:=fun x y H Q=>∃a b xs ys,x=.ref a/\y=.ref b/\SqT K H a xs/\SqT K H b ys/\xs≠[]/\xs.length+ys.length<=sizeLine/\
 (ys=[]->Q (.ref a) H)/\(ys≠[]->∀p,H p=none->Q (.ref p) (upd H p (.tup (xs++ys))))
theorem Vals.nil_iff{xs:List V}{us:List Value}(r:Vals xs us):us=[]↔xs=[]:=by
 cases r with
 |nil=>simp
 |cons _ _=>simp
theorem op_catT:OpR X (binaryOp .Add) (rCatT X.K):=by
 intro pins s σ H x y v u Q I rx ry h;obtain ⟨a,b,xs,ys,rfl,rfl,ha,hb,hx,hz,q1,q2⟩:=h;cases rx;cases ry;obtain ⟨its,r1,p1,_⟩:=I.tuple ha;obtain ⟨its2,r2,p2,_⟩:=I.tuple hb;refine HT.cat_tup p1 p2 (fun z=>hx (r1.nil_iff.mp z)) (fun z=>⟨.ref a,H,I,rfl,q1 (r2.nil_iff.mp z)⟩) (fun z=>?_) (by rw [<- r1.length,<- r2.length];exact hz)
 refine ⟨.ref s.heap.objs.size,_,I.laid (t':=s.toks) (o:=.tup (xs++ys)) (fun b ob q=>Heap.get?_push_of_some _ q) (Nat.le_refl _) ?_,rfl,q2 (fun w=>z (r2.nil_iff.mpr w)) _ (I.hok.fresh (Nat.le_refl _))⟩;exact ⟨by rw [List.length_append];exact hz,_,r1.append r2,⟨_,Heap.get?_push_size _ rfl,⟨rfl,_,rfl⟩,rfl⟩⟩
end
end L2
namespace L2
open PySem PySem.Spec PyProof.Rows
noncomputable def ixN(n:Nat)(i:Int):Option Nat:=if 0<=i then (if i<n then some i.toNat else none) else if -(n:Int)<=i then some (i+n).toNat else none
noncomputable def atI{α:Type}(xs:List α)(i:Int):Option α:=(ixN xs.length i).bind fun j=>xs[j]?
theorem ixN_seq{n:Nat}{i:Int}{j:Nat}(h:ixN n i=some j):seqIndex? i n=some j/\j<n/\-(n:Int)<=i/\i<n:=by
 unfold ixN at h
 by_cases h0:0<=i
 ·rw [if_pos h0] at h
  by_cases h1:i<n
  ·rw [if_pos h1] at h
   have e:i.toNat=j:=Option.some.inj h;exact ⟨by rw [seqIndex_of h0 h1,e],by lia,by lia,h1⟩
  ·rw [if_neg h1] at h;cases h
 ·rw [if_neg h0] at h
  by_cases h1:-(n:Int)<=i
  ·rw [if_pos h1] at h
   have e:(i+n).toNat=j:=Option.some.inj h;exact ⟨by rw [seqIndex_neg (by lia) h1,e],by lia,h1,by lia⟩
  ·rw [if_neg h1] at h;cases h
theorem atI_get{α:Type}{xs:List α}{i:Int}{v:α}(h:atI xs i=some v):∃j,seqIndex? i xs.length=some j/\xs[j]?=some v/\j<xs.length/\-(xs.length:Int)<=i/\i<xs.length:=by
 unfold atI at h;cases e:ixN xs.length i with
 |none=>rw [e] at h;cases h
 |some j=>
  rw [e] at h;obtain ⟨h1,h2,h3,h4⟩:=ixN_seq e;exact ⟨j,h1,h,h2,h3,h4⟩
noncomputable def PlainIx(b:Expr):Prop:=∀o i,subscripted b false o i=operate [o,i] (getItem o i)
noncomputable def IxR(X:Cx)(r:R2):Prop:=
 ∀(value slice:Expr) (pins:List (Addr×Obj)) (s:Shared) (σ:St) (H:Hp) (x y:V) (v u:Value) (Q:VK),Inv X pins σ H s->RelV x v->RelV y u->r x y H Q->
  subscripted slice false v u=operate [v,u] (getItem v u)->wpAny (model X.prog X.w) X.A (subscriptTail value slice v u) (EP X pins σ Q) X.xe s
noncomputable def MtR(X:Cx)(id:String)(r:V->List V->Hp->VK->Prop):Prop:=
 ∀(pins:List (Addr×Obj)) (s:Shared) (σ:St) (H:Hp) (x:V) (xs:List V) (v:Value) (us:List Value) (Q:VK),Inv X pins σ H s->RelV x v->Vals xs us->r x xs H Q->
  wpAny (model X.prog X.w) X.A (call (.builtin id) (v::us)) (EP X pins σ Q) X.xe s
section
variable {X:Cx}{a b:Expr}{ta tb:TE}{pos:Pos}
theorem IxR.or{r r':R2}(h:IxR X r)(h':IxR X r'):IxR X (fun x y H Q=>r x y H Q\/r' x y H Q):=by
 intro value slice pins s σ H x y v u Q I rx ry q hs;rcases q with q|q
 ·exact h value slice pins s σ H x y v u Q I rx ry q hs
 ·exact h' value slice pins s σ H x y v u Q I rx ry q hs
theorem pe_ix{r:R2}(hr:IxR X r)(ha:PE X a ta)(hb:PE X b tb)(hs:PlainIx b):PE X (.Subscript a b pos) (tOp r ta tb):=by
 intro pins s σ H Q I h;exact Subscript_ (binT ha hb I h fun v u s2 x y H2 I2 rx ry q=>hr a b pins s2 σ H2 x y v u Q I2 rx ry q (hs _ _))
noncomputable def rIxL(K:PySem.W.Frag):R2:=fun x y H Q=>∃p xs i v,x=.ref p/\y=.int i/\SqL K H p xs/\atI xs i=some v/\Q v H
noncomputable def rIxT(K:PySem.W.Frag):R2:=fun x y H Q=>∃p xs i v,x=.ref p/\y=.int i/\SqT K H p xs/\atI xs i=some v/\Q v H
noncomputable def rIxS:R2:=fun x y H Q=>∃z i c,x=.str z/\y=.int i/\z.length<=sizeLine/\atI z.cps.toList i=some c/\Q (.str ⟨#[c]⟩) H
theorem ix_list:IxR X (rIxL X.K):=by
 intro value slice pins s σ H x y v u Q I rx ry h hs;obtain ⟨p,xs,i,z,rfl,rfl,hq,he,q⟩:=h;cases rx;obtain ⟨t,rfl⟩:=ry;obtain ⟨its,r,pl,hz⟩:=I.list hq;obtain ⟨j,h1,h2,h3,h4,h5⟩:=atI_get he;obtain ⟨w,ew,rw'⟩:=r.get h2;have hl:=r.length;have hn:=line63;have fin:EP X pins σ Q w s:=⟨z,H,I,rw',q⟩
 by_cases h0:0<=i
 ·have hj:i.toNat=j:=by
   rw [seqIndex_of h0 h5] at h1;exact Option.some.inj h1
  exact item_listR pl.isList h0 (by lia) (by rw [hj];simpa using ew) fin hs
 ·have hj:(i+(its.toArray.size:Int)).toNat=j:=by
   rw [seqIndex_neg (by lia) h4] at h1
   rw [List.size_toArray,<- hl];exact Option.some.inj h1
  exact subscriptTail_builtinR (x:=w) pl.isList.typeIs slot_list_getitem.lookup
   (wpAny_getItem_list_neg (Q:=fun r s'=>r=w/\EP X pins σ Q r s') pl.isList (by lia) (by rw [List.size_toArray]<;>lia) (by lia) (by rw [hj];simpa using ew) ⟨rfl,fin⟩) hs
theorem ix_tup:IxR X (rIxT X.K):=by
 intro value slice pins s σ H x y v u Q I rx ry h hs;obtain ⟨p,xs,i,z,rfl,rfl,hq,he,q⟩:=h;cases rx;obtain ⟨t,rfl⟩:=ry;obtain ⟨its,r,pl,hz⟩:=I.tuple hq;obtain ⟨j,h1,h2,h3,h4,h5⟩:=atI_get he;obtain ⟨w,ew,rw'⟩:=r.get h2;have hl:=r.length;have hn:=line63;have fin:EP X pins σ Q w s:=⟨z,H,I,rw',q⟩
 exact subscriptTail_builtinR (x:=w) pl.typeIs slot_tuple_getitem.lookup
  (getItem_tuple (j:=j) (Q:=fun r s'=>r=w/\EP X pins σ Q r s') pl (by lia) (by lia) (by rw [List.size_toArray,<- hl];exact h1) (by simpa using ew) ⟨rfl,fin⟩) hs
theorem ix_str:IxR X rIxS:=by
 intro value slice pins s σ H x y v u Q I rx ry h hs;obtain ⟨z,i,c,rfl,rfl,hz,he,q⟩:=h;obtain ⟨t,rfl⟩:=rx;obtain ⟨t',rfl⟩:=ry;obtain ⟨j,h1,h2,h3,h4,h5⟩:=atI_get he;have hl:z.cps.toList.length=z.length:=by simp [Str.length]
 rw [hl] at h1 h4 h5;have hn:=line63;exact tail_any (typeIs_str s z t) slot_str_getitem.lookup (getItem_str (c:=c) (by
  have e1:decide (i < -(2 ^ 63:Int))=false:=decide_eq_false (by lia)
  have e2:decide (i>=2 ^ 63)=false:=decide_eq_false (by lia)
  rw [e1,e2,Bool.or_false]) (by rw [h1];simpa using h2) ⟨.str ⟨#[c]⟩,H,I.tok _,⟨_,rfl⟩,q⟩) hs
noncomputable def rIx(K:PySem.W.Frag):R2:=fun x y H Q=>rIxL K x y H Q\/rIxT K x y H Q\/rIxS x y H Q
theorem ix_seq:IxR X (rIx X.K):=ix_list.or (ix_tup.or ix_str)
theorem mapSeq_set(its:List Value)(n j:Nat)(u:Value):Obj.mapSeq (·.setIfInBounds j u) { cls:=.type "list",data:=.seq its.toArray n }={ cls:=.type "list",data:=.seq (its.set j u).toArray n }:=by
 simp [Obj.mapSeq]
theorem Inv.lst{pins:List (Addr×Obj)}{σ:St}{H:Hp}{s:Shared}{p:Addr}{xs:List V}(I:Inv X pins σ H s)(h:H p=some (.lst xs)):
  ∃(its:List Value) (n:Nat),Vals xs its/\s.heap.get? p=some { cls:=.type "list",data:=.seq its.toArray n }/\xs.length<=sizeLine:=by
 obtain ⟨z,its,n,r,e⟩:=I.hok p _ h;exact ⟨its,n,r,e,z⟩
theorem Inv.lstUpd{pins:List (Addr×Obj)}{σ:St}{H:Hp}{s:Shared}{p:Addr}{xs ys:List V}{its its':List Value}{n n':Nat}{f:Obj->Obj}(I:Inv X pins σ H s)(h:H p=some (.lst xs))
  (ho:s.heap.get? p=some { cls:=.type "list",data:=.seq its.toArray n }) (hf:f { cls:=.type "list",data:=.seq its.toArray n }={ cls:=.type "list",data:=.seq its'.toArray n' }) (r:Vals ys its') (hz:ys.length<=sizeLine) (t:Nat):
  Inv X pins σ (upd H p (.lst ys)) { s with heap:=s.heap.update p f,toks:=t }:=by
 have e:(s.heap.update p f).get? p=some { cls:=.type "list",data:=.seq its'.toArray n' }:=by
  rw [Heap.get?_update_self f ho (by rw [hf]<;>rfl),hf]
 refine I.write (x:=p) (e:=p) (by rw [h];trivial) (.inl rfl) (fun b u hb q=>(Heap.get?_update_other _ _ (Ne.symm hb)).trans q) ⟨_,e⟩ ?_
 exact ⟨hz,its',n',r,e⟩
noncomputable def rSetL:V->V->V->Hp->(Hp->Prop)->Prop:=fun o i v H Q=>∃p xs k j,o=.ref p/\i=.int k/\H p=some (.lst xs)/\ixN xs.length k=some j/\Q (upd H p (.lst (xs.set j v)))
theorem set_list:PSet X rSetL:=by
 intro pins s σ H o i v ov iv u Q I ro ri rv h;obtain ⟨p,xs,k,j,rfl,rfl,hp,hj,q⟩:=h;cases ro;obtain ⟨t,rfl⟩:=ri;obtain ⟨its,n,r,ho,hz⟩:=I.lst hp;obtain ⟨h1,h2,h3,h4⟩:=ixN_seq hj;have hl:=r.length;have hn:=line63;have I':Inv X pins σ (upd H p (.lst (xs.set j v))) { s with heap:=s.heap.update p (Obj.mapSeq (·.setIfInBounds j u)) }:=
  I.lstUpd hp ho (mapSeq_set its n j u) (r.set rv j) (by rw [List.length_set];exact hz) s.toks
 by_cases h0:0<=k
 ·have hk:k.toNat=j:=by
   rw [seqIndex_of h0 h4] at h1;exact Option.some.inj h1
  exact PySem.W.ki_setAt ho h0 (by lia) (by rw [List.size_toArray,<- hl];exact h4) (by rw [hk];exact ⟨_,I',q⟩)
 ·have hk:(k+(its.toArray.size:Int)).toNat=j:=by
   rw [seqIndex_neg (by lia) h3] at h1
   rw [List.size_toArray,<- hl];exact Option.some.inj h1
  exact PySem.W.ki_setBack ho (by lia) (by rw [List.size_toArray,<- hl];exact h3) (by lia) (by rw [hk];exact ⟨_,I',q⟩)
theorem slice_bounds(lo hi:Option Int)(n:Nat):(sliceBounds lo hi none n).1=((HT.sIx n 0 lo:Nat):Int)/\(sliceBounds lo hi none n).2.1=((HT.sIx n n hi:Nat):Int)/\(sliceBounds lo hi none n).2.2=1:=by
 refine ⟨?_,?_,rfl⟩
 ·cases lo with
  |none=>simp [sliceBounds,HT.sIx]
  |some i=>
   simp only [sliceBounds,HT.sIx,Option.getD_none,show (1:Int)>0 by decide,if_true]
   by_cases h:i<0
   ·simp only [h,if_true]<;>lia
   ·simp only [h,if_false]<;>lia
 ·cases hi with
  |none=>simp [sliceBounds,HT.sIx]
  |some i=>
   simp only [sliceBounds,HT.sIx,Option.getD_none,show (1:Int)>0 by decide,if_true]
   by_cases h:i<0
   ·simp only [h,if_true]<;>lia
   ·simp only [h,if_false]<;>lia
theorem slicePick_cut(its:List Value)(lo hi:Option Int):slicePick its.toArray lo hi none=((its.drop (HT.sIx its.length 0 lo)).take (HT.sIx its.length its.length hi-HT.sIx its.length 0 lo)).toArray:=by
 obtain ⟨h1,h2,h3⟩:=slice_bounds lo hi its.toArray.size;unfold slicePick;rw [h1,h2,h3];simp only [sliceRange_one,pick_run,List.size_toArray]<;>rfl
noncomputable def rSlL(K:PySem.W.Frag):V->Option Int->Option Int->Hp->VK->Prop:=fun x lo hi H Q=>∃a xs,x=.ref a/\SqL K H a xs/\∀p,H p=none->Q (.ref p) (upd H p (.lst (cutV xs lo hi)))
theorem sl_list:SlR X (rSlL X.K):=by
 intro pins s σ H x v vl vu lo hi sl Q I rx hs pl pu h;obtain ⟨a,xs,rfl,hx,q⟩:=h;cases rx;obtain ⟨its,r,ht,hz⟩:=I.list hx;have hlen:=r.length;refine ⟨"list",_,slot_list_getitem.lookup,ht.isList.typeIs,?_⟩;refine wpAny_getItem_list_slice ht.isList hs pl pu .none (by simp) ?_ (by rw [List.size_toArray]<;>lia)
 rw [slicePick_cut,<- hlen];refine ⟨.ref s.heap.objs.size,_,I.laid (t':=s.toks) (o:=.lst (cutV xs lo hi)) (fun b ob q=>Heap.get?_push_of_some _ q) (Nat.le_refl _) ?_,rfl,q _ (I.hok.fresh (Nat.le_refl _))⟩;exact ⟨Nat.le_trans (cutV_length xs lo hi) hz,_,0,(r.drop (HT.sIx xs.length 0 lo)).take (HT.sIx xs.length xs.length hi-HT.sIx xs.length 0 lo),Heap.get?_push_size _ rfl⟩
noncomputable def flatV:V->Bool
 |.non=>true
 |.bl _=>true
 |.int _=>true
 |.str _=>true
 |_=>false
noncomputable def eqV:V->V->Bool
 |.non,.non=>true
 |.bl a,.bl b=>a==b
 |.bl a,.int b=>(if a then 1 else 0)==b
 |.int a,.bl b=>a==(if b then 1 else 0)
 |.int a,.int b=>a==b
 |.str a,.str b=>a==b
 |_,_=>false
theorem eqAt_V{A:Around}{s:Shared}{y x:V}{u v:Value}(ry:RelV y u)(rx:RelV x v)(fy:flatV y=true)(fx:flatV x=true):SeqAt.EqAt A s u v (eqV y x):=by
 cases y with
 |non=>
  cases ry;cases x with
  |non=>cases rx;exact SeqAt.EqAt.same _
  |bl b=>cases rx;exact SeqAt.EqAt.none_bool b
  |int b=>obtain ⟨t,rfl⟩:=rx;exact SeqAt.EqAt.none_int b t
  |str b=>obtain ⟨t,rfl⟩:=rx;exact SeqAt.EqAt.none_str b t
  |_=>exact absurd (show false=true from fx) Bool.false_ne_true
 |bl a=>
  cases ry;cases x with
  |non=>cases rx;exact SeqAt.EqAt.bool_none a
  |bl b=>cases rx;exact SeqAt.EqAt.bool_bool a b
  |int b=>obtain ⟨t,rfl⟩:=rx;exact SeqAt.EqAt.bool_int a b t
  |str b=>obtain ⟨t,rfl⟩:=rx;exact SeqAt.EqAt.bool_str a b t
  |_=>exact absurd (show false=true from fx) Bool.false_ne_true
 |int a=>
  obtain ⟨t',rfl⟩:=ry;cases x with
  |non=>cases rx;exact SeqAt.EqAt.int_none a t'
  |bl b=>cases rx;exact SeqAt.EqAt.int_bool a t' b
  |int b=>obtain ⟨t,rfl⟩:=rx;exact SeqAt.EqAt.int_int a t' b t
  |str b=>obtain ⟨t,rfl⟩:=rx;exact SeqAt.EqAt.int_str a t' b t
  |_=>exact absurd (show false=true from fx) Bool.false_ne_true
 |str a=>
  obtain ⟨t',rfl⟩:=ry;cases x with
  |non=>cases rx;exact SeqAt.EqAt.str_none a t'
  |bl b=>cases rx;exact SeqAt.EqAt.str_bool a t' b
  |int b=>obtain ⟨t,rfl⟩:=rx;exact SeqAt.EqAt.str_int a t' b t
  |str b=>obtain ⟨t,rfl⟩:=rx;exact SeqAt.EqAt.str_str a t' b t
  |_=>exact absurd (show false=true from fx) Bool.false_ne_true
 |_=>exact absurd (show false=true from fy) Bool.false_ne_true
theorem call_len_seq:CallR X (.builtin "len") (fun xs H Q=>∃p ys,xs=[.ref p]/\(SqL X.K H p ys\/SqT X.K H p ys)/\Q (.int ys.length) H):=by
 intro pins s σ H xs us Q I r h;obtain ⟨p,ys,rfl,hq,q⟩:=h;obtain ⟨u,rfl,rx⟩:=vals1 r;cases rx;have hn:=line63;rcases hq with hq|hq
 ·obtain ⟨its,r',pl,hz⟩:=I.list hq
  have hlen:=r'.length;exact Calls.call_len_list pl.isList (by simp only [List.size_toArray]<;>lia) ⟨.int ys.length,H,I.tok _,⟨s.toks+1,by rw [List.size_toArray,hlen]⟩,q⟩
 ·obtain ⟨its,r',pl,hz⟩:=I.tuple hq
  have hlen:=r'.length;exact len_tuple pl (by simp only [List.size_toArray]<;>lia) ⟨.int ys.length,H,I.tok _,⟨s.toks+1,by rw [List.size_toArray,hlen]⟩,q⟩
theorem call_len_str:CallR X (.builtin "len") (fun xs H Q=>∃z,xs=[.str z]/\z.length<=sizeLine/\Q (.int z.length) H):=by
 intro pins s σ H xs us Q I r h;obtain ⟨z,rfl,hz,q⟩:=h;obtain ⟨u,rfl,t,rfl⟩:=vals1 r;have hn:=line63;exact len_str (by lia) ⟨.int z.length,H,I.tok _,⟨_,rfl⟩,q⟩
theorem call_list_of:CallR X (.type "list") (fun xs H Q=>∃p ys,xs=[.ref p]/\(SqL X.K H p ys\/SqT X.K H p ys)/\∀l,H l=none->Q (.ref l) (upd H l (.lst ys))):=by
 intro pins s σ H xs us Q I r h;obtain ⟨p,ys,rfl,hq,q⟩:=h;obtain ⟨u,rfl,rx⟩:=vals1 r;cases rx
 have fin:∀(its:List Value),Vals ys its->ys.length<=sizeLine->∀(h':Heap) (c':Nat),(∀b o',s.heap.get? b=some o'->h'.get? b=some o')->
   h'.get? s.heap.objs.size=some { cls:=.type "list",dict:=none,data:=.seq its.toArray c',slots:=#[] }->EP X pins σ Q (.ref s.heap.objs.size) { s with heap:=h' }:=fun its r' hz h' c' kp e=>
  ⟨.ref s.heap.objs.size,_,I.laid (t':=s.toks) kp (Nat.le_refl _) (show ObjOk X.prog X.w _ h' _ (.lst ys) from ⟨hz,its,c',r',e⟩),rfl,q _ (I.hok.fresh (Nat.le_refl _))⟩
 rcases hq with hq|hq
 ·obtain ⟨its,r',pl,hz⟩:=I.list hq
  have hlen:=r'.length;obtain ⟨o,ho,hc,n,hd⟩:=pl.isList;exact call_list_seq p (.inl rfl) ho hc hd (fun h' c' kp e=>fin its r' hz h' c' kp e) (by simp only [List.size_toArray]<;>lia)
 ·obtain ⟨its,r',pl,hz⟩:=I.tuple hq
  have hlen:=r'.length;obtain ⟨o,ho,hc,n,hd⟩:=pl;exact call_list_seq p (.inr rfl) ho hc hd (fun h' c' kp e=>fin its r' hz h' c' kp e) (by simp only [List.size_toArray]<;>lia)
theorem call_tuple_of:CallR X (.type "tuple") (fun xs H Q=>∃p ys,xs=[.ref p]/\((SqL X.K H p ys/\∀l,H l=none->Q (.ref l) (upd H l (.tup ys)))\/(SqT X.K H p ys/\Q (.ref p) H))):=by
 intro pins s σ H xs us Q I r h;obtain ⟨p,ys,rfl,h⟩:=h;obtain ⟨u,rfl,rx⟩:=vals1 r;cases rx;rcases h with ⟨hq,q⟩|⟨hq,q⟩
 ·obtain ⟨its,r',pl,hz⟩:=I.list hq
  have hlen:=r'.length;refine call_tuple_list pl.isList (fun h' kp=>?_) (by simp only [List.size_toArray]<;>lia)
  have I1:Inv X pins σ H { s with heap:=h' }:=I.kept (t':=s.toks) kp;have I2:Inv X pins σ (upd H h'.objs.size (.tup ys)) { s with heap:=h'.push { cls:=.type "tuple",data:=.seq its.toArray } }:=
   I1.laid (t':=s.toks) (fun b o e=>Heap.get?_push_of_some _ e) (Nat.le_refl _) (show ObjOk X.prog X.w _ _ _ (.tup ys) from ⟨hz,its,r',⟨_,Heap.get?_push_size _ rfl,⟨rfl,_,rfl⟩,rfl⟩⟩)
  exact ⟨.ref h'.objs.size,_,I2,rfl,q _ (I1.hok.fresh (Nat.le_refl _))⟩
 ·obtain ⟨its,r',pl,hz⟩:=I.tuple hq
  exact call_tuple_same pl ⟨.ref p,H,I,rfl,q⟩
noncomputable def tyV(K:PySem.W.Frag)(T:String)(x:V)(H:Hp):Prop:=match x with
 |.str _=>T="str"
 |.int _=>T="int"
 |.ref p=>(T="list"/\∃xs,SqL K H p xs)\/(T="tuple"/\∃o,K.lookup p=some o/\o.cls=.type "tuple"/\o.dict=none)\/
   (T="dict"/\((∃kvs,H p=some (.dK kvs))\/∃kvs,H p=some (.dT kvs)))\/(T="set"/\∃S n,H p=some (.set S n))
 |_=>False
theorem tyV_is{pins:List (Addr×Obj)}{σ:St}{H:Hp}{s:Shared}{T:String}{x:V}{v:Value}(I:Inv X pins σ H s)(r:RelV x v)(ty:tyV X.K T x H):
  s.TypeIs v T/\∀a,v=.ref a->∃ob,s.heap.get? a=some ob/\ob.dict=none:=by
 cases x with
 |str z=>
  obtain ⟨t,rfl⟩:=r;cases (show T="str" from ty);exact ⟨typeIs_str s z t,fun _ e=>nomatch e⟩
 |int i=>
  obtain ⟨t,rfl⟩:=r;cases (show T="int" from ty);exact ⟨typeIs_int s i t,fun _ e=>nomatch e⟩
 |ref p=>
  cases r;rcases ty with ⟨rfl,xs,hq⟩|⟨rfl,o,hk,hc,hd⟩|⟨rfl,hk⟩|⟨rfl,S,n,hk⟩
  ·obtain ⟨its,_,pl,_⟩:=I.list hq
   refine ⟨pl.isList.typeIs,fun a e=>?_⟩;cases e;obtain ⟨o,n,e,c,hd,_⟩:=pl;exact ⟨o,e,hd⟩
  ·refine ⟨⟨o,I.kIn p o hk,hc⟩,fun a e=>?_⟩
   cases e;exact ⟨o,I.kIn _ o hk,hd⟩
  ·have z:∃o,s.heap.get? p=some o/\o.ExactDict:=by
    rcases hk with ⟨kvs,hk⟩|⟨kvs,hk⟩
    ·obtain ⟨_,_,_,_,o,_,_,e,ex,_⟩:=I.hok p _ hk
     exact ⟨o,e,ex⟩
    ·obtain ⟨_,_,_,_,o,_,_,e,ex,_⟩:=I.hok p _ hk
     exact ⟨o,e,ex⟩
   obtain ⟨o,e,ex⟩:=z;refine ⟨⟨o,e,ex.1⟩,fun a e2=>?_⟩;cases e2;exact ⟨o,e,ex.2.1⟩
  ·obtain ⟨o,_,_,_,e,ex,_⟩:=I.hok p _ hk
   refine ⟨⟨o,e,ex.1⟩,fun a e2=>?_⟩;cases e2;exact ⟨o,e,ex.2.1⟩
 |_=>exact False.elim ty
noncomputable def tBM0(K:PySem.W.Frag)(T:String)(r:V->List V->Hp->VK->Prop)(to:TE):TE:=fun σ H Q=>to σ H fun x H1=>tyV K T x H1/\r x [] H1 Q
noncomputable def tBM(K:PySem.W.Frag)(T:String)(r:V->List V->Hp->VK->Prop)(to:TE)(t:TA):TE:=fun σ H Q=>to σ H fun x H1=>tyV K T x H1/\t σ H1 fun xs H2=>r x xs H2 Q
variable {o e:Expr}{es:List Expr}{to:TE}{t:TA}{name:Str}{apos cpos:Pos}{T id:String}{r:V->List V->Hp->VK->Prop}
theorem pe_bm0(pa:PlainAttrs T)(slot:Slot T name id)(hty:typeOf (.builtin id)=pure (.type "method_descriptor"))(hm:MtR X id r)(ho:PE X o to)
  (hbase:attributeBase o name X.env (eval o X.env)=eval o X.env:=by rfl) (hline:(apos.endLine==cpos.line)=true:=by rfl):PE X (.Call (.Attribute o name apos) [] [] cpos) (tBM0 X.K T r to):=by
 intro pins s σ H Q I h;refine wpAny_Call_method0_late hbase hline (thn (ho pins s σ H _ I h) fun v s1 ⟨x,H1,I1,r1,ty,q1⟩=>?_);obtain ⟨h1,h2⟩:=tyV_is I1 r1 ty;exact ⟨T,id,pa,slot,hty,h1,h2,Calls.callWith_builtin rfl (PySem.evalArgs_none (hm pins s1 σ H1 x [] v [] Q I1 r1 .nil q1))⟩
theorem pe_bm(pa:PlainAttrs T)(slot:Slot T name id)(hty:typeOf (.builtin id)=pure (.type "method_descriptor"))(hm:MtR X id r)(ho:PE X o to)(ha:PA X (e::es) t)
  (hbase:attributeBase o name X.env (eval o X.env)=eval o X.env:=by rfl)
  (hfew:((backTo cpos (starEach (e::es) X.env)).all (fun x=>!x.1)&&(backToKw cpos (keywordEach [] X.env)).all (fun x=>x.1.isSome)
   && decide ((e::es).length+([]:List Keyword).length+(if ([]:List Keyword).isEmpty then 0 else 1)<30))=true:=by rfl)
  (hline:(apos.endLine==cpos.line)=true:=by rfl) (hs:starEach (e::es) X.env=(false,eval e X.env)::starEach es X.env:=by rfl) (hplain:(backTo cpos (starEach es X.env)).any (·.1)=false:=by rfl):
  PE X (.Call (.Attribute o name apos) (e::es) [] cpos) (tBM X.K T r to t):=by
 intro pins s σ H Q I h;refine wpAny_Call_method_late hbase hfew hline rfl (thn (ho pins s σ H _ I h) fun v s1 ⟨x,H1,I1,r1,ty,q1⟩=>?_);obtain ⟨h1,h2⟩:=tyV_is I1 r1 ty;refine ⟨T,id,pa,slot,hty,h1,h2,?_⟩;have hA:=ha cpos pins s1 σ H1 _ I1 q1;rw [hs] at hA ⊢;refine Calls.callWith_builtin (by show (false||(backTo cpos (starEach es X.env)).any (·.1))=false;rw [hplain]<;>rfl) (Calls.evalArgs_plain ?_)
 exact thn hA fun us s2 ⟨vs,H2,I2,r2,q2⟩=>hm pins s2 σ H2 x vs v us Q I2 r1 r2 q2
end
end L2
namespace L2
open PySem PySem.Spec PyProof.Rows
noncomputable def MtM(X:Cx)(id:String)(r:V->List V->Hp->VK->Prop):Prop:=
 ∀(pins:List (Addr×Obj)) (s:Shared) (σ:St) (H:Hp) (x:V) (xs:List V) (v:Value) (us:List Value) (Q:VK),Inv X pins σ H s->RelV x v->Vals xs us->r x xs H Q->
  wpAny (model X.prog X.w) X.A (call (.builtin id) (v::us)) (EP X pins σ Q) X.xe s
theorem Vals.one:∀{x:V} {us:List Value},Vals [x] us->∃u,us=[u]/\RelV x u
 |_,_,h=>by cases h with|cons r q=>cases q;exact ⟨_,rfl,r⟩
theorem Vals.two:∀{x y:V} {us:List Value},Vals [x,y] us->∃u v,us=[u,v]/\RelV x u/\RelV y v
 |_,_,_,h=>by cases h with|cons r q=>cases q with|cons q z=>cases z;exact ⟨_,_,rfl,r,q⟩
theorem Vals.zero:∀{us:List Value},Vals [] us->us=[]
 |_,.nil=>rfl
theorem Vals.dropLast{xs:List V}{us:List Value}(h:Vals xs us):Vals xs.dropLast us.dropLast:=by
 induction h with
 |nil=>exact .nil
 |cons r t ih=>
  cases t with
  |nil=>exact .nil
  |cons q t'=>exact .cons r ih
theorem Vals.eraseIdx:∀{xs:List V} {us:List Value} (i:Nat),Vals xs us->Vals (xs.eraseIdx i) (us.eraseIdx i)
 |_,_,_,.nil=>.nil
 |_,_,0,.cons _ t=>t
 |_,_,i+1,.cons r t=>.cons r (Vals.eraseIdx i t)
theorem Vals.rep{xs:List V}{us:List Value}(h:Vals xs us):∀k:Nat,Vals (List.replicate k xs).flatten (List.replicate k us).flatten
 |0=>.nil
 |k+1=>by
  rw [List.replicate_succ,List.replicate_succ,List.flatten_cons,List.flatten_cons];exact Vals.append h (Vals.rep h k)
theorem erase_last{α:Type}(l:List α):l.eraseIdx (l.length-1)=l.dropLast:=by
 induction l with
 |nil=>rfl
 |cons a r ih=>
  cases r with
  |nil=>rfl
  |cons b r=>
   have e:(a::b::r).length-1=((b::r).length-1)+1:=by
    have h1:(a::b::r).length=r.length+2:=rfl;have h2:(b::r).length=r.length+1:=rfl;lia
   rw [e,List.eraseIdx_cons_succ,ih]
   all_goals rfl
theorem len_erase{α:Type}:∀(l:List α) (i:Nat),(l.eraseIdx i).length<=l.length
 |[],_=>Nat.le_refl _
 |_::_,0=>Nat.le_succ _
 |_::r,i+1=>Nat.succ_le_succ (len_erase r i)
section
variable {X:Cx}{pins:List (Addr×Obj)}{σ:St}{H:Hp}{s:Shared}{l b:Addr}{xs ys zs:List V}
theorem Inv.lset{its its':List Value}{n:Nat}{f:Array Value->Array Value}{t':Nat}(I:Inv X pins σ H s)(hH:H l=some (.lst xs))
  (e:s.heap.get? l=some { cls:=.type "list",data:=.seq its.toArray n }) (hf:f its.toArray=its'.toArray) (hv:Vals ys its') (hz:ys.length<=sizeLine):
  Inv X pins σ (upd H l (.lst ys)) { s with heap:=s.heap.update l (Obj.mapSeq f),toks:=t' }:=by
 have q:=PySem.IsL.update e f;rw [hf] at q;refine I.write (x:=l) (e:=l) (by rw [hH];exact trivial) (.inl rfl) (fun b' u hb hu=>(Heap.get?_update_other s.heap (Obj.mapSeq f) (Ne.symm hb)).trans hu) ⟨_,q⟩ ?_
 exact ⟨hz,its',_,hv,q⟩
theorem Inv.lnew{its:List Value}{t':Nat}(I:Inv X pins σ H s)(hv:Vals ys its)(hz:ys.length<=sizeLine):
  Inv X pins σ (upd H s.heap.objs.size (.lst ys)) { s with heap:=s.heap.push { cls:=.type "list",data:=.seq its.toArray },toks:=t' }:=
 I.laid (fun _ _ q=>Heap.get?_push_of_some _ q) (Nat.le_refl _) ⟨hz,its,0,hv,Heap.get?_push_size _ rfl⟩
theorem Inv.fresh(I:Inv X pins σ H s):H s.heap.objs.size=none:=I.hok.fresh (Nat.le_refl _)
theorem Inv.lstM(I:Inv X pins σ H s)(hH:H l=some (.lst xs)):xs.length<=sizeLine/\∃(its:List Value) (n:Nat),Vals xs its/\xs.length=its.length/\s.heap.get? l=some { cls:=.type "list",data:=.seq its.toArray n }:=by
 obtain ⟨z,its,n,r,e⟩:=I.hok l _ hH;exact ⟨z,its,n,r,r.length,e⟩
theorem notLongL{n:Nat}(h:n<=sizeLine):Builtin.List.listTooLong n=false:=by
 unfold Builtin.List.listTooLong;exact decide_eq_false (by lia)
end
section
variable {X:Cx}
noncomputable def rAppend:V->List V->Hp->VK->Prop:=fun x vs H Q=>∃l xs y,x=.ref l/\vs=[y]/\H l=some (.lst xs)/\xs.length<sizeLine/\Q .non (upd H l (.lst (xs++[y])))
theorem mt_append:MtM X "list.append" rAppend:=by
 intro pins s σ H x vs v us Q I rx rv h;obtain ⟨l,xs,y,rfl,rfl,hH,hz,q⟩:=h;cases rx;obtain ⟨u,rfl,ru⟩:=rv.one;obtain ⟨z,its,n,r,hl,e⟩:=I.lstM hH;refine call_meets F.slot_list_append ⟨_,e,rfl⟩ F.entry_list_append (F.args_list_append_2 _ _) (PySem.list_append l its.toArray n u (by rw [List.size_toArray];lia)) ⟨e,?_⟩
 refine ⟨.non,_,I.lset (its':=its++[u]) hH e (by simp) (r.append (.cons ru .nil)) ?_,rfl,q⟩
 rw [List.length_append,List.length_singleton];lia
noncomputable def rPop:V->List V->Hp->VK->Prop:=fun x vs H Q=>∃l xs y,x=.ref l/\vs=[]/\H l=some (.lst xs)/\xs[xs.length-1]?=some y/\Q y (upd H l (.lst xs.dropLast))
theorem mt_pop:MtM X "list.pop" rPop:=by
 intro pins s σ H x vs v us Q I rx rv h;obtain ⟨l,xs,y,rfl,rfl,hH,hy,q⟩:=h;cases rx;have hus:=rv.zero;subst hus;obtain ⟨z,its,n,r,hl,e⟩:=I.lstM hH;obtain ⟨u,hu,ru⟩:=r.get hy;have hy':its.toArray[its.toArray.size-1]?=some u:=by
  show its.toArray[its.length-1]?=some u;rw [<- Array.getElem?_toList,<- hl];exact hu
 refine call_meets F.slot_list_pop ⟨_,e,rfl⟩ F.entry_list_pop (F.args_list_pop_1 _) (MeetsSeq.list_pop_last l its.toArray n u hy' (by rw [List.size_toArray];lia)) ⟨e,?_⟩
 refine ⟨y,_,I.lset (its':=its.dropLast) hH e ?_ r.dropLast ?_,ru,q⟩
 ·show its.toArray.eraseIdxIfInBounds (its.toArray.size-1)=its.dropLast.toArray
  rw [List.size_toArray,List.eraseIdxIfInBounds_toArray,erase_last]
 ·rw [List.length_dropLast]
  lia
noncomputable def rPopAt:V->List V->Hp->VK->Prop:=fun x vs H Q=>∃l xs i k y,x=.ref l/\vs=[.int i]/\H l=some (.lst xs)/\-(2 ^ 63)<=i/\i<2 ^ 63/\seqIndex? i xs.length=some k/\xs[k]?=some y/\Q y (upd H l (.lst (xs.eraseIdx k)))
theorem mt_popAt:MtM X "list.pop" rPopAt:=by
 intro pins s σ H x vs v us Q I rx rv h;obtain ⟨l,xs,i,k,y,rfl,rfl,hH,h1,h2,hk,hy,q⟩:=h;cases rx;obtain ⟨u,rfl,ru⟩:=rv.one;obtain ⟨t,rfl⟩:=ru;obtain ⟨z,its,n,r,hl,e⟩:=I.lstM hH;obtain ⟨w,hw,rw'⟩:=r.get hy
 refine call_meets F.slot_list_pop ⟨_,e,rfl⟩ F.entry_list_pop (F.args_list_pop_2 _ _)
  (MeetsSeq.list_pop_at l its.toArray n i t k w (fitsIndex_both h1 h2) (by rw [List.size_toArray,<- hl];exact hk) (by rw [<- Array.getElem?_toList];exact hw) (by rw [List.size_toArray];lia)) ⟨e,?_⟩
 refine ⟨y,_,I.lset (its':=its.eraseIdx k) hH e ?_ (r.eraseIdx k) ?_,rw',q⟩
 ·show its.toArray.eraseIdxIfInBounds k=(its.eraseIdx k).toArray
  rw [List.eraseIdxIfInBounds_toArray]
 ·have:=len_erase xs k
  lia
noncomputable def rClear:V->List V->Hp->VK->Prop:=fun x vs H Q=>∃l xs,x=.ref l/\vs=[]/\H l=some (.lst xs)/\Q .non (upd H l (.lst []))
theorem mt_clear:MtM X "list.clear" rClear:=by
 intro pins s σ H x vs v us Q I rx rv h;obtain ⟨l,xs,rfl,rfl,hH,q⟩:=h;cases rx;have hus:=rv.zero;subst hus;obtain ⟨z,its,n,r,hl,e⟩:=I.lstM hH;refine call_meets F.slot_list_clear ⟨_,e,rfl⟩ F.entry_list_clear (F.args_list_clear_1 _) (AutoSeq1.list_clear_list_0 l its.toArray n (by rw [List.size_toArray];lia)) ⟨e,?_⟩
 exact ⟨.non,_,I.lset (its':=[]) (ys:=[]) hH e rfl .nil (Nat.zero_le _),rfl,q⟩
theorem len_rep{α:Type}(xs:List α)(k:Nat):(List.replicate k xs).flatten.length=k*xs.length:=by
 induction k with
 |zero=>simp
 |succ k ih=>rw [List.replicate_succ,List.flatten_cons,List.length_append,ih,Nat.succ_mul,Nat.add_comm]
end
section
variable {prog:Program}{w:World}{A:Around}{E:Value->Shared->Prop}{s:Shared}
set_option maxRecDepth 100000 in
end
section
variable {X:Cx}
end
end L2
namespace L2
open PySem PySem.Spec PyProof.Rows
section
variable {κ:Type}[DecidableEq κ]
noncomputable def valV(kvs:List (κ×V))(k:κ):Option V:=(kvs.find? fun kv=>decide (kv.1=k)).map (·.2)
noncomputable def putK(kvs:List (κ×V))(k:κ)(v:V):List (κ×V):=
 if (kvs.any fun kv=>decide (kv.1=k))=true then kvs.map (fun kv=>if kv.1=k then (kv.1,v) else kv) else kvs++[(k,v)]
theorem valV_pos{p:κ×V}{r:List (κ×V)}{k:κ}(e:p.1=k):valV (p::r) k=some p.2:=by simp [valV,List.find?_cons,e]
theorem valV_neg{p:κ×V}{r:List (κ×V)}{k:κ}(e:¬p.1=k):valV (p::r) k=valV r k:=by simp [valV,List.find?_cons,e]
theorem valV_any(k:κ):∀kvs:List (κ×V),(kvs.any fun kv=>decide (kv.1=k))=(valV kvs k).isSome
 |[]=>rfl
 |p::r=>by
  rw [List.any_cons]
  by_cases e:p.1=k
  ·simp only [valV_pos e,decide_eq_true e,Bool.true_or,Option.isSome_some]
  ·rw [valV_neg e,decide_eq_false e,Bool.false_or];exact valV_any k r
theorem length_putK(kvs:List (κ×V))(k:κ)(v:V):(putK kvs k v).length<=kvs.length+1:=by
 unfold putK
 split
 ·rw [List.length_map];lia
 ·rw [List.length_append,List.length_cons,List.length_nil];lia
theorem RelO.isSome_eq{o:Option V}{u:Option Value}(r:RelO o u):o.isSome=u.isSome:=by
 cases o with
 |none=>cases u with
  |none=>rfl
  |some _=>exact (show False from r).elim
 |some _=>cases u with
  |none=>exact (show False from r).elim
  |some _=>rfl
theorem KV.val{kvs:List (κ×V)}{vs:List (κ×Value)}(r:KV kvs vs)(k:κ):RelO (valV kvs k) (valueAt vs k):=by
 unfold KV at r
 induction r with
 |nil=>exact True.intro
 |@cons p q ps qs h t ih=>
  obtain ⟨h1,h2⟩:=h
  by_cases e:p.1=k
  ·have e':q.1=k:=h1.symm.trans e
   have b:valueAt (q::qs) k=some q.2:=by simp [valueAt,List.find?_cons,e']
   rw [valV_pos e,b];exact h2
  ·have e':¬q.1=k:=fun z=>e (h1.trans z)
   have b:valueAt (q::qs) k=valueAt qs k:=by simp [valueAt,List.find?_cons,e']
   rw [valV_neg e,b];exact ih
theorem KV.any{kvs:List (κ×V)}{vs:List (κ×Value)}(r:KV kvs vs)(k:κ):(kvs.any fun kv=>decide (kv.1=k))=vs.any fun kv=>decide (kv.1=k):=by
 unfold KV at r
 induction r with
 |nil=>rfl
 |cons h t ih=>rw [List.any_cons,List.any_cons,ih,h.1]
theorem KV.repl{kvs:List (κ×V)}{vs:List (κ×Value)}(r:KV kvs vs)(k:κ){y:V}{u:Value}(ry:RelV y u):
  KV (kvs.map fun kv=>if kv.1=k then (kv.1,y) else kv) (vs.map fun kv=>if kv.1=k then (kv.1,u) else kv):=by
 unfold KV at r ⊢
 induction r with
 |nil=>exact .nil
 |@cons p q ps qs h t ih=>
  rw [List.map_cons,List.map_cons];refine .cons ?_ ih;obtain ⟨h1,h2⟩:=h
  by_cases e:p.1=k
  ·rw [if_pos e,if_pos (h1.symm.trans e)];exact ⟨h1,ry⟩
  ·rw [if_neg e,if_neg (fun z=>e (h1.trans z))];exact ⟨h1,h2⟩
theorem KV.put{kvs:List (κ×V)}{vs:List (κ×Value)}(r:KV kvs vs)(k:κ){y:V}{u:Value}(ry:RelV y u):KV (putK kvs k y) (stored vs k u):=by
 unfold putK stored;rw [r.any k]
 by_cases e:(vs.any fun kv=>decide (kv.1=k))=true
 ·rw [if_pos e,if_pos e];exact r.repl k ry
 ·rw [if_neg e,if_neg e];exact Paired.snoc r ⟨rfl,ry⟩
theorem KV.length{kvs:List (κ×V)}{vs:List (κ×Value)}(r:KV kvs vs):kvs.length=vs.length:=Paired.length r
end
theorem kV_is{P:Program}{w:World}{k:Key}{u:Value}(r:RelV (kV k) u):(mixKind P w).is k u=true:=by
 cases k with
 |inl i=>obtain ⟨t,e⟩:=(show ∃t,u=Value.int i t from r);subst e;exact mixKind_int P w i t
 |inr x=>obtain ⟨t,e⟩:=(show ∃t,u=Value.str x t from r);subst e;exact mixKind_str P w x t
theorem items_are{P:Program}{w:World}:∀{ks:List Key} {us:List Value},Vals (ks.map kV) us->ItemsAre (mixKind P w) ks us
 |[],_,r=>by rw [List.map_nil] at r;cases r;exact .nil
 |k::ks,_,r=>by
  rw [List.map_cons] at r;cases r with
  |cons h t=>exact .cons (kV_is h) (items_are t)
noncomputable abbrev KT(H:Hp):List (List Key×V)->List (List Key×Addr×Value)->Prop:=Paired fun p q=>p.1=q.1/\H q.2.1=some (.tup (p.1.map kV))/\RelV p.2 q.2.2
theorem KT.val{H:Hp}{kvs:List (List Key×V)}{xs:List (List Key×Addr×Value)}(r:KT H kvs xs)(k:List Key):RelO (valV kvs k) ((atKey xs k).map (·.2)):=by
 induction r with
 |nil=>exact True.intro
 |@cons p q ps qs h t ih=>
  obtain ⟨h1,_,h2⟩:=h
  by_cases e:p.1=k
  ·have e':q.1=k:=h1.symm.trans e
   have b:atKey (q::qs) k=some q.2:=by simp [atKey,List.find?_cons,e']
   rw [valV_pos e,b];exact h2
  ·have e':¬q.1=k:=fun z=>e (h1.trans z)
   have b:atKey (q::qs) k=atKey qs k:=by simp [atKey,List.find?_cons,e']
   rw [valV_neg e,b];exact ih
theorem KT.repl{H:Hp}{kvs:List (List Key×V)}{xs:List (List Key×Addr×Value)}(r:KT H kvs xs)(k:List Key){y:V}{u:Value}(ry:RelV y u):
  KT H (kvs.map fun kv=>if kv.1=k then (kv.1,y) else kv) (xs.map (putAt k u)):=by
 induction r with
 |nil=>exact .nil
 |@cons p q ps qs h t ih=>
  rw [List.map_cons,List.map_cons];refine .cons ?_ ih;obtain ⟨h1,h2,h3⟩:=h;unfold putAt
  by_cases e:p.1=k
  ·rw [if_pos e,if_pos (h1.symm.trans e)];exact ⟨h1,h2,ry⟩
  ·rw [if_neg e,if_neg (fun z=>e (h1.trans z))];exact ⟨h1,h2,h3⟩
theorem KT.put{H:Hp}{kvs:List (List Key×V)}{xs:List (List Key×Addr×Value)}(r:KT H kvs xs)(k:List Key){b:Addr}{y:V}{u:Value}(hb:H b=some (.tup (k.map kV)))(ry:RelV y u):
  KT H (putK kvs k y) (storedH xs k b u):=by
 have e:(kvs.any fun kv=>decide (kv.1=k))=(atKey xs k).isSome:=by
  rw [valV_any,(r.val k).isSome_eq,Option.isSome_map]
 unfold putK storedH;rw [e]
 by_cases q:(atKey xs k).isSome=true
 ·rw [if_pos q,if_pos q];exact r.repl k ry
 ·rw [if_neg q,if_neg q];exact Paired.snoc r ⟨rfl,hb,ry⟩
theorem KT.keeps{H H':Hp}{kvs:List (List Key×V)}{xs:List (List Key×Addr×Value)}(r:KT H kvs xs)(ht:∀b ys,H b=some (.tup ys)->H' b=some (.tup ys)):KT H' kvs xs:=
 Paired.mapP r fun _ _ z=>⟨z.1,ht _ _ z.2.1,z.2.2⟩
section
variable {P:Program}{w:World}{H:Hp}{h:Heap}{a:Addr}
theorem rd_of{u:HO}(ok:HOk P w H h)(e:Rd H a u):ObjOk P w H h a u:=e.ok ok
theorem dk_rd{kvs:List (Key×V)}(ok:HOk P w H h)(e:Rd H a (.dK kvs)):kvs.length<=sizeLine/\(a==sysModules)=false/\∃vs,KV kvs vs/\h.DictOf (mixKind P w) a vs:=
 show ObjOk P w H h a (.dK kvs) from rd_of ok e
theorem dk_of{kvs:List (Key×V)}(ok:HOk P w H h)(e:H a=some (.dK kvs)):kvs.length<=sizeLine/\(a==sysModules)=false/\∃vs,KV kvs vs/\h.DictOf (mixKind P w) a vs:=dk_rd ok (.inl e)
theorem key_of{ks:List Key}(ok:HOk P w H h)(e:H a=some (.tup (ks.map kV))):(tupleKind (mixKind P w)).is h ks a:=by
 obtain ⟨_,its,r,o,h1,⟨h2,n,h3⟩,_⟩:=(show ObjOk P w H h a (.tup (ks.map kV)) from ok a _ e);exact ⟨o,its.toArray,n,h1,h2,h3,by simpa using items_are r⟩
theorem dt_rd{kvs:List (List Key×V)}(ok:HOk P w H h)(e:Rd H a (.dT kvs)):kvs.length<=sizeLine/\(a==sysModules)=false/\
  ∃xs,KT H kvs xs/\h.DictOfH (tupleKind (mixKind P w)) a xs:=by
 obtain ⟨z,y,xs,r,o,es,ep,h1,h2,h3,h4,h5⟩:=(show ObjOk P w H h a (.dT kvs) from rd_of ok e);refine ⟨z,y,xs,r,o,es,ep,h1,h2,h3,h4,fun x hx=>?_,h5⟩;have all:∀{l:List (List Key×V)} {m:List (List Key×Addr×Value)},KT H l m->∀x∈m,(tupleKind (mixKind P w)).is h x.1 x.2.1:=by
  intro l m q
  induction q with
  |nil=>intro x hx;exact nomatch hx
  |@cons p q ps qs hq t ih=>
   intro x hx;rcases List.mem_cons.mp hx with e|hx
   ·subst e
    exact key_of ok (by rw [<- hq.1];exact hq.2.1)
   ·exact ih x hx
 exact all r x hx
theorem dt_of{kvs:List (List Key×V)}(ok:HOk P w H h)(e:H a=some (.dT kvs)):kvs.length<=sizeLine/\(a==sysModules)=false/\
  ∃xs,KT H kvs xs/\h.DictOfH (tupleKind (mixKind P w)) a xs:=dt_rd ok (.inl e)
end
noncomputable def DGet(H:Hp)(a:Addr)(y:V)(r:Option V):Prop:=
 (∃kvs k,Rd H a (.dK kvs)/\y=kV k/\r=valV kvs k)\/∃kvs k b,Rd H a (.dT kvs)/\y=.ref b/\H b=some (.tup (k.map kV))/\r=valV kvs k
noncomputable def DPut(H:Hp)(a:Addr)(y v:V)(H':Hp):Prop:=
 (∃kvs k,H a=some (.dK kvs)/\y=kV k/\kvs.length<sizeLine/\H'=upd H a (.dK (putK kvs k v)))\/
 ∃kvs k b,H a=some (.dT kvs)/\y=.ref b/\H b=some (.tup (k.map kV))/\kvs.length<sizeLine/\H'=upd H a (.dT (putK kvs k v))
theorem DGet.k{H:Hp}{a:Addr}{kvs:List (Key×V)}{k:Key}(e:H a=some (.dK kvs)):DGet H a (kV k) (valV kvs k):=.inl ⟨kvs,k,.inl e,rfl,rfl⟩
theorem DGet.t{H:Hp}{a b:Addr}{kvs:List (List Key×V)}{k:List Key}(e:H a=some (.dT kvs))(eb:H b=some (.tup (k.map kV))):DGet H a (.ref b) (valV kvs k):=.inr ⟨kvs,k,b,.inl e,rfl,eb,rfl⟩
theorem DPut.k{H:Hp}{a:Addr}{kvs:List (Key×V)}{k:Key}{v:V}(e:H a=some (.dK kvs))(hl:kvs.length<sizeLine):DPut H a (kV k) v (upd H a (.dK (putK kvs k v))):=.inl ⟨kvs,k,e,rfl,hl,rfl⟩
theorem DPut.t{H:Hp}{a b:Addr}{kvs:List (List Key×V)}{k:List Key}{v:V}(e:H a=some (.dT kvs))(eb:H b=some (.tup (k.map kV)))(hl:kvs.length<sizeLine):
  DPut H a (.ref b) v (upd H a (.dT (putK kvs k v))):=.inr ⟨kvs,k,b,e,rfl,eb,hl,rfl⟩
section
variable {X:Cx}{pins:List (Addr×Obj)}{σ:St}{H:Hp}{s:Shared}{a:Addr}{y v:V}{u r:Value}{o:Option V}{A:Around}{E:Value->Shared->Prop}
theorem Inv.big(I:Inv X pins σ H s):sysModules<s.heap.objs.size:=by
 have h:mainGlobals<s.heap.objs.size:=(I.mod.glob.keeps I.bk).lt;exact Nat.lt_trans (by decide) h
theorem d_getItem{Q:Value->Shared->Prop}(hu:A.units+1<cLine)(I:Inv X pins σ H s)(g:DGet H a y (some v))(ry:RelV y u)(h:∀w' s',Inv X pins σ H s'->RelV v w'->Q w' s'):
  wpAny (model X.prog X.w) A (getItem (.ref a) u) Q E s:=by
 rcases g with ⟨kvs,k,e,ey,l⟩|⟨kvs,k,b,e,ey,eb,l⟩
 ·subst ey
  obtain ⟨z,hd,vs,rel,dd⟩:=dk_rd I.hok e;obtain ⟨w',hw,rw'⟩:=RelO.some_of (v:=v) (o:=valueAt vs k) (by rw [l];exact rel.val k)
  exact wpAny_getItem_of (kV_is ry) dd.mapOf hw (h w' _ (I.tok _) rw')
 ·subst ey
  cases (show u=Value.ref b from ry);obtain ⟨z,hd,xs,rel,dd⟩:=dt_rd I.hok e;obtain ⟨w',hw,rw'⟩:=RelO.some_of (v:=v) (o:=(atKey xs k).map (·.2)) (by rw [l];exact rel.val k)
  obtain ⟨p,hp,hp2⟩:=Option.map_eq_some_iff.mp hw;refine wpAny_getItem_heap (tupleKind_room_in1 hu) (key_of I.hok eb) dd hp ?_;rw [hp2];exact h w' _ (I.tok _) rw'
theorem d_in{Q:Value->Shared->Prop}(hu:A.units+1<cLine)(I:Inv X pins σ H s)(g:DGet H a y o)(ry:RelV y u)(h:∀s',Inv X pins σ H s'->Q (.bool o.isSome) s'):
  wpAny (model X.prog X.w) A (compareOp .In u (.ref a)) Q E s:=by
 rcases g with ⟨kvs,k,e,ey,l⟩|⟨kvs,k,b,e,ey,eb,l⟩
 ·subst ey
  obtain ⟨z,hd,vs,rel,dd⟩:=dk_rd I.hok e;refine wpAny_in_of (kV_is ry) hd dd.mapOf ?_;rw [<- (rel.val k).isSome_eq,<- l];exact h _ (I.tok _)
 ·subst ey
  cases (show u=Value.ref b from ry);obtain ⟨z,hd,xs,rel,dd⟩:=dt_rd I.hok e;refine wpAny_in_heap (tupleKind_room_in1 hu) (key_of I.hok eb) hd dd ?_;have q:=(rel.val k).isSome_eq;rw [Option.isSome_map] at q;rw [<- q,<- l];exact h _ (I.tok _)
theorem d_notIn{Q:Value->Shared->Prop}(hu:A.units+1<cLine)(I:Inv X pins σ H s)(g:DGet H a y o)(ry:RelV y u)(h:∀s',Inv X pins σ H s'->Q (.bool (!o.isSome)) s'):
  wpAny (model X.prog X.w) A (compareOp .NotIn u (.ref a)) Q E s:=by
 rcases g with ⟨kvs,k,e,ey,l⟩|⟨kvs,k,b,e,ey,eb,l⟩
 ·subst ey
  obtain ⟨z,hd,vs,rel,dd⟩:=dk_rd I.hok e;refine wpAny_notIn_of (kV_is ry) hd dd.mapOf ?_;rw [<- (rel.val k).isSome_eq,<- l];exact h _ (I.tok _)
 ·subst ey
  cases (show u=Value.ref b from ry);obtain ⟨z,hd,xs,rel,dd⟩:=dt_rd I.hok e;refine wpAny_notIn_heap (tupleKind_room_in1 hu) (key_of I.hok eb) hd dd ?_;have q:=(rel.val k).isSome_eq;rw [Option.isSome_map] at q;rw [<- q,<- l];exact h _ (I.tok _)
theorem d_write{h':Heap}{t':Nat}{ob:HO}(I:Inv X pins σ H s)(mu:Mut (H a))(hs:Heap.SameBut a s.heap h')(he:∃q,h'.get? a=some q)(new:ObjOk X.prog X.w (upd H a ob) h' a ob):
  Inv X pins σ (upd H a ob) { s with heap:=h',toks:=t' }:=
 I.write (x:=a) (e:=a) mu (.inl rfl) (fun b q hb z=>(hs.2 b hb).trans z) he new
theorem dk_new{P:Program}{w:World}{H':Hp}{h':Heap}{kvs:List (Key×V)}{vs:List (Key×Value)}(z:kvs.length<=sizeLine)(hd:(a==sysModules)=false)(rel:KV kvs vs)(dd:h'.DictOf (mixKind P w) a vs):
  ObjOk P w H' h' a (.dK kvs):=⟨z,hd,vs,rel,dd⟩
theorem d_setItem{H':Hp}{Q:Unit->Shared->Prop}(hu:A.units+1<cLine)(I:Inv X pins σ H s)(g:DPut H a y v H')(ry:RelV y u)(rv:RelV v r)(h:∀s',Inv X pins σ H' s'->Q () s'):
  wpAny (model X.prog X.w) A (setItem (.ref a) u r) Q E s:=by
 rcases g with ⟨kvs,k,e,ey,l,eH⟩|⟨kvs,k,b,e,ey,eb,l,eH⟩
 ·subst ey eH
  obtain ⟨z,hd,vs,rel,dd⟩:=dk_of I.hok e;have hz:vs.length<=sizeLine:=by rw [<- rel.length];exact z
  have hl:(putK kvs k v).length<=sizeLine:=by have:=length_putK kvs k v;lia
  refine wpAny_setItem_pairs (hsz:=hz) (kV_is ry) dd fun h' dd' hs=>h _ ?_;have he:∃q,h'.get? a=some q:=let ⟨q,_,_,hq,_⟩:=dd';⟨q,hq⟩;exact d_write I (by rw [e];exact True.intro) hs he (dk_new hl hd (rel.put k rv) dd')
 ·subst ey eH
  cases (show u=Value.ref b from ry);obtain ⟨z,hd,xs,rel,dd⟩:=dt_of I.hok e;have hz:xs.length<=sizeLine:=by rw [<- Paired.length rel];exact z
  have hl:(putK kvs k v).length<=sizeLine:=by have:=length_putK kvs k v;lia
  refine wpAny_setItem_heap (hsz:=hz) (tupleKind_room_in1 hu) (key_of I.hok eb) dd fun h' dd' hs=>h _ ?_;obtain ⟨q,es,ep,hq,h2,h3,h4,_,h5⟩:=dd';refine d_write I (by rw [e];exact True.intro) hs ⟨q,hq⟩ ⟨hl,hd,_,(rel.put k eb rv).keeps fun c ys ec=>?_,q,es,ep,hq,h2,h3,h4,h5⟩
  rw [upd_ne (ne_of ec e (fun z=>nomatch z))];exact ec
end
section
variable {X:Cx}{pins:List (Addr×Obj)}{σ:St}{H:Hp}{s:Shared}{a:Addr}{kvs:List (Key×V)}{k:Key}{u:Value}{A:Around}{E:Value->Shared->Prop}
theorem d_len{Q:Value->Shared->Prop}(I:Inv X pins σ H s)(e:Rd H a (.dK kvs))(h:∀t s',Inv X pins σ H s'->Q (.int kvs.length t) s'):wpAny (model X.prog X.w) A (call (.builtin "len") [.ref a]) Q E s:=by
 obtain ⟨z,hd,vs,rel,dd⟩:=dk_rd I.hok e;refine call_len_dict hd dd (by rw [<- rel.length];rw [sizeLine_eq] at z;lia) ?_
 rw [<- rel.length];exact h _ _ (I.tok _)
end
theorem dict_typeIs{X:Cx}{pins:List (Addr×Obj)}{σ:St}{H:Hp}{s:Shared}{a:Addr}{y:V}{o:Option V}(I:Inv X pins σ H s)(g:DGet H a y o):s.TypeIs (.ref a) "dict":=by
 rcases g with ⟨kvs,k,e,_,_⟩|⟨kvs,k,b,e,_,_,_⟩
 ·obtain ⟨_,_,vs,_,dd⟩:=dk_rd I.hok e
  exact dd.typeIs
 ·obtain ⟨_,_,xs,_,dd⟩:=dt_rd I.hok e
  exact dd.typeIs
section
variable {X:Cx}{o i e value:Expr}{pos pos' tpos:Pos}{td ty tv:TE}
end
theorem dk_empty{P:Program}{w:World}{H:Hp}(h:Heap)(hb:sysModules<h.objs.size):ObjOk P w H (h.push { cls:=.type "dict",data:=.dict #[] }) h.objs.size (.dK []):=
 ⟨Nat.zero_le _,beq_eq_false_iff_ne.mpr (Ne.symm (Nat.ne_of_lt hb)),[],.nil,Heap.DictOf.new h⟩
noncomputable def tDNewK:TE:=fun _ H Q=>∀p,H p=none->Q (.ref p) (upd H p (.dK []))
section
variable {X:Cx}{pos:Pos}
theorem pe_dnewK:PE X (.Dict [] [] pos) tDNewK:=fun pins s σ H Q I h=>
 wpAny_Dict_empty ⟨.ref s.heap.objs.size,_,I.laid (a:=s.heap.objs.size) (o:=.dK []) (t':=s.toks) (fun _ _ q=>Heap.get?_push_of_some _ q) (Nat.le_refl _) (dk_empty s.heap I.big),rfl,h _ (I.hok.fresh (Nat.le_refl _))⟩
end
noncomputable def tPairs:List (TE×TE)->St->Hp->(List (V×V)->Hp->Prop)->Prop
 |[],_,H,Q=>Q [] H
 |(tk,tv)::r,σ,H,Q=>tk σ H fun x H1=>tv σ H1 fun y H2=>tPairs r σ H2 fun ps H3=>Q ((x,y)::ps) H3
noncomputable abbrev VV:List (V×V)->List (Value×Value)->Prop:=Paired fun p q=>RelV p.1 q.1/\RelV p.2 q.2
noncomputable def PPs(X:Cx)(pos:Pos)(keys:List (Option Expr))(values:List Expr)(trs:List (TE×TE)):Prop:=
 ∀(pins:List (Addr×Obj)) (s:Shared) (σ:St) (H:Hp) (Q:List (V×V)->Hp->Prop),Inv X pins σ H s->tPairs trs σ H Q->
  wpAny (model X.prog X.w) X.A (evalPairs (pairTrees keys values X.env pos)) (fun vs s'=>∃ps H',Inv X pins σ H' s'/\VV ps vs/\Q ps H') X.xe s
theorem pps_nil{X:Cx}{pos:Pos}:PPs X pos [] [] []:=fun pins s σ H Q I h=>pairTrees_nil_walk ⟨[],H,I,.nil,h⟩
theorem pps_cons{X:Cx}{pos:Pos}{k v:Expr}{ks:List (Option Expr)}{vs:List Expr}{tk tv:TE}{trs:List (TE×TE)}(hk:PE X k tk)(hv:PE X v tv)(hr:PPs X pos ks vs trs):
  PPs X pos (some k::ks) (v::vs) ((tk,tv)::trs):=fun pins s σ H Q I h=>
 pairTrees_cons_walk (thn (hk pins s σ H _ I h) fun u s1 ⟨x,H1,I1,rx,q1⟩=>thn (hv pins s1 σ H1 _ I1 q1) fun w2 s2 ⟨y,H2,I2,ry,q2⟩=>
  thn (hr pins s2 σ H2 _ I2 q2) fun ws s3 ⟨ps,H3,I3,rel,q3⟩=>⟨(x,y)::ps,H3,I3,.cons ⟨rx,ry⟩ rel,q3⟩)
noncomputable def mergeK(kvs more:List (Key×V)):List (Key×V):=more.foldl (fun acc kv=>putK acc kv.1 kv.2) kvs
theorem KV.merge:∀{more:List (Key×V)} {rs:List (Key×Value)} {kvs:List (Key×V)} {vs:List (Key×Value)},KV more rs->KV kvs vs->KV (mergeK kvs more) (merged vs rs):=by
 intro more rs kvs vs r;unfold KV at r
 induction r generalizing kvs vs with
 |nil=>intro q;exact q
 |@cons p q ps qs h t ih=>
  intro r0;have e:KV (putK kvs p.1 p.2) (stored vs q.1 q.2):=by
   have:=r0.put p.1 h.2;rw [<- h.1];exact this
  exact ih e
theorem length_mergeK:∀(more kvs:List (Key×V)),(mergeK kvs more).length<=kvs.length+more.length
 |[],kvs=>by show kvs.length<=kvs.length+0;lia
 |p::r,kvs=>by
  have h1:=length_mergeK r (putK kvs p.1 p.2);have h2:=length_putK kvs p.1 p.2;show (mergeK (putK kvs p.1 p.2) r).length<=_;rw [List.length_cons];lia
theorem carries_of{P:Program}{w:World}:∀{kvs:List (Key×V)} {ws:List (Value×Value)},VV (kvs.map fun kv=>(kV kv.1,kv.2)) ws->∃rs,Carries (mixKind P w) ws rs/\KV kvs rs
 |[],_,r=>by rw [List.map_nil] at r;cases r;exact ⟨[],True.intro,.nil⟩
 |p::kvs,_,r=>by
  rw [List.map_cons] at r;cases r with
  |@cons a b as bs h t=>
   obtain ⟨rs,c,q⟩:=carries_of (P:=P) (w:=w) t;obtain ⟨b1,b2⟩:=b;exact ⟨(p.1,b2)::rs,⟨kV_is h.1,rfl,c⟩,.cons ⟨rfl,h.2⟩ q⟩
noncomputable def tDisp(trs:List (TE×TE)):TE:=fun σ H Q=>∀p,H p=none->tPairs trs σ (upd H p (.dK [])) fun ps H2=>H2 p=some (.dK [])/\∃kvs:List (Key×V),ps=kvs.map (fun kv=>(kV kv.1,kv.2))/\kvs.length<=15/\Q (.ref p) (upd H2 p (.dK (mergeK [] kvs)))
theorem pe_disp{X:Cx}{pos:Pos}{keys:List (Option Expr)}{values:List Expr}{trs:List (TE×TE)}(h:PPs X pos keys values trs)(hall:keys.all (·.isSome)=true)(hl:keys.length=values.length)(h0:keys≠[])
  (h15:keys.length<=15):PE X (.Dict keys values pos) (tDisp trs):=by
 intro pins s σ H Q I q;have hn:=I.hok.fresh (Nat.le_refl s.heap.objs.size);have I1:=I.laid (a:=s.heap.objs.size) (o:=.dK []) (h':=s.heap.push { cls:=.type "dict",data:=.dict #[] }) (t':=s.toks) (fun _ _ q=>Heap.get?_push_of_some _ q) (Nat.le_refl _) (dk_empty s.heap I.big);refine wpAny_Dict_walk (knd:=mixKind X.prog X.w) hall hl h0 h15 (thn (h pins _ σ _ _ I1 (q _ hn)) fun ws s2 zz=>?_);obtain ⟨ps,H2,I2,rel,e,kvs,ep,lk,q2⟩:=zz;subst ep;obtain ⟨rs,c,rk⟩:=carries_of (P:=X.prog) (w:=X.w) rel;obtain ⟨z,hd,vs0,r0,dd⟩:=dk_of I2.hok e;cases r0;refine ⟨rs,c,dd,fun h' dd' hs=>⟨.ref s.heap.objs.size,_,?_,rfl,q2⟩⟩;have hz:(mergeK [] kvs).length<=sizeLine:=by
  have h1:=length_mergeK kvs [];rw [List.length_nil] at h1;rw [sizeLine_eq];lia
 have he:∃q,h'.get? s.heap.objs.size=some q:=let ⟨q,_,_,hq,_⟩:=dd';⟨q,hq⟩;exact d_write I2 (by rw [e];exact True.intro) hs he (dk_new hz hd (rk.merge .nil) dd')
section
variable {X:Cx}{pins:List (Addr×Obj)}{σ:St}{H:Hp}{s:Shared}{a:Addr}{y d:V}{u r:Value}{o:Option V}{A:Around}{E:Value->Shared->Prop}
end
section
variable {X:Cx}{o e f:Expr}{apos cpos:Pos}{td ty tx:TE}
end
section
variable {X:Cx}{pins:List (Addr×Obj)}{σ:St}{H:Hp}{s:Shared}{a:Addr}{kvs:List (Key×V)}{A:Around}{E:Value->Shared->Prop}
end
section
variable {X:Cx}{pins:List (Addr×Obj)}{σ:St}{H:Hp}{s:Shared}{a:Addr}{y:V}{u:Value}{A:Around}{E:Value->Shared->Prop}
end
end L2
namespace Att
open PySem PySem.W PySem.Calls PyProof.Rows
theorem ints_of_wellAll{P:Params}{h:Heap}:∀(ns:List Int) (vs:List Value),WellAll P h vs (ns.map WData.int)->IntsAre vs ns:=by
 intro ns
 induction ns with
 |nil=>
  intro vs w;rw [List.map_nil] at w;cases w;exact .nil
 |cons n ns ih=>
  intro vs w;rw [List.map_cons] at w;cases w with
  |cons a b=>
   cases a;exact .cons _ _ (ih _ b)
theorem script_of{l:OpenLaw}{n:Nat}(hn:l.most=some n){P:Params}{h:Heap}{args:List WData}{vals:List Value}
  (hpre:l.row.toRowW.claim.pre args=true) (hwl:WellAll P h vals args):
  ∃a vs ns,vals=[Value.ref a]/\args=[WData.list (ns.map WData.int)]/\h.get? a=some { cls:=.type "list",data:=.seq vs.toArray }/\IntsAre vs ns/\ns.length<=n:=by
 have hsh:WShape.hasAll [] args [.list .int]=true:=(pre_splitW hpre).1;have hc:l.pre.holds [] { args:=args }=true:=(pre_splitW hpre).2;obtain ⟨d,r,rfl,h1,h2⟩:=hasAllW_cons hsh;obtain rfl:=hasAllW_nil h2;obtain ⟨xs,rfl,h3⟩:=hasW_list h1;obtain ⟨ns,rfl⟩:=items_int h3;have hlen:ns.length<=n:=by
  unfold OpenLaw.pre at hc;have h4:(WTm.not (.lt (.lit (.int (n:Int))) (.len (.arg 0)))).holds [] { args:=[.list (ns.map .int)] }=true:=by
   have h4:=(holds_andW hc).1;rw [hn] at h4;exact h4
  have h5:=condW_of h4 (w_not (w_lt w_lit (w_len_list (w_arg rfl))));rw [List.length_map] at h5;refine Nat.le_of_not_lt fun q=>?_;have q':(n:Int)<((ns.length:Nat):Int):=by lia
  first
   |(rw [decide_eq_true q'] at h5;exact absurd h5 (by decide))
   |(simp at h5;lia)
 cases hwl with
 |cons w1 w2=>
  cases w2;cases w1 with
  |list ho hall=>exact ⟨_,_,ns,rfl,rfl,ho,ints_of_wellAll ns _ hall,hlen⟩
theorem post_true(l:OpenLaw)(args:List WData):l.row.toRowW.claim.post args (.bool true) args=true:=
 postW_of (r:=l.row.toRowW) (X:=(true==true))
  (show WShape.has [] (.bool true) .bool=true by first|rfl|decide|simp [WShape.has,WShape.arms,WShape.armsAll])
  (show (WTm.eq .res (.lit (.bool true))).value [] { args:=args,res:=some (.bool true),after:=args }=some (.bool (true==true)) from w_eq_bool (w_res rfl) w_lit) rfl
theorem attach_call{l:OpenLaw}{n:Nat}{q:Program}{loose:List Str}{XP:(Str->Option Value)->Heap->Prop}{YP:World->Heap->Prop}{d:DefRec}
  (hn:l.most=some n) (hdf:d.params.defaults=[])
  (call:∀(w:World) (s₀ s₁:Shared) (mg mb:Str->Option Value) (fa:Addr) (o:Obj) (pm cd doc:Value) (a:Addr) (vs:List Value) (ns:List Int),
   Ground q loose [] XP w s₀ mg mb s₁.heap->YP w s₁.heap->
   s₁.heap.get? fa=some o->o.data=.func (docDef d.name d.params d.body d.scope pm cd doc)->s₁.heap.CodeRec cd d.name->mg d.name=some (.ref fa)->
   s₁.heap.get? a=some { cls:=.type "list",data:=.seq vs.toArray }->IntsAre vs ns->ns.length<=n->s₁.gens=#[]->
   codeAny (model l.prog w) callerA (.call (.ref fa) ⟨[.ref a],[]⟩) (fun r s'=>r=.ok (.ret (.bool true))/\OldK s₁.heap s'.heap/\s'.os=s₁.os/\AllBare s'.gens) s₁):
  WalkO q loose XP YP l.row.toRowW d [] (fun f vs=>PySem.call f vs):=by
 intro w s₀ s₁ mg mb G Y fa o pm cd doc dV kV ho hd hcd hD hmg hg args vals as hpre hlay hrd hwl hlo;obtain rfl:dV=.none:=Dflts.none hD hdf;obtain rfl:kV=.none:=Dflts.noKw hD;obtain ⟨a,vs,ns,rfl,rfl,hobj,hints,hlen⟩:=script_of hn hpre hwl;refine enter_call (codeAny_mono (call w s₀ s₁ mg mb fa o pm cd doc a vs ns G Y ho (fd_plain hd) hcd hmg hobj hints hlen hg) fun r s' hq=>?_);obtain ⟨rfl,h2,h3,h4⟩:=hq;exact ⟨.inl ⟨.bool true,.bool true,[],rfl,fun _=>rfl,.bool true,post_true l _,fun _=>⟨List.Pairwise.nil,fun _ hm=>(nomatch hm)⟩⟩,h2,h3,h4⟩
section
variable {prog:Program}{w:World}{A:Around}{E:Value->Shared->Prop}{s:Shared}{K:Frag}
end
end Att
namespace L2
open PySem PySem.Spec PyProof.Rows
theorem vals_ints:∀{vs:List Value} {ns:List Int},IntsAre vs ns->Vals (ns.map V.int) vs
 |_,_,.nil=>.nil
 |_,_,.cons n t h=>.cons ⟨t,rfl⟩ (vals_ints h)
noncomputable def Only(H:Hp):Prop:=∀b,H b=none\/∃o xs,H b=some (.frz o (.lst xs))
theorem law_call{P:Program}{w:World}{K:PySem.W.Frag}{mg mb:Str->Option Value}{CX:CXT}{k:Nat}{fa a:Addr}{fd:FuncData}{x:Str}{sp:Sp}{s₁:Shared}{vs:List Value}{ns:List Int}
  (KX:K.In s₁.heap) (hns:s₁.heap.Ns mainGlobals mg) (hb:s₁.heap.Ns builtinsNs mb) (hbb:∀x:Str,x≠"__name__"->mb x=bootBuiltins x) (hlim:s₁.heap.NoLimit) (hg:s₁.gens=#[])
  (ha:s₁.heap.get? a=some { cls:=.type "list",data:=.seq vs.toArray }) (hi:IntsAre vs ns) (hl:ns.length<=sizeLine) (hr:Room k callerA)
  (F:∀base:Heap,K.In base->base.Ns mainGlobals mg->FnOk P w K mg base CX k fa fd [x] sp) (hbind:∀(s:Shared) (u:Value),BindsTo s fd ⟨[u],[]⟩ [(x,u)])
  (hsp:∀H:Hp,Only H->SqL K H a (ns.map V.int)->sp [.ref a] H (fun v _=>v=.bl true) fun _ _ _=>False)
  (hCX:∀H e s',CX [] H s₁ (fun _ _ _=>False) e s'->False):
  codeAny (model P w) callerA (.call (.ref fa) ⟨[.ref a],[]⟩) (fun r s'=>r=.ok (.ret (.bool true))/\OldK s₁.heap s'.heap/\s'.os=s₁.os/\AllBare s'.gens) s₁:=by
 have rv:=vals_ints hi;have lenV:=hi.length
 -- from an abstract heap in which nothing but the script may be tracked
 have core:∀H:Hp,Only H->SqL K H a (ns.map V.int)->HOk P w H s₁.heap->(∀b,H b≠none->b=a)->(H a≠none->K.lookup a=none)->
   codeAny (model P w) callerA (.call (.ref fa) ⟨[.ref a],[]⟩) (fun r s'=>r=.ok (.ret (.bool true))/\OldK s₁.heap s'.heap/\s'.os=s₁.os/\AllBare s'.gens) s₁:=by
  intro H hO hS hok hA hK;have base_of:∀{b:Addr} {o:Obj},s₁.heap.get? b=some o->H b=none->(hidT s₁.heap H).get? b=some o:=fun e n=>hidT_get e n;have noA:∀{b:Addr} {o:Obj} {es:Array DictEntry} {ep:Nat},s₁.heap.get? b=some o->o.data=.dict es ep->H b=none:=fun {b o es ep} e d=>by
   cases q:H b with
   |none=>rfl
   |some u=>
    have e':b=a:=hA b (by rw [q];simp)
    subst e';rw [ha] at e;cases e;have d':Data.seq vs.toArray _=Data.dict es ep:=d;cases d'
  have nsK:∀{b:Addr} {m:Str->Option Value},s₁.heap.Ns b m->(hidT s₁.heap H).Ns b m:=fun {b m} ⟨o,es,ep,e,d,r⟩=>⟨o,es,ep,base_of e (noA e d),d,r⟩;have hKb:K.In (hidT s₁.heap H):=fun b o e=>base_of (KX b o e) (by
   cases q:H b with
   |none=>rfl
   |some u=>
    have e':b=a:=hA b (by rw [q];simp)
    subst e';rw [hK (by rw [q];simp)] at e;cases e)
  have hM:Mod K mg (hidT s₁.heap H):=⟨hKb,nsK hns,⟨mb,nsK hb,hbb⟩,let ⟨mc,h1,h2⟩:=hlim;⟨mc,nsK h1,h2⟩⟩;have e0:Env0 P w K mg (hidT s₁.heap H) callerA [] s₁ H:=⟨rfl,hM,fun b o e=>of_hidT e,Nat.le_of_eq (hidT_size _ _),trivial,fun b hb=>absurd (show b∈([]:List Addr) from hb) (by simp),hok,.of_eq hg⟩
  refine codeAny_mono ((F _ hKb (nsK hns)).run callerA [] s₁ H ⟨[.ref a],[]⟩ [.ref a] [.ref a] _ _ hr e0 (hbind s₁ (.ref a)) (.cons rfl .nil) (hsp H hO hS)) fun r s' h=>?_;cases r with
  |error e=>exact (hCX H e s' h).elim
  |ok fl=>
   cases fl with
   |next=>exact False.elim h
   |brk=>exact False.elim h
   |cont=>exact False.elim h
   |ret u=>
    obtain ⟨v,H',os,bare,un,hok',r',q⟩:=h;have q':v=.bl true:=q;subst q';obtain rfl:u=Value.bool true:=r';refine ⟨rfl,OldK.of_keep fun b o e=>?_,os,bare⟩;cases q:H b with
    |none=>exact un.keep b o e q (by intro z;exact absurd (show b∈([]:List Addr) from z) (by simp)) (by simp)
    |some u=>
     rcases hO b with z|⟨ob,xs,z⟩
     ·rw [q] at z;cases z
     ·have z2:=un.frzs b ob _ z
      obtain ⟨e1,_⟩:=hok b _ z;obtain ⟨e2,_⟩:=hok' b _ z2;rw [e] at e1;cases e1;exact e2
 cases hk:K.lookup a with
 |some o=>
  -- the script is one of the module's own objects
  have e:=KX a o hk;rw [ha] at e;cases e;refine core (fun _=>none) (fun _=>.inl rfl) (.inr ⟨_,vs.toArray,_,hk,rfl,rfl,rfl,by rw [List.size_toArray,lenV];exact hl,by simpa using rv⟩) (fun b u z=>by have z':(none:Option HO)=some u:=z;cases z') (fun b z=>absurd rfl z) fun z=>absurd rfl z
 |none=>
  refine core (fun b=>if b=a then some (.frz { cls:=.type "list",data:=.seq vs.toArray } (.lst (ns.map V.int))) else none) (fun b=>?_) (.inl (.inr ⟨{ cls:=.type "list",data:=.seq vs.toArray },if_pos rfl⟩)) (fun b u z=>?_) (fun b z=>?_) fun _=>hk
  ·by_cases hb:b=a
   ·exact .inr ⟨_,_,if_pos hb⟩
   ·exact .inl (if_neg hb)
  ·by_cases hb:b=a
   ·have z':=(if_pos hb).symm.trans z
    cases z';subst hb;exact ⟨ha,by rw [List.length_map];exact hl,vs,_,rv,ha⟩
   ·have z':=(if_neg hb).symm.trans z
    cases z'
  ·by_cases hb:b=a
   ·exact hb
   ·exact absurd (if_neg hb) z
end L2
namespace L2
open PySem PySem.Spec PyProof.Rows
theorem walk_of{l:PySem.W.OpenLaw}{n k:Nat}{q:Program}{loose:List Str}{XP:(Str->Option Value)->Heap->Prop}{YP:World->Heap->Prop}{d:DefRec}{K:Params->PySem.W.Frag}{CX:World->CXT}{sp:World->Sp}{x:Str}
  (hn:l.most=some n) (hn2:n<=sizeLine) (hdf:d.params.defaults=[]) (hr:Room k callerA)
  (hY:∀(w:World) (h:Heap),YP w h->(K w.params).In h)
  (F:∀(w:World) (mg:Str->Option Value) (fa:Addr) (h:Heap),(K w.params).In h->h.Ns mainGlobals mg->mg d.name=some (.ref fa)->
   ∃fd:FuncData,(∀(s:Shared) (u:Value),BindsTo s fd ⟨[u],[]⟩ [(x,u)])/\
    ∀base:Heap,(K w.params).In base->base.Ns mainGlobals mg->FnOk l.prog w (K w.params) mg base (CX w) k fa fd [x] (sp w))
  (hsp:∀(w:World) (H:Hp) (a:Addr) (ns:List Int),ns.length<=n->Only H->SqL (K w.params) H a (ns.map V.int)->sp w [.ref a] H (fun v _=>v=.bl true) fun _ _ _=>False)
  (hCX:∀(w:World) (H:Hp) (s:Shared) (e:Value) (s':Shared),CX w [] H s (fun _ _ _=>False) e s'->False):
  PySem.W.WalkO q loose XP YP l.row.toRowW d [] (fun f vs=>PySem.call f vs):=by
 refine Att.attach_call hn hdf fun w s₀ s₁ mg mb fa o pm cd doc a vs ns G Y ho hd hcd hmg hobj hints hlen hg=>?_;have KX:=hY w _ Y;obtain ⟨fd,hb,hF⟩:=F w mg fa _ KX G.T.g hmg;exact law_call KX G.T.g G.T.b G.T.builtins G.T.nolimit hg hobj hints (Nat.le_trans hlen hn2) hr hF hb (fun H hO hS=>hsp w H a ns hlen hO hS) fun H e s'=>hCX w H s₁ e s'
end L2
namespace L2
open PySem PySem.Spec PyProof.Rows
noncomputable def inClass(s:Stmt)(j:Nat):Stmt:=match s with
 |.ClassDef _ _ _ body _ _ _ _ _ _ _=>body.getD j (.Pass ⟨0,0,0,0⟩)
 |_=>.Pass ⟨0,0,0,0⟩
noncomputable def defArgs(s:Stmt):Arguments:=match s with
 |.FunctionDef _ a _ _ _ _ _ _ _ _=>a
 |_=>{ posonlyargs:=[],args:=[],vararg:=none,kwonlyargs:=[],kw_defaults:=[],kwarg:=none,defaults:=[] }
noncomputable def defBody(s:Stmt):List Stmt:=match s with
 |.FunctionDef _ _ b _ _ _ _ _ _ _=>b
 |_=>[]
noncomputable def defScope(s:Stmt):Scope:=match s with
 |.FunctionDef _ _ _ _ _ _ sc _ _ _=>sc
 |_=>{ kind:=.function,names:=[],isGenerator:=false,isCoroutine:=false }
noncomputable abbrev CX0:CXT:=fun _ _ _ _ _ _=>False
noncomputable abbrev E0:XK:=fun _ _ _=>False
structure Fun(K:PySem.W.Frag)(x qual:Str)(st:Stmt)(f:Addr)(fd:FuncData):Prop where
 ex:∃(oc:Value) (od:Option Addr) (kV doc pm:Value) (an:Option Addr) (cdv ct:Value) (osl:Array (Option Value)),
  fd=PySem.W.fnOf x qual (defArgs st) (defBody st) (defScope st) .none kV doc pm an cdv ct/\K.lookup f=some ⟨oc,od,.func fd,osl⟩/\PySem.W.codeIn K cdv qual=true
 kp:PySem.W.keepIn K (.ref f)=true
section
variable {P:Program}{w:World}{K:PySem.W.Frag}{mg:Str->Option Value}{base:Heap}
theorem Fun.binds{x qual:Str}{st:Stmt}{f:Addr}{fd:FuncData}{ps:List Str}(F:Fun K x qual st f fd)
  (h:∀(kV doc pm:Value) (an:Option Addr) (cdv ct:Value) (us:List Value),us.length=ps.length->bindArgs (PySem.W.fnOf x qual (defArgs st) (defBody st) (defScope st) .none kV doc pm an cdv ct) ⟨us,[]⟩=pure (ps.zip us)):Binds K fd ps []:=by
 obtain ⟨oc,od,kV,doc,pm,an,cdv,ct,osl,rfl,lk,hcd⟩:=F.ex;exact .all (h kV doc pm an cdv ct)
theorem fun_mk{x qual:Str}{st:Stmt}{f:Addr}{oc:Value}{od an:Option Addr}{osl:Array (Option Value)}{kV doc pm cdv ct:Value}(l:K.lookup f=some ⟨oc,od,.func (PySem.W.fnOf x qual (defArgs st) (defBody st) (defScope st) .none kV doc pm an cdv ct),osl⟩)
  (c:PySem.W.codeIn K cdv qual=true) (k:PySem.W.keepIn K (.ref f)=true):Fun K x qual st f (PySem.W.fnOf x qual (defArgs st) (defBody st) (defScope st) .none kV doc pm an cdv ct):=⟨⟨oc,od,kV,doc,pm,an,cdv,ct,osl,rfl,l,c⟩,k⟩
end
theorem hu_of{A:Around}{k:Nat}(hr:Room k A):A.units+1<cLine:=Nat.lt_of_le_of_lt (Nat.add_le_add_left (by decide:1<=64) _) hr.units
section
variable {X:Cx}
theorem call_lenD:CallR X (.builtin "len") (fun xs H Q=>∃a kvs,xs=[V.ref a]/\H a=some (.dK kvs)/\Q (.int kvs.length) H):=by
 intro pins s σ H xs us Q I r h;obtain ⟨a,kvs,rfl,ha,q⟩:=h;obtain ⟨u,rfl,ru⟩:=vals1 r;cases ru;exact d_len I (.inl ha) fun t s' I'=>⟨.int kvs.length,H,I',⟨t,rfl⟩,q⟩
end
section
variable {κ:Type}[DecidableEq κ]
end
end L2
namespace L2
open PySem PySem.Spec PyProof.Rows
section
variable {prog:Program}{w:World}{A:Around}{R:Result->Shared->Prop}{s:Shared}
theorem compLoop_any{elt target iter:Expr}{ifs:List Expr}{scope:Scope}{pos:Pos}{it acc:Value}{env:Env}(I:Nat->Shared->Prop)
  (turn:∀n s,I n s->wpAny (model prog w) A (pyNext it) (fun r s₁=>match r with
   |none=>R (.ok .next) s₁
   |some v=>wpAny (model prog w) A (letOwnedTupleGo target it v) (fun _ s₂=>wpAny (model prog w) A (assign target env v) (fun _ s₃=>
     wpAny (model prog w) A (forIn ifs true fun c r=>if r=true then do let ok <- isTrue c env (eval c env);pure (ForInStep.yield ok) else pure (ForInStep.yield r)) (fun ok s₄=>
      if ok=true then wpAny (model prog w) A (eval elt env) (fun x s₅=>
       wpAny (model prog w) A (call (.builtin "list.append") [acc,x]) (fun _ s₆=>∃m,m<n/\I m s₆) (fun _ _=>False) s₅) (fun _ _=>False) s₄
      else ∃m,m<n/\I m s₄) (fun _ _=>False) s₃) (fun _ _=>False) s₂) (fun _ _=>False) s₁) (fun _ _=>False) s)
  (n:Nat) (h:I n s):
  codeAny (model prog w) A (.compLoop (.ListComp elt [⟨target,iter,ifs,0⟩] scope pos) 0 it acc env) R s:=by
 refine codeAny_loop rfl I (fun n s hI=>?_) n h;show wpAny _ A ((compTurn (.ListComp elt [⟨target,iter,ifs,0⟩] scope pos) 0 it acc env).onRaise (fun x=>do noteFrame x env;theTreesLotGoes x)) _ _ s
 refine wpAny_noted ?_;rw [compTurn_list];refine wpAny_bind (wpAny_standAt (wpAny_bind (wpAny_mono (turn n s hI) (fun r s₁ h₁=>?_) fun _ _ z=>z.elim)));cases r with
 |none=>exact wpAny_pure h₁
 |some v=>
  refine wpAny_bind (wpAny_mono h₁ (fun _ s₂ h₂=>wpAny_bind (wpAny_mono h₂ (fun _ s₃ h₃=>wpAny_bind (wpAny_mono h₃ (fun ok s₄ h₄=>?_) fun _ _ z=>z.elim)) fun _ _ z=>z.elim)) fun _ _ z=>z.elim);cases ok with
  |false=>exact wpAny_pure ⟨rfl,h₄⟩
  |true=>
   exact wpAny_bind (wpAny_bind (wpAny_mono h₄ (fun x s₅ h₅=>wpAny_bind (wpAny_mono h₅ (fun _ s₆ h₆=>wpAny_pure (wpAny_pure ⟨rfl,h₆⟩)) fun _ _ z=>z.elim)) fun _ _ z=>z.elim))
end
noncomputable def cxComp(X:Cx)(N:List Str)(scope:Scope)(cl:List (Str×Addr))(C:Addr)(s₀:Shared)(H₀:Hp)(fp:List Addr)(pl:List (Addr×Obj)):Cx where
 prog:=X.prog
 w:=X.w
 K:=X.K
 mg:=X.mg
 base:=X.base
 A:=X.A
 N:=N
 s₀:=s₀
 H₀:=H₀
 env:=compEnvC scope cl C X.env
 outer:=X.stack
 stack:=X.stack
 ex:=fp
 fn:=fun _=>false
 calm:=X.calm
 pn:=X.pn++pl
 xe:=fun _ _=>False
inductive Frees(X:Cx)(scope:Scope):List Str->List Nat->Prop where
 |nil:Frees X scope [] []
 |cons {x:Str} {j:Nat} {xs:List Str} {js:List Nat}:X.N[j]?=some x->(X.env.kindOf x=some .cell\/X.env.kindOf x=some .free)->
   ((relabel scope X.env).names.lookup x=some .cell\/(relabel scope X.env).names.lookup x=some .free)->Frees X scope xs js->Frees X scope (x::xs) (j::js)
theorem Frees.length{X:Cx}{scope:Scope}:∀{xs:List Str} {js:List Nat},Frees X scope xs js->xs.length=js.length
 |_,_,.nil=>rfl
 |_,_,.cons _ _ _ t=>congrArg (·+1) t.length
theorem Frees.get{X:Cx}{scope:Scope}:∀{xs:List Str} {js:List Nat},Frees X scope xs js->∀{i:Nat} {x:Str},xs[i]?=some x->∃j,js[i]?=some j/\X.N[j]?=some x/\(X.env.kindOf x=some .cell\/X.env.kindOf x=some .free)/\
   ((relabel scope X.env).names.lookup x=some .cell\/(relabel scope X.env).names.lookup x=some .free)
 |_,_,.nil,i,x,h=>by simp at h
 |_,_,.cons a b c _,0,x,h=>by simp at h;subst h;exact ⟨_,rfl,a,b,c⟩
 |_,_,.cons _ _ _ t,i+1,x,h=>by
  obtain ⟨j,h1,h2⟩:=t.get (i:=i) (x:=x) (by simpa using h)
  exact ⟨j,by simpa using h1,h2⟩
noncomputable def start0(ls:List Str)(js:List Nat)(σ:St):St:=ls.map (fun _=>none)++js.map fun j=>(σ[j]?).join
structure CompOk(X:Cx)(scope:Scope)(cl:List (Str×Addr))(ls fs:List Str)(js:List Nat):Prop where
 kind:scope.kind=.function
 nocell:∀y∈scope.names,y.2≠.cell
 locs:∀x∈scope.names,x.2=.local->scope.names.lookup x.1=some .local
 clos:closureFor scope X.env=pure cl
 cells:∀x c,cl.lookup x=some c->X.env.cells.lookup x=some c
 has:∀x,((relabel scope X.env).names.lookup x=some .cell\/(relabel scope X.env).names.lookup x=some .free)->∃c,cl.lookup x=some c
 frees:Frees X scope fs js
theorem inv_comp{X:Cx}{pins:List (Addr×Obj)}{σ:St}{H:Hp}{s:Shared}{scope:Scope}{cl:List (Str×Addr)}{ls fs:List Str}{js:List Nat}{fp:List Addr}{h₁:Heap}{m:Str->Option Value}{t':Nat}
  (I:Inv X pins σ H s) (co:CompOk X scope cl ls fs js) (hfp:∀b∈fp,FpOk X pins H b/\b<s.heap.objs.size) (hns:h₁.Ns s.heap.objs.size m) (hk:∀b o,s.heap.get? b=some o->h₁.get? b=some o):
  Inv (cxComp X (ls++fs) scope cl s.heap.objs.size s H fp pins) [] (start0 ls js σ) H { s with heap:=h₁,toks:=t' }:=by
 have lk:∀b o,s.heap.get? b=some o->b≠s.heap.objs.size:=fun b o e=>Nat.ne_of_lt (Heap.lt_size e);refine ⟨⟨I.ok.mod,co.kind,I.ok.glob,I.ok.blt,Nat.le_refl _,fun x y c h1 h2=>?_,fun x hx=>co.has x hx,fun x c h _=>absurd (show false=true from h) Bool.false_ne_true,I.ok.hd,I.ok.frames,.inl rfl,fun b hb=>⟨Nat.ne_of_lt (hfp b hb).2,fun x c e=>?_⟩,
   fun b o e=>I.bs b o e,Nat.le_trans I.ok.bsz I.sz,fun b o e hb=>?_,fun b hb hf=>?_,I.stack,fun b hb=>I.stkFree b hb⟩,
  rfl,I.bare,Un.kept hk,⟨m,hns,fun i x v h1 h2 h3=>?_⟩,fun x c e=>?_,I.hok.fresh (Nat.le_refl _),fun x c e=>I.freeC x c (co.cells x c e),fun p hp=>?_,I.hok.kept hk,?_⟩
 ·exact I.ok.inj x y c (co.cells x c h1) (co.cells y c h2)
 ·exact (hfp b hb).1.2.2.2.2.1 x c (co.cells x c e)
 ·obtain ⟨f0,f1,f2,f3,_⟩:=(hfp b hb).1
  rcases f3 with z|z
  ·exact I.ok.noex b o e z
  ·exact absurd (Nat.lt_of_lt_of_le (Heap.lt_size (I.ok.bs b o e).1) z) (Nat.lt_irrefl _)
 ·obtain ⟨f0,f1,f2,f3,_⟩:=(hfp b hb).1
  rcases List.mem_cons.mp (I.stkSub b hf) with z|z
  ·exact f1 z
  ·exact f2 z
 ·have hi:¬i<ls.length:=fun hi=>by
   have h2':(start0 ls js σ)[i]?=some (some v):=h2;unfold start0 at h2';rw [List.getElem?_append_left (by simpa using hi),List.getElem?_map,List.getElem?_eq_getElem hi] at h2'
   cases h2'
  have hN:fs[i-ls.length]?=some x:=by
   have h1':(ls++fs)[i]?=some x:=h1
   rwa [List.getElem?_append_right (by lia)] at h1'
  obtain ⟨j,hj,hx,hc,hl⟩:=co.frees.get hN;have hσ:σ[j]?=some (some v):=by
   have h2':(start0 ls js σ)[i]?=some (some v):=h2;unfold start0 at h2';rw [List.getElem?_append_right (by simpa using hi),List.length_map,List.getElem?_map,hj] at h2'
   have q:(σ[j]?).join=some v:=by simpa using h2'
   cases e:σ[j]? with
   |none=>rw [e] at q;cases q
   |some o=>rw [e] at q;have q':o=some v:=q;rw [q']
  obtain ⟨mX,_,hlX⟩:=I.loc;have vis:Vis X.env.scope x:=by
   rcases hc with z|z
   ·exact .inr (.inl z)
   ·exact .inr (.inr z)
  obtain ⟨u,ru,lo⟩:=hlX j x v hx hσ vis;refine ⟨u,ru,.inr ⟨hl,?_⟩⟩;obtain ⟨c,ec⟩:=co.has x hl;refine ⟨c,ec,?_⟩;rcases lo with ⟨kl,_⟩|⟨_,c',e',z⟩
  ·rcases hc with q|q<;>(rw [q] at kl;cases kl)
  ·rw [co.cells x c ec] at e'
   cases e';obtain ⟨o,ho,hd⟩:=z;exact ⟨o,hk _ _ ho,hd⟩
 ·obtain ⟨v,o,ho,hd⟩:=I.cell x c (co.cells x c e)
  exact ⟨v,o,hk _ _ ho,hd⟩
 ·have hp':p∈X.pn++pins:=by
   have q:p∈(X.pn++pins)++[]:=hp;simpa using q
  obtain ⟨e,n,ne,nf,d⟩:=I.pin p hp';refine ⟨hk _ _ e,n,lk _ _ e,fun hb=>?_,d⟩;rcases List.mem_cons.mp (I.stkSub p.1 hb) with z|z
  ·exact ne z
  ·exact nf z
 ·show (start0 ls js σ).length=(ls++fs).length
  unfold start0;rw [List.length_append,List.length_map,List.length_map,List.length_append,co.frees.length]
noncomputable def PTs(X:Cx)(ifs:List Expr)(t:TT):Prop:=
 ∀(pins:List (Addr×Obj)) (s:Shared) (σ:St) (H:Hp) (Q:Bool->Hp->Prop),Inv X pins σ H s->t σ H Q->
  wpAny (model X.prog X.w) X.A (forIn ifs true fun c r=>if r=true then do let ok <- isTrue c X.env (eval c X.env);pure (ForInStep.yield ok) else pure (ForInStep.yield r)) (TP X pins σ Q) X.xe s
noncomputable def tAll:TT:=fun _ H Q=>Q true H
theorem pts_nil{X:Cx}:PTs X [] tAll:=fun _ _ _ H _ I h=>wpAny_tests_nil ⟨H,I,h⟩
noncomputable def tComp(wi:TI)(ls:List Str)(js:List Nat)(g:TG)(tt:TT)(te:TE):TE:=fun σ H Q=>wi σ H fun J H1=>∀p,H1 p=none->∃W:Nat->Nat->St->Hp->Prop,(∃m,W 0 m (start0 ls js σ) (upd H1 p (.lst [])))/\∀i m σ' H',W i m σ' H'->
 (J.stop i H'/\Q (.ref p) H')\/(J.go i H'/\∃N:St->Hp->Prop,(∀σ2 H2,N σ2 H2->∃m',m'<m/\W (i+1) m' σ2 H2)/\∀x H2,J.yld i H' x H2->g x σ' H2 fun σ3 H3=>tt σ3 H3 fun c H4=>
  if c=true then te σ3 H4 fun y H5=>∃ys,H5 p=some (.lst ys)/\ys.length<sizeLine/\N σ3 (upd H5 p (.lst (ys++[y]))) else N σ3 H4)
section
variable {X:Cx}{tg iter elt:Expr}{ifs:List Expr}{scope:Scope}{cl:List (Str×Addr)}{pos:Pos}{ls fs:List Str}{js:List Nat}{wi:TI}{g:TG}{tt:TT}{te:TE}
theorem comp_run{pins:List (Addr×Obj)}{σ:St}{s2:Shared}{it:Addr}{fp:List Addr}{tn:Nat->Heap->Prop}{J:It}{H1:Hp}{R:Value->Addr->Result->Shared->Prop}{Q:VK}{E:Value->Shared->Prop}(hc:X.calm=true)(co:CompOk X scope cl ls fs js)
  (hY:∀(C:Addr) (s₀:Shared) (H₀:Hp) (fp:List Addr) (pl:List (Addr×Obj)),PG (cxComp X (ls++fs) scope cl C s₀ H₀ fp pl) tg g/\PTs (cxComp X (ls++fs) scope cl C s₀ H₀ fp pl) ifs tt/\PE (cxComp X (ls++fs) scope cl C s₀ H₀ fp pl) elt te)
  (I:Inv X pins σ H1 s2) (T:Turn X.prog X.w X.K tg J fp it tn) (st:tn 0 s2.heap) (hf:∀b∈fp,FpOk X pins H1 b)
  (q:∀p,H1 p=none->∃W:Nat->Nat->St->Hp->Prop,(∃m,W 0 m (start0 ls js σ) (upd H1 p (.lst [])))/\∀i m σ' H',W i m σ' H'->
   (J.stop i H'/\Q (.ref p) H')\/(J.go i H'/\∃N:St->Hp->Prop,(∀σ2 H2,N σ2 H2->∃m',m'<m/\W (i+1) m' σ2 H2)/\∀x H2,J.yld i H' x H2->g x σ' H2 fun σ3 H3=>tt σ3 H3 fun c H4=>
    if c=true then te σ3 H4 fun y H5=>∃ys,H5 p=some (.lst ys)/\ys.length<sizeLine/\N σ3 (upd H5 p (.lst (ys++[y]))) else N σ3 H4))
  (hR:∀(p C:Addr) (H':Hp) (s':Shared) (m:Str->Option Value),s'.heap.Ns C m->Inv X pins σ H' s'->H' C=none->C≠X.env.locals->X.s₀.heap.objs.size<=C->(∀x c,X.env.cells.lookup x=some c->c≠C)->(∀pp∈X.pn++pins,pp.1≠C)->Q (.ref p) H'->R (.ref p) C (.ok .next) s'):
  wpAny (model X.prog X.w) X.A (newList []) (fun acc s₃=>wpAny (model X.prog X.w) X.A (newFunctionEnv scope X.env.globals cl [] X.env.qual none .none (some X.env)) (fun cenv s₄=>
   codeAny (model X.prog X.w) X.A (.compStart (.ListComp elt [⟨tg,iter,ifs,0⟩] scope pos) 0 (.ref it) acc { cenv with scope:=relabel scope X.env }) (R acc cenv.locals) s₄) E s₃) E s2:=by
 have hp0:H1 s2.heap.objs.size=none:=I.hok.fresh (Nat.le_refl _);obtain ⟨W,⟨m0,w0⟩,turn⟩:=q s2.heap.objs.size hp0;refine wpAny_newObj_type (wpAny_newFunctionEnv co.nocell (by intro y hy;simp at hy) (fun h₁ hns₁ hsb₁=>?_) co.kind)
 dsimp only at hns₁ hsb₁ ⊢;have I3:Inv X pins σ (upd H1 s2.heap.objs.size (.lst [])) { s2 with heap:=s2.heap.push { cls:=.type "list",dict:=none,data:=.seq ([]:List Value).toArray } }:=
  I.lnew (its:=[]) (t':=s2.toks) .nil (Nat.zero_le _)
 generalize hs3:({ s2 with heap:=s2.heap.push { cls:=.type "list",dict:=none,data:=.seq ([]:List Value).toArray } }:Shared)=s3 at I3;have hh3:s2.heap.push { cls:=.type "list",dict:=none,data:=.seq ([]:List Value).toArray }=s3.heap:=by rw [<- hs3]
 rw [hh3] at hns₁ hsb₁ ⊢;have hsz3:s3.heap.objs.size=s2.heap.objs.size+1:=by rw [<- hh3,Heap.size_push]
 have hk3:∀b o,s2.heap.get? b=some o->s3.heap.get? b=some o:=fun b o e=>by rw [<- hh3];exact Heap.get?_push_of_some _ e
 have hlt:∀b∈fp,b<s2.heap.objs.size:=fun b hb=>by
  obtain ⟨o,e,_⟩:=T.obj _ _ st b hb;exact Heap.lt_size e
 have hnp:∀b∈fp,upd H1 s2.heap.objs.size (.lst []) b=none:=fun b hb=>by
  rw [upd_ne (Nat.ne_of_lt (hlt b hb))];exact (hf b hb).1
 have hf3:∀b∈fp,FpOk X pins (upd H1 s2.heap.objs.size (.lst [])) b/\b<s3.heap.objs.size:=fun b hb=>⟨⟨hnp b hb,(hf b hb).2⟩,by rw [hsz3];exact Nat.lt_succ_of_lt (hlt b hb)⟩
 have hk4:∀b o,s3.heap.get? b=some o->h₁.get? b=some o:=fun b o e=>hsb₁.extBut b o (Nat.ne_of_lt (Heap.lt_size e)) (Heap.get?_push_of_some _ e);have st4:tn 0 h₁:=T.keep _ _ _ st fun b hb o e=>hk4 b o (hk3 b o e);have I4:=inv_comp (t':=s3.toks) I3 co hf3 hns₁ hk4;obtain ⟨hg,ht,he⟩:=hY s3.heap.objs.size s3 (upd H1 s2.heap.objs.size (.lst [])) fp pins;have stat:∀{H':Hp},(∀b∈fp,H' b=none)->∀b∈fp,FpOk (cxComp X (ls++fs) scope cl s3.heap.objs.size s3 (upd H1 s2.heap.objs.size (.lst [])) fp pins) [] H' b:=fun {H'} hn b hb=>by
  obtain ⟨f0,f1,f2,f3,f4,f5⟩:=hf b hb;refine ⟨hn b hb,Nat.ne_of_lt (hf3 b hb).2,fun z=>?_,.inl hb,fun x c e=>f4 x c (co.cells x c e),fun pp hp=>f5 pp ?_⟩
  ·rcases List.mem_cons.mp (I3.stkSub b z) with y|y
   ·exact f1 y
   ·exact f2 y
  ·have q:pp∈(X.pn++pins)++[]:=hp
   simpa using q
 have loop:∀s₄:Shared,s₄={ s3 with heap:=h₁,toks:=s3.toks }->
   codeAny (model X.prog X.w) X.A (.compLoop (.ListComp elt [⟨tg,iter,ifs,0⟩] scope pos) 0 (.ref it) (.ref s2.heap.objs.size) (compEnvC scope cl s3.heap.objs.size X.env)) (R (.ref s2.heap.objs.size) s3.heap.objs.size) s₄:=by
  rintro s₄ rfl
  refine compLoop_any (fun n s'=>∃i σ' H',Inv (cxComp X (ls++fs) scope cl s3.heap.objs.size s3 (upd H1 s2.heap.objs.size (.lst [])) fp pins) [] σ' H' s'/\tn i s'.heap/\(∀b∈fp,H' b=none)/\W i n σ' H') ?_ m0 ⟨0,_,_,I4,st4,hnp,w0⟩
  rintro n s5 ⟨i,σ5,H5,I5,st5,fr5,w5⟩
  rcases turn i n σ5 H5 w5 with ⟨stop,qn⟩|⟨go,N,hN,step⟩
  ·refine thn (T.done (cxComp X (ls++fs) scope cl s3.heap.objs.size s3 (upd H1 s2.heap.objs.size (.lst [])) fp pins) rfl rfl rfl hc i [] s5 σ5 H5 _ I5 (stat fr5) st5 stop) fun r s6 ⟨hr,I6⟩=>?_
   subst hr;obtain ⟨m6,hn6,_⟩:=I6.loc;have IX:Inv X pins σ H5 s6:=I3.call' I6.os I6.base I6.hok I6.bare fun b hb=>⟨(hf b hb).2.2.2.1,(hf b hb).2.1,(hf b hb).2.2.2.2.1,(hf b hb).2.2.2.2.2⟩;refine hR _ _ H5 s6 m6 hn6 IX I6.free (Nat.ne_of_gt I3.lt) I3.sz (fun x c e z=>?_) (fun pp hp z=>?_) qn
   ·obtain ⟨v,zz⟩:=I3.cell x c e
    have zl:=zz.lt;rw [z] at zl;exact Nat.lt_irrefl _ zl
   ·have zl:=Heap.lt_size (I3.pin pp hp).1
    rw [z] at zl;exact Nat.lt_irrefl _ zl
  ·refine thn (T.item (cxComp X (ls++fs) scope cl s3.heap.objs.size s3 (upd H1 s2.heap.objs.size (.lst [])) fp pins) rfl rfl rfl hc i [] s5 σ5 H5 _ I5 (stat fr5) st5 go) fun r s6 ⟨u,hr,h6⟩=>?_
   subst hr;refine thn h6 fun _ s7 ⟨x,H7,I7,r7,y7,st7,fr7⟩=>?_;have I7':=I7.pinned (stat fr7) (T.obj _ _ st7);refine thn (hg _ s7 σ5 H7 x u _ I7' r7 (step x H7 y7)) fun _ s8 ⟨σ8,H8,I8,q8⟩=>?_
   have again:∀{σ9:St} {H9:Hp} {s9:Shared},Inv (cxComp X (ls++fs) scope cl s3.heap.objs.size s3 (upd H1 s2.heap.objs.size (.lst [])) fp pins) ([]++pinsAt fp s7.heap) σ9 H9 s9->N σ9 H9->
     ∃m,m<n/\∃i σ' H',Inv (cxComp X (ls++fs) scope cl s3.heap.objs.size s3 (upd H1 s2.heap.objs.size (.lst [])) fp pins) [] σ' H' s9/\tn i s9.heap/\(∀b∈fp,H' b=none)/\W i m σ' H':=fun {σ9 H9 s9} I9 n9=>by
    obtain ⟨m',hm,w9⟩:=hN σ9 H9 n9;refine ⟨m',hm,i+1,σ9,H9,I9.unpinned,T.keep _ _ _ st7 fun b hb o e=>(I9.pin (b,o) (List.mem_append_right _ (List.mem_append_right _ (mem_pinsAt hb e)))).1,fun b hb=>?_,w9⟩;obtain ⟨o,e,d⟩:=T.obj _ _ st7 b hb;exact (I9.pin (b,o) (List.mem_append_right _ (List.mem_append_right _ (mem_pinsAt hb e)))).2.1
   refine thn (ht _ s8 σ8 H8 _ I8 q8) fun ok s9 ⟨H9,I9,q9⟩=>?_;cases ok with
   |false=>exact again I9 q9
   |true=>
    refine thn (he _ s9 σ8 H9 _ I9 q9) fun xv s10 ⟨y,H10,I10,r10,ys,hp,hl,n10⟩=>?_;obtain ⟨z,its,n',r,hl',e⟩:=I10.lstM hp;refine call_meets F.slot_list_append ⟨_,e,rfl⟩ F.entry_list_append (F.args_list_append_2 _ _) (PySem.list_append s2.heap.objs.size its.toArray n' xv (by rw [List.size_toArray];lia)) ⟨e,?_⟩
    refine again (I10.lset (its':=its++[xv]) hp e (by simp) (r.append (.cons r10 .nil)) ?_) n10
    rw [List.length_append,List.length_singleton];lia
 have se:({ s2 with heap:=h₁,toks:=s2.toks+([]:List (Str×Value)).length }:Shared)={ s3 with heap:=h₁,toks:=s3.toks }:=by rw [<- hs3];rfl
 exact codeAny_compStart_list (loop _ se) (T.self _ 0 _ _ _ st4 (loop _ se))
theorem pe_comp(hc:X.calm=true)(co:CompOk X scope cl ls fs js)(hi:PI X tg iter wi)
  (hY:∀(C:Addr) (s₀:Shared) (H₀:Hp) (fp:List Addr) (pl:List (Addr×Obj)),PG (cxComp X (ls++fs) scope cl C s₀ H₀ fp pl) tg g/\PTs (cxComp X (ls++fs) scope cl C s₀ H₀ fp pl) ifs tt/\PE (cxComp X (ls++fs) scope cl C s₀ H₀ fp pl) elt te)
  (hs:∀x,foldedSetIterable iter X.env x=pure x:=by intro _;rfl):PE X (.ListComp elt [⟨tg,iter,ifs,0⟩] scope pos) (tComp wi ls js g tt te):=by
 intro pins s σ H Q I h;rw [eval_ListComp];refine wpAny_comprehension_free (use:=none) rfl hs co.clos co.kind co.locs (thn (hi pins s σ H _ I h) fun xv s1 h1=>thn h1 fun itv s2 h2=>?_);obtain ⟨it,fp,tn,J,H2,e,I2,T,st2,f2,q⟩:=h2;subst e;refine comp_run (R:=fun acc C=>compPost (model X.prog X.w) X.A X.xe none (EP X pins σ Q) acc C) (Q:=Q) hc co hY I2 T st2 f2 q ?_;intro p C H' s' m hn IX hC hL hge hcell hpin hq;exact ⟨m,hn,fun h' sb=>⟨.ref p,H',IX.turned (t':=s'.toks) (fun b o hb e=>sb.extBut b o hb e) hC hL (.inr hge) hcell hpin,rfl,hq⟩⟩
end
end L2
namespace L2
open PySem PySem.Spec PyProof.Rows
noncomputable def SrcTn(b:Bool)(it a:Addr)(i:Nat)(h:Heap):Prop:=if b=true then h.IsListIter it a i else h.IsTupleIter it a i
noncomputable def SrcSq(b:Bool)(h:Heap)(a:Addr)(items:Array Value):Prop:=if b=true then h.IsList a items else h.IsTuple a items
theorem SrcTn.lt{b:Bool}{it a:Addr}{i:Nat}{h:Heap}(x:SrcTn b it a i h):∃o,h.get? it=some o/\∀v,o.data≠.cell v:=by
 cases b with
 |true=>obtain ⟨o,e,c,d⟩:=(show h.IsListIter it a i from x);exact ⟨o,e,fun v z=>by rw [d] at z;cases z⟩
 |false=>obtain ⟨o,e,c,d⟩:=(show h.IsTupleIter it a i from x);exact ⟨o,e,fun v z=>by rw [d] at z;cases z⟩
theorem SrcTn.keep{b:Bool}{it a:Addr}{i:Nat}{h h':Heap}(x:SrcTn b it a i h)(k:∀o,h.get? it=some o->h'.get? it=some o):SrcTn b it a i h':=by
 cases b with
 |true=>obtain ⟨o,e,r⟩:=(show h.IsListIter it a i from x);exact (show h'.IsListIter it a i from ⟨o,k o e,r⟩)
 |false=>obtain ⟨o,e,r⟩:=(show h.IsTupleIter it a i from x);exact (show h'.IsTupleIter it a i from ⟨o,k o e,r⟩)
theorem SrcSq.keep{b:Bool}{a:Addr}{items:Array Value}{h h':Heap}(x:SrcSq b h a items)(k:∀o,h.get? a=some o->h'.get? a=some o):SrcSq b h' a items:=by
 cases b with
 |true=>obtain ⟨o,e,r⟩:=(show h.IsList a items from x);exact (show h'.IsList a items from ⟨o,k o e,r⟩)
 |false=>obtain ⟨o,e,r⟩:=(show h.IsTuple a items from x);exact (show h'.IsTuple a items from ⟨o,k o e,r⟩)
section
variable {prog:Program}{w:World}{A:Around}{E:Value->Shared->Prop}{s:Shared}
theorem nextOf_tuple_item{it l:Addr}{i:Nat}{items:Array Value}{x:Value}{Q:Value->Shared->Prop}(hit:s.heap.IsTupleIter it l i)(hl:s.heap.IsTuple l items)(hx:items[i]?=some x)
  (hQ:∀h',h'.IsTupleIter it l (i+1)->Heap.SameBut it s.heap h'->Q x { s with heap:=h' }):wpAny (model prog w) A (Builtin.SmallTypes.nextOf (.ref it)) Q E s:=by
 obtain ⟨o,ho,hc,hd⟩:=id hit;obtain ⟨ol,hol,_,nl,hdl⟩:=hl;unfold Builtin.SmallTypes.nextOf
 refine wpAny_bind (wpAny_callSpecial?_slot (name:=Str.ofString "__next__") hit.typeIs F.slot_tuple_iterator_next
  (wpAny_call_entry F.slot_tuple_iterator_next hit.typeIs F.entry_tuple_iterator_next ?_ (F.args_tuple_iterator_next_1 _)))
 show wpAny _ _ (field (.ref it) 0 >>= _) _ _ s;refine wpAny_bind (wpAny_field ho hd (x:=.ref l) rfl ?_);show wpAny _ _ (if (Value.ref l==Value.none)=true then _ else _) _ _ s
 rw [if_neg (show ¬((Value.ref l==Value.none)=true) from Bool.false_ne_true)];show wpAny _ _ (field (.ref it) 1 >>= _) _ _ s;refine wpAny_bind (wpAny_field ho hd (x:=.int i 0) rfl ?_);show wpAny _ _ (seqItems? (.ref l) >>= _) _ _ s;refine wpAny_bind (wpAny_seqItems hol hdl ?_);simp only [Int.toNat_natCast,hx];refine wpAny_bind (wpAny_setField ho hd (by simp) (wpAny_pure ⟨x,rfl,wpAny_pure (hQ _ ?_ (Heap.SameBut.update ..))⟩))
 exact ⟨_,Heap.get?_update_self _ ho (Obj.isFreed_of_fields (Obj.data_mapFields hd _)),(Obj.cls_mapFields ..).trans hc,by
  rw [Obj.data_mapFields hd];simp [rawInt]⟩
theorem nextOf_tuple_end{it l:Addr}{i:Nat}{items:Array Value}{Q:Value->Shared->Prop}(hh:A.handled=none)(hit:s.heap.IsTupleIter it l i)(hl:s.heap.IsTuple l items)(hx:items[i]?=none)
  (hE:∀h' e,Heap.ExtBut it s.heap h'->(∃o,h'.get? e=some o/\o.cls=.type "StopIteration")->E (.ref e) { s with heap:=h' }):wpAny (model prog w) A (Builtin.SmallTypes.nextOf (.ref it)) Q E s:=by
 obtain ⟨o,ho,hc,hd⟩:=id hit;obtain ⟨ol,hol,_,nl,hdl⟩:=hl;unfold Builtin.SmallTypes.nextOf
 refine wpAny_bind (wpAny_callSpecial?_slot (name:=Str.ofString "__next__") hit.typeIs F.slot_tuple_iterator_next
  (wpAny_call_entry F.slot_tuple_iterator_next hit.typeIs F.entry_tuple_iterator_next ?_ (F.args_tuple_iterator_next_1 _)))
 show wpAny _ _ (field (.ref it) 0 >>= _) _ _ s;refine wpAny_bind (wpAny_field ho hd (x:=.ref l) rfl ?_);show wpAny _ _ (if (Value.ref l==Value.none)=true then _ else _) _ _ s
 rw [if_neg (show ¬((Value.ref l==Value.none)=true) from Bool.false_ne_true)];show wpAny _ _ (field (.ref it) 1 >>= _) _ _ s;refine wpAny_bind (wpAny_field ho hd (x:=.int i 0) rfl ?_);show wpAny _ _ (seqItems? (.ref l) >>= _) _ _ s;refine wpAny_bind (wpAny_seqItems hol hdl ?_);simp only [Int.toNat_natCast,hx];refine wpAny_bind (wpAny_rule (wpAny_bind (wpAny_setField ho hd (by simp) ?_)))
 show wpAny _ _ (newExc (.type "StopIteration") [] >>= _) _ _ _;refine wpAny_bind ?_;simp only [newExc,newTuple];refine wpAny_bind (wpAny_newObj_type ?_ (by size_fits))
 refine wpAny_bind (m:=firstArgMember _ _) (wpAny_of_eq (a:=Value.none) (by first|rfl|(simp only [firstArgMember];rfl)) ?_)
 refine wpAny_newObj_type ?_ (by size_fits)
 simp only [raiseNew];refine wpAny_bind (wpAny_handled ?_)
 first|rw [show A.in1.handled=none from hh]|rw [hh]
 refine wpAny_bind (wpAny_pure (wpAny_throw ?_));exact hE _ _ (((Heap.SameBut.update ..).extBut.push _).push _) ⟨_,Heap.get?_push_size _ rfl,rfl⟩
theorem nextOf_src_item{b:Bool}{it l:Addr}{i:Nat}{items:Array Value}{x:Value}{Q:Value->Shared->Prop}(hit:SrcTn b it l i s.heap)(hl:SrcSq b s.heap l items)(hx:items[i]?=some x)
  (hQ:∀h',SrcTn b it l (i+1) h'->Heap.SameBut it s.heap h'->Q x { s with heap:=h' }):wpAny (model prog w) A (Builtin.SmallTypes.nextOf (.ref it)) Q E s:=by
 cases b with
 |true=>exact wpAny_nextOf_list_item hit hl hx hQ
 |false=>exact nextOf_tuple_item hit hl hx hQ
theorem nextOf_src_end{b:Bool}{it l:Addr}{i:Nat}{items:Array Value}{Q:Value->Shared->Prop}(hh:A.handled=none)(hit:SrcTn b it l i s.heap)(hl:SrcSq b s.heap l items)(hx:items[i]?=none)
  (hE:∀h' e,Heap.ExtBut it s.heap h'->(∃o,h'.get? e=some o/\o.cls=.type "StopIteration")->E (.ref e) { s with heap:=h' }):wpAny (model prog w) A (Builtin.SmallTypes.nextOf (.ref it)) Q E s:=by
 cases b with
 |true=>exact wpAny_nextOf_list_end hh hit hl hx hE
 |false=>exact nextOf_tuple_end hh hit hl hx hE
noncomputable def srcCls(b:Bool):String:=if b=true then "list_iterator" else "tuple_iterator"
theorem pyIter_src{b:Bool}{l:Addr}{items:Array Value}{Q:Value->Shared->Prop}(hl:SrcSq b s.heap l items)
  (hQ:Q (.ref s.heap.objs.size) { s with heap:=s.heap.push { cls:=.type (srcCls b),data:=.fields #[.ref l,.int 0 0] } }):wpAny (model prog w) A (pyIter (.ref l)) Q E s:=by
 cases b with
 |true=>exact wpAny_pyIter_list hl hQ
 |false=>exact wpAny_pyIter_tuple hl hQ
theorem src_new{b:Bool}{h:Heap}{it l:Addr}(e:h.get? it=some { cls:=.type (srcCls b),data:=.fields #[.ref l,.int 0 0] }):SrcTn b it l 0 h:=by
 cases b with
 |true=>exact (show h.IsListIter it l 0 from ⟨_,e,rfl,rfl⟩)
 |false=>exact (show h.IsTupleIter it l 0 from ⟨_,e,rfl,rfl⟩)
structure ZApart(z TI TO i1 i2:Addr):Prop where
 TIz:TI≠z
 TOz:TO≠z
 i1z:i1≠z
 i2z:i2≠z
 TITO:TI≠TO
 TIi1:TI≠i1
 TIi2:TI≠i2
 TOi1:TO≠i1
 TOi2:TO≠i2
 i12:i1≠i2
noncomputable def Off(z TO i1 i2 l:Addr):Prop:=l≠z/\l≠TO/\l≠i1/\l≠i2
theorem zip_item{b1 b2:Bool}{z TI TO i1 i2 l1 l2:Addr}{k1 k2:Nat}{xs ys:Array Value}{x y a b:Value}{Q:Value->Shared->Prop}(D:ZApart z TI TO i1 i2)(O1:Off z TO i1 i2 l1)(O2:Off z TO i1 i2 l2)
  (hz:IsZip s.heap z TI TO .none) (hTI:IsPair s.heap TI (.ref i1) (.ref i2)) (hTO:IsPair s.heap TO a b)
  (h1:SrcTn b1 i1 l1 k1 s.heap) (h2:SrcTn b2 i2 l2 k2 s.heap) (hl1:SrcSq b1 s.heap l1 xs) (hl2:SrcSq b2 s.heap l2 ys) (hx:xs[k1]?=some x) (hy:ys[k2]?=some y)
  (hQ:∀h',IsZip h' z TI TO (rawInt s.heap.objs.size)->IsPair h' TO x y->SrcTn b1 i1 l1 (k1+1) h'->SrcTn b2 i2 l2 (k2+1) h'->IsPair h' s.heap.objs.size x y->h'.objs.size=s.heap.objs.size+1->
   (∀c o,c≠z->c≠TO->c≠i1->c≠i2->s.heap.get? c=some o->h'.get? c=some o)->Q (.ref s.heap.objs.size) { s with heap:=h' }):
  wpAny (model prog w) A (Builtin.«zip.__next__» ⟨[.ref z],[]⟩) (fun fin s'=>∃v,fin=.done (.ret v)/\Q v s') E s:=by
 show wpAny _ _ (field (.ref z) 2 >>= _) _ _ _;refine wpAny_bind (wpAny_field hz rfl (x:=.bool false) rfl ?_);show wpAny _ _ (field (.ref z) 3 >>= _) _ _ _;refine wpAny_bind (wpAny_field hz rfl (x:=.ref TI) rfl ?_);refine wpAny_bind (wpAny_seqItems hTI rfl ?_);show wpAny _ _ (Builtin.SmallTypes.ownedTupleIsFree (.ref z) >>= _) _ _ _;refine wpAny_bind ?_;unfold Builtin.SmallTypes.ownedTupleIsFree;refine wpAny_bind (wpAny_field hz rfl (x:=.none) rfl (wpAny_pure ?_));simp only [if_true];refine wpAny_bind (wpAny_rule ?_);refine wpAny_bind (wpAny_field hz rfl (x:=.ref TO) rfl ?_);refine wpAny_bind (wpAny_setField_rec hz (by simp) fun h₁ hz₁ hs₁=>?_)
 replace hz₁:IsZip h₁ z TI TO .ellipsis:=hz₁
 refine wpAny_bind ?_;simp only [List.zipIdx_cons,List.zipIdx_nil,List.forIn_cons,List.forIn_nil];refine wpAny_bind (wpAny_bind (wpAny_onRaise ?_));show wpAny _ _ (Builtin.SmallTypes.nextOf (.ref i1) >>= _) _ _ _;refine wpAny_bind (nextOf_src_item (h1.keep fun o e=>hs₁.extBut _ o D.i1z e) (hl1.keep fun o e=>hs₁.extBut _ o O1.1 e) hx fun h₂ h1₂ hs₂=>wpAny_pure ?_);have hTO₂:IsPair h₂ TO a b:=hs₂.extBut _ _ D.TOi1 (hs₁.extBut _ _ D.TOz hTO);refine wpAny_bind (wpAny_seqItems hTO₂ rfl ?_);refine wpAny_bind (wpAny_updateSeq_pair hTO₂ fun h₃ hTO₃ hs₃=>?_)
 replace hTO₃:IsPair h₃ TO x b:=hTO₃
 refine wpAny_bind (wpAny_letGo (wpAny_pure ?_));refine wpAny_bind (wpAny_bind (wpAny_onRaise ?_));show wpAny _ _ (Builtin.SmallTypes.nextOf (.ref i2) >>= _) _ _ _
 refine wpAny_bind (nextOf_src_item (h2.keep fun o e=>hs₃.extBut _ o D.TOi2.symm (hs₂.extBut _ o D.i12.symm (hs₁.extBut _ o D.i2z e)))
  (hl2.keep fun o e=>hs₃.extBut _ o O2.2.1 (hs₂.extBut _ o O2.2.2.1 (hs₁.extBut _ o O2.1 e))) hy fun h₄ h2₄ hs₄=>wpAny_pure ?_)
 have hTO₄:IsPair h₄ TO x b:=hs₄.extBut _ _ D.TOi2 hTO₃;refine wpAny_bind (wpAny_seqItems hTO₄ rfl ?_);refine wpAny_bind (wpAny_updateSeq_pair hTO₄ fun h₅ hTO₅ hs₅=>?_)
 replace hTO₅:IsPair h₅ TO x y:=hTO₅
 refine wpAny_bind (wpAny_letGo (wpAny_pure (wpAny_pure ?_)));refine wpAny_bind (wpAny_seqItems hTO₅ rfl ?_);refine wpAny_bind (wpAny_newTuple ?_);have hsz:h₅.objs.size=s.heap.objs.size:=by rw [hs₅.1,hs₄.1,hs₃.1,hs₂.1,hs₁.1]
 have hz₅:IsZip h₅ z TI TO .ellipsis:=hs₅.extBut _ _ D.TOz.symm (hs₄.extBut _ _ D.i2z.symm (hs₃.extBut _ _ D.TOz.symm (hs₂.extBut _ _ D.i1z.symm hz₁)));have hk₅:∀c o,c≠z->c≠TO->c≠i1->c≠i2->s.heap.get? c=some o->h₅.get? c=some o:=fun c o c1 c2 c3 c4 e=>
  hs₅.extBut _ _ c2 (hs₄.extBut _ _ c4 (hs₃.extBut _ _ c2 (hs₂.extBut _ _ c3 (hs₁.extBut _ _ c1 e))))
 have h1₅:SrcTn b1 i1 l1 (k1+1) h₅:=h1₂.keep fun o e=>hs₅.extBut _ o D.TOi1.symm (hs₄.extBut _ o D.i12 (hs₃.extBut _ o D.TOi1.symm e));have h2₅:SrcTn b2 i2 l2 (k2+1) h₅:=h2₄.keep fun o e=>hs₅.extBut _ o D.TOi2.symm e;have hzlt:z<h₅.objs.size:=Heap.lt_size hz₅;show wpAny _ _ (Builtin.SmallTypes.ownedTupleHandOut (.ref z) (.ref h₅.objs.size) >>= _) _ _ _;refine wpAny_bind ?_;unfold Builtin.SmallTypes.ownedTupleHandOut;have hz₆:IsZip (h₅.push { cls:=.type "tuple",data:=.seq #[x,y] }) z TI TO .ellipsis:=Heap.get?_push_of_some _ hz₅;refine wpAny_bind (wpAny_setField_rec hz₆ (by simp) fun h₇ hz₇ hs₇=>?_)
 replace hz₇:IsZip h₇ z TI TO (rawInt h₅.objs.size):=hz₇
 refine wpAny_setField_rec hz₇ (by simp) fun h₈ hz₈ hs₈=>?_
 replace hz₈:IsZip h₈ z TI TO (rawInt h₅.objs.size):=hz₈
 have up:∀c o,c≠z->h₅.get? c=some o->h₈.get? c=some o:=fun c o c1 e=>hs₈.extBut _ _ c1 (hs₇.extBut _ _ c1 (Heap.get?_push_of_some _ e));have hT₈:IsPair h₈ h₅.objs.size x y:=hs₈.extBut _ _ (Nat.ne_of_gt hzlt) (hs₇.extBut _ _ (Nat.ne_of_gt hzlt) (Heap.get?_push_size _ rfl));have hz8:h₈.objs.size=h₅.objs.size+1:=by rw [hs₈.1,hs₇.1,Heap.size_push]
 rw [hsz] at hz₈ hT₈ hz8;refine wpAny_pure ⟨_,rfl,?_⟩;show Q (.ref h₅.objs.size) _;rw [hsz];exact hQ h₈ hz₈ (up _ _ D.TOz hTO₅) (h1₅.keep fun o e=>up _ o D.i1z e) (h2₅.keep fun o e=>up _ o D.i2z e) hT₈ hz8 fun c o c1 c2 c3 c4 e=>up c o c1 (hk₅ c o c1 c2 c3 c4 e)
theorem zip_end{b1 b2:Bool}{z TI TO i1 i2 l1 l2:Addr}{k1 k2:Nat}{xs ys:Array Value}{a b:Value}{Q:Fin->Shared->Prop}(hh:A.handled=none)(D:ZApart z TI TO i1 i2)(O1:Off z TO i1 i2 l1)(O2:Off z TO i1 i2 l2)
  (hz:IsZip s.heap z TI TO .none) (hTI:IsPair s.heap TI (.ref i1) (.ref i2)) (hTO:IsPair s.heap TO a b)
  (h1:SrcTn b1 i1 l1 k1 s.heap) (h2:SrcTn b2 i2 l2 k2 s.heap) (hl1:SrcSq b1 s.heap l1 xs) (hl2:SrcSq b2 s.heap l2 ys) (hend:xs[k1]?=none\/ys[k2]?=none)
  (hE:∀h' e,(∀c o,c≠z->c≠TO->c≠i1->c≠i2->s.heap.get? c=some o->h'.get? c=some o)->(∃o,h'.get? e=some o/\o.cls=.type "StopIteration")->E (.ref e) { s with heap:=h' }):
  wpAny (model prog w) A (Builtin.«zip.__next__» ⟨[.ref z],[]⟩) Q E s:=by
 show wpAny _ _ (field (.ref z) 2 >>= _) _ _ _;refine wpAny_bind (wpAny_field hz rfl (x:=.bool false) rfl ?_);show wpAny _ _ (field (.ref z) 3 >>= _) _ _ _;refine wpAny_bind (wpAny_field hz rfl (x:=.ref TI) rfl ?_);refine wpAny_bind (wpAny_seqItems hTI rfl ?_);show wpAny _ _ (Builtin.SmallTypes.ownedTupleIsFree (.ref z) >>= _) _ _ _;refine wpAny_bind ?_;unfold Builtin.SmallTypes.ownedTupleIsFree;refine wpAny_bind (wpAny_field hz rfl (x:=.none) rfl (wpAny_pure ?_));simp only [if_true];refine wpAny_bind (wpAny_rule ?_);refine wpAny_bind (wpAny_field hz rfl (x:=.ref TO) rfl ?_);refine wpAny_bind (wpAny_setField_rec hz (by simp) fun h₁ hz₁ hs₁=>?_)
 replace hz₁:IsZip h₁ z TI TO .ellipsis:=hz₁
 refine wpAny_bind ?_;simp only [List.zipIdx_cons,List.zipIdx_nil,List.forIn_cons,List.forIn_nil];refine wpAny_bind (wpAny_bind (wpAny_onRaise ?_));show wpAny _ _ (Builtin.SmallTypes.nextOf (.ref i1) >>= _) _ _ _;cases hx:xs[k1]? with
 |none=>
  refine wpAny_bind (nextOf_src_end hh (h1.keep fun o e=>hs₁.extBut _ o D.i1z e) (hl1.keep fun o e=>hs₁.extBut _ o O1.1 e) hx fun h₂ e hs₂ he=>?_);obtain ⟨oe,hoe,hce⟩:=he;have hz₂:IsZip h₂ z TI TO .ellipsis:=hs₂ _ _ D.i1z.symm hz₁;have hez:e≠z:=fun x=>by subst x;rw [hz₂] at hoe;cases hoe;simp at hce
  refine wpAny_setField_rec hz₂ (by simp) fun h₃ _ hs₃=>hE h₃ e (fun c o c1 _ c3 _ x=>hs₃.extBut _ _ c1 (hs₂ _ _ c3 (hs₁.extBut _ _ c1 x))) ⟨oe,hs₃.extBut _ _ hez hoe,hce⟩
 |some x=>
  have hy:ys[k2]?=none:=by rcases hend with h|h;rw [hx] at h;cases h;exact h
  refine wpAny_bind (nextOf_src_item (h1.keep fun o e=>hs₁.extBut _ o D.i1z e) (hl1.keep fun o e=>hs₁.extBut _ o O1.1 e) hx fun h₂ h1₂ hs₂=>wpAny_pure ?_);have hTO₂:IsPair h₂ TO a b:=hs₂.extBut _ _ D.TOi1 (hs₁.extBut _ _ D.TOz hTO);refine wpAny_bind (wpAny_seqItems hTO₂ rfl ?_);refine wpAny_bind (wpAny_updateSeq_pair hTO₂ fun h₃ hTO₃ hs₃=>?_);refine wpAny_bind (wpAny_letGo (wpAny_pure ?_));refine wpAny_bind (wpAny_bind (wpAny_onRaise ?_));show wpAny _ _ (Builtin.SmallTypes.nextOf (.ref i2) >>= _) _ _ _
  refine wpAny_bind (nextOf_src_end hh (h2.keep fun o e=>hs₃.extBut _ o D.TOi2.symm (hs₂.extBut _ o D.i12.symm (hs₁.extBut _ o D.i2z e)))
   (hl2.keep fun o e=>hs₃.extBut _ o O2.2.1 (hs₂.extBut _ o O2.2.2.1 (hs₁.extBut _ o O2.1 e))) hy fun h₄ e hs₄ he=>?_)
  obtain ⟨oe,hoe,hce⟩:=he;have hz₄:IsZip h₄ z TI TO .ellipsis:=hs₄ _ _ D.i2z.symm (hs₃.extBut _ _ D.TOz.symm (hs₂.extBut _ _ D.i1z.symm hz₁));have hez:e≠z:=fun x=>by subst x;rw [hz₄] at hoe;cases hoe;simp at hce
  refine wpAny_setField_rec hz₄ (by simp) fun h₅ _ hs₅=>hE h₅ e (fun c o c1 c2 c3 c4 x=>hs₅.extBut _ _ c1 (hs₄ _ _ c4 (hs₃.extBut _ _ c2 (hs₂.extBut _ _ c3 (hs₁.extBut _ _ c1 x))))) ⟨oe,hs₅.extBut _ _ hez hoe,hce⟩
theorem pyNext_zip_item{b1 b2:Bool}{z TI TO i1 i2 l1 l2:Addr}{k1 k2:Nat}{xs ys:Array Value}{x y a b:Value}{Q:Option Value->Shared->Prop}(D:ZApart z TI TO i1 i2)(O1:Off z TO i1 i2 l1)(O2:Off z TO i1 i2 l2)
  (hz:IsZip s.heap z TI TO .none) (hTI:IsPair s.heap TI (.ref i1) (.ref i2)) (hTO:IsPair s.heap TO a b)
  (h1:SrcTn b1 i1 l1 k1 s.heap) (h2:SrcTn b2 i2 l2 k2 s.heap) (hl1:SrcSq b1 s.heap l1 xs) (hl2:SrcSq b2 s.heap l2 ys) (hx:xs[k1]?=some x) (hy:ys[k2]?=some y)
  (hQ:∀h',IsZip h' z TI TO (rawInt s.heap.objs.size)->IsPair h' TO x y->SrcTn b1 i1 l1 (k1+1) h'->SrcTn b2 i2 l2 (k2+1) h'->IsPair h' s.heap.objs.size x y->h'.objs.size=s.heap.objs.size+1->
   (∀c o,c≠z->c≠TO->c≠i1->c≠i2->s.heap.get? c=some o->h'.get? c=some o)->Q (some (.ref s.heap.objs.size)) { s with heap:=h' }):
  wpAny (model prog w) A (pyNext (.ref z)) Q E s:=by
 have hT:s.TypeIs (.ref z) "zip":=⟨_,hz,rfl⟩;unfold pyNext
 exact wpAny_bind (wpAny_attempt (wpAny_callSpecial?_slot (name:=Str.ofString "__next__") hT F.slot_zip_next
  (wpAny_call_entry F.slot_zip_next hT F.entry_zip_next (zip_item D O1 O2 hz hTI hTO h1 h2 hl1 hl2 hx hy fun h' a1 a2 a3 a4 a5 a6 a7=>wpAny_pure (hQ h' a1 a2 a3 a4 a5 a6 a7)) (F.args_zip_next_1 _))))
theorem pyNext_zip_end{b1 b2:Bool}{z TI TO i1 i2 l1 l2:Addr}{k1 k2:Nat}{xs ys:Array Value}{a b:Value}{Q:Option Value->Shared->Prop}(hh:A.handled=none)(D:ZApart z TI TO i1 i2)(O1:Off z TO i1 i2 l1)(O2:Off z TO i1 i2 l2)
  (hz:IsZip s.heap z TI TO .none) (hTI:IsPair s.heap TI (.ref i1) (.ref i2)) (hTO:IsPair s.heap TO a b)
  (h1:SrcTn b1 i1 l1 k1 s.heap) (h2:SrcTn b2 i2 l2 k2 s.heap) (hl1:SrcSq b1 s.heap l1 xs) (hl2:SrcSq b2 s.heap l2 ys) (hend:xs[k1]?=none\/ys[k2]?=none)
  (hQ:∀h',(∀c o,c≠z->c≠TO->c≠i1->c≠i2->s.heap.get? c=some o->h'.get? c=some o)->Q none { s with heap:=h' }):wpAny (model prog w) A (pyNext (.ref z)) Q E s:=by
 have hT:s.TypeIs (.ref z) "zip":=⟨_,hz,rfl⟩;unfold pyNext
 refine wpAny_bind (wpAny_attempt (wpAny_callSpecial?_slot (name:=Str.ofString "__next__") hT F.slot_zip_next
  (wpAny_call_entry F.slot_zip_next hT F.entry_zip_next (zip_end hh D O1 O2 hz hTI hTO h1 h2 hl1 hl2 hend fun h' e hk he=>?_) (F.args_zip_next_1 _))))
 obtain ⟨o,ho,hc⟩:=he;refine wpAny_bind (wpAny_isInstance (T:="StopIteration") (b:=true) ⟨o,ho,hc⟩ isSubtype_stop ?_);exact wpAny_pure (hQ _ hk)
end
noncomputable abbrev zH1(c1:String)(h:Heap)(l1:Addr):Heap:=h.push { cls:=.type c1,data:=.fields #[.ref l1,.int 0 0] }
noncomputable abbrev zH2(c1 c2:String)(h:Heap)(l1 l2:Addr):Heap:=(zH1 c1 h l1).push { cls:=.type c2,data:=.fields #[.ref l2,.int 0 0] }
noncomputable abbrev zH3(c1 c2:String)(h:Heap)(l1 l2:Addr):Heap:=(zH2 c1 c2 h l1 l2).push { cls:=.type "tuple",data:=.seq #[.ref h.objs.size,.ref (zH1 c1 h l1).objs.size] }
noncomputable abbrev zH4(c1 c2:String)(h:Heap)(l1 l2:Addr):Heap:=(zH3 c1 c2 h l1 l2).push { cls:=.type "tuple",data:=.seq #[.none,.none] }
noncomputable abbrev zH5(c1 c2:String)(h:Heap)(l1 l2:Addr):Heap:=(zH4 c1 c2 h l1 l2).push { cls:=.type "zip",data:=.fields #[.none,.bool false,.bool false,.ref (zH2 c1 c2 h l1 l2).objs.size,.ref (zH3 c1 c2 h l1 l2).objs.size] }
theorem meets_zip(b1 b2:Bool)(l1 l2:Addr)(xs ys:Array Value):
  Meets (Builtin.«zip.__new__» ⟨[.type "zip",.ref l1,.ref l2],[]⟩) (fun _ R s=>SrcSq b1 s.heap l1 xs/\SrcSq b2 s.heap l2 ys/\
   R (.ok (.ret (.ref (zH4 (srcCls b1) (srcCls b2) s.heap l1 l2).objs.size))) { s with heap:=zH5 (srcCls b1) (srcCls b2) s.heap l1 l2 }):=
 .of_wp fun prog w A R s h=>by
  obtain ⟨hp,g,d,tk,os⟩:=s;obtain ⟨hl1,hl2,h⟩:=h;have hsub:=sub_zip;have hL1:SrcSq b1 (Shared.heap ⟨hp,g,d,tk,os⟩) l1 xs:=hl1;have hL2:SrcSq b2 (Shared.heap ⟨hp.push { cls:=.type (srcCls b1),data:=.fields #[.ref l1,.int 0 0] },g,d,tk,os⟩) l2 ys:=SrcSq.keep hl2 fun o e=>Heap.get?_push_of_some _ e
  wp_walk using pyIter_src hL1,pyIter_src hL2
  exact ⟨_,rfl,h⟩
section
variable {prog:Program}{w:World}{A:Around}{E:Value->Shared->Prop}{s:Shared}
theorem call_zip{b1 b2:Bool}{l1 l2:Addr}{xs ys:Array Value}{Q:Value->Shared->Prop}(hl1:SrcSq b1 s.heap l1 xs)(hl2:SrcSq b2 s.heap l2 ys)
  (h:∀h',IsZip h' (s.heap.objs.size+4) (s.heap.objs.size+2) (s.heap.objs.size+3) .none->IsPair h' (s.heap.objs.size+2) (.ref s.heap.objs.size) (.ref (s.heap.objs.size+1))->
   IsPair h' (s.heap.objs.size+3) .none .none->SrcTn b1 s.heap.objs.size l1 0 h'->SrcTn b2 (s.heap.objs.size+1) l2 0 h'->h'.objs.size=s.heap.objs.size+5->
   (∀c o,s.heap.get? c=some o->h'.get? c=some o)->Q (.ref (s.heap.objs.size+4)) { s with heap:=h' }):
  wpAny (model prog w) A (call (.type "zip") [.ref l1,.ref l2]) Q E s:=by
 refine callType_new F.called_zip (by decide) (F.typeCall_zip_2 _ _) (F.newCall_zip_2 _ _) (fun obj=>F.args_object_init_3 obj _ _) F.entry_zip_new (meets_zip b1 b2 l1 l2 xs ys) ⟨hl1,hl2,?_⟩
 have z1:(zH1 (srcCls b1) s.heap l1).objs.size=s.heap.objs.size+1:=Heap.size_push ..;have z2:(zH2 (srcCls b1) (srcCls b2) s.heap l1 l2).objs.size=s.heap.objs.size+2:=by rw [Heap.size_push,z1]
 have z3:(zH3 (srcCls b1) (srcCls b2) s.heap l1 l2).objs.size=s.heap.objs.size+3:=by rw [Heap.size_push,z2]
 have z4:(zH4 (srcCls b1) (srcCls b2) s.heap l1 l2).objs.size=s.heap.objs.size+4:=by rw [Heap.size_push,z3]
 have z5:(zH5 (srcCls b1) (srcCls b2) s.heap l1 l2).objs.size=s.heap.objs.size+5:=by rw [Heap.size_push,z4]
 have g5:(zH5 (srcCls b1) (srcCls b2) s.heap l1 l2).get? (zH4 (srcCls b1) (srcCls b2) s.heap l1 l2).objs.size=some _:=Heap.get?_push_size _ rfl;have g4:(zH5 (srcCls b1) (srcCls b2) s.heap l1 l2).get? (zH3 (srcCls b1) (srcCls b2) s.heap l1 l2).objs.size=some _:=Heap.get?_push_of_some _ (Heap.get?_push_size _ rfl);have g3:(zH5 (srcCls b1) (srcCls b2) s.heap l1 l2).get? (zH2 (srcCls b1) (srcCls b2) s.heap l1 l2).objs.size=some _:=Heap.get?_push_of_some _ (Heap.get?_push_of_some _ (Heap.get?_push_size _ rfl));have g2:(zH5 (srcCls b1) (srcCls b2) s.heap l1 l2).get? (zH1 (srcCls b1) s.heap l1).objs.size=some _:=Heap.get?_push_of_some _ (Heap.get?_push_of_some _ (Heap.get?_push_of_some _ (Heap.get?_push_size _ rfl)));have g1:(zH5 (srcCls b1) (srcCls b2) s.heap l1 l2).get? s.heap.objs.size=some _:=Heap.get?_push_of_some _ (Heap.get?_push_of_some _ (Heap.get?_push_of_some _ (Heap.get?_push_of_some _ (Heap.get?_push_size _ rfl))));show _/\_;rw [z2,z3,z4] at g5;rw [z1,z2] at g3;rw [z3] at g4;rw [z1] at g2;rw [z4];exact ⟨⟨_,g5,rfl⟩,h _ g5 g3 g4 (src_new g1) (src_new g2) z5 fun c o x=>
  Heap.get?_push_of_some _ (Heap.get?_push_of_some _ (Heap.get?_push_of_some _ (Heap.get?_push_of_some _ (Heap.get?_push_of_some _ x))))⟩
end
end L2
namespace L2
open PySem PySem.Spec PyProof.Rows
noncomputable def SqB(K:PySem.W.Frag)(b:Bool)(H:Hp)(a:Addr)(xs:List V):Prop:=if b=true then SqL K H a xs else SqT K H a xs
section
variable {X:Cx}{pins:List (Addr×Obj)}{σ:St}{H:Hp}{s:Shared}{a:Addr}{xs ys:List V}{b:Bool}
theorem Inv.src(I:Inv X pins σ H s)(h:SqB X.K b H a xs):∃its:List Value,Vals xs its/\SrcSq b s.heap a its.toArray/\xs.length<=sizeLine:=by
 cases b with
 |true=>obtain ⟨its,r,p,z⟩:=I.list (show SqL X.K H a xs from h);exact ⟨its,r,p.isList,z⟩
 |false=>obtain ⟨its,r,p,z⟩:=I.tuple (show SqT X.K H a xs from h);exact ⟨its,r,p,z⟩
theorem Inv.src_inj(I:Inv X pins σ H s)(h:SqB X.K b H a xs)(h':SqB X.K b H a ys):xs=ys:=by
 cases b with
 |true=>exact I.list_inj (show SqL X.K H a xs from h) h'
 |false=>exact I.tuple_inj (show SqT X.K H a xs from h) h'
theorem Inv.src_ne(I:Inv X pins σ H s)(h:SqB X.K b H a xs){it:Addr}(f:FpOk X pins H it):a≠it:=by
 obtain ⟨f0,f1,f2,f3,f4,f5⟩:=f;intro e;subst e;have kne:∀o,X.K.lookup a=some o->False:=fun o hk=>by
  have hb:=I.ok.mod.kin a o hk;rcases f3 with z|z
  ·exact I.ok.noex a o hb z
  ·exact absurd (Nat.lt_of_lt_of_le (Heap.lt_size (I.ok.bs a o hb).1) z) (Nat.lt_irrefl _)
 cases b with
 |true=>
  rcases (show SqL X.K H a xs from h) with (z|⟨o,z⟩)|⟨o,_,_,hk,_⟩
  ·rw [f0] at z;cases z
  ·rw [f0] at z;cases z
  ·exact kne o hk
 |false=>
  rcases (show SqT X.K H a xs from h) with (z|⟨o,z⟩)|⟨o,_,_,hk,_⟩
  ·rw [f0] at z;cases z
  ·rw [f0] at z;cases z
  ·exact kne o hk
end
noncomputable def Itz(K:PySem.W.Frag)(b1 b2:Bool)(l1 l2:Addr):It:=
 ⟨fun i H=>∃xs ys x y,SqB K b1 H l1 xs/\SqB K b2 H l2 ys/\xs[i]?=some x/\ys[i]?=some y,
  fun i H v H'=>∃T x y,H T=none/\v=.ref T/\H'=upd H T (.tup [x,y])/\(∀xs,SqB K b1 H l1 xs->xs[i]?=some x)/\(∀ys,SqB K b2 H l2 ys->ys[i]?=some y),
  fun i H=>∃xs ys,SqB K b1 H l1 xs/\SqB K b2 H l2 ys/\(xs.length<=i\/ys.length<=i)⟩
theorem Inv.turned4{X:Cx}{pins:List (Addr×Obj)}{σ:St}{H:Hp}{s:Shared}{h':Heap}{t':Nat}{fp:List Addr}(I:Inv X pins σ H s)(hf:∀b∈fp,FpOk X pins H b)
  (k:∀b o,b∉fp->s.heap.get? b=some o->h'.get? b=some o):Inv X pins σ H { s with heap:=h',toks:=t' }:=by
 have nfp:∀b u,H b=some u->b∉fp:=fun b u e z=>by have:=(hf b z).1;rw [e] at this;cases this
 refine I.step (g':=s.gens) (d':=s.drawn) (ch:=fp) (fun b hb=>?_) (fun b o _ _ hc e _=>k b o hc e) (fun b o _ _ hc e _=>⟨o.slots,k b o hc e⟩) (fun _ _ _ _ n=>n)
  (fun b o hc e=>⟨o,k b o hc e⟩) (fun _ _ e=>e) (fun _ _ _ e=>e) (fun b ps e=>⟨#[],by rw [e];simp⟩) (fun m hm=>?_) (fun b u e=>?_) I.bare
 ·obtain ⟨f0,f1,f2,f3,f4,f5⟩:=hf b hb
  exact ⟨f3,f1,f4,f5⟩
 ·obtain ⟨o,es,ep,ho,r⟩:=hm
  exact ⟨o,es,ep,k _ o (fun z=>(hf _ z).2.1 rfl) ho,r⟩
 ·refine (I.hok b u e).stay (fun c v hc q=>k c v ?_ q) (fun _ q=>q) fun _ _ q=>q
  rcases hc with z|z
  ·rw [z];exact nfp b u e
  ·exact nfp c _ z
theorem Inv.turnedNew{X:Cx}{pins:List (Addr×Obj)}{σ:St}{H:Hp}{s:Shared}{h':Heap}{t':Nat}{fp:List Addr}{zs:List V}{us:List Value}{o':Obj}(I:Inv X pins σ H s)(hf:∀b∈fp,FpOk X pins H b)
  (k:∀b o,b∉fp->s.heap.get? b=some o->h'.get? b=some o) (hlt:∀b∈fp,∃o,s.heap.get? b=some o) (hlv:∀b∈fp,∃o,h'.get? b=some o) (hT:h'.get? s.heap.objs.size=some o') (hoc:o'.cls=.type "tuple") (hod:∃n,o'.data=.seq us.toArray n)
  (r:Vals zs us) (hdn:o'.dict=none) (hz:zs.length<=sizeLine):Inv X pins σ (upd H s.heap.objs.size (.tup zs)) { s with heap:=h',toks:=t' }:=by
 have hTn:H s.heap.objs.size=none:=I.hok.fresh (Nat.le_refl _);have nfp:∀b u,H b=some u->b∉fp:=fun b u e z=>by have:=(hf b z).1;rw [e] at this;cases this
 refine I.step (g':=s.gens) (d':=s.drawn) (ch:=fp) (fun b hb=>?_) (fun b o _ _ hc e _=>k b o hc e) (fun b o _ _ hc e _=>⟨o.slots,k b o hc e⟩) (fun b o _ e n=>by rw [upd_ne (Nat.ne_of_lt (Heap.lt_size e))];exact n)
  (fun b o hc e=>⟨o,k b o hc e⟩) (fun b zs' e=>by rw [upd_ne (ne_of_none e hTn)];exact e) (fun b o u e=>by rw [upd_ne (ne_of_none e hTn)];exact e) (fun b ps e=>⟨#[],by rw [upd_ne (ne_of_none e hTn),e];simp⟩) (fun m hm=>?_) (fun b u e=>?_) I.bare
 ·obtain ⟨f0,f1,f2,f3,f4,f5⟩:=hf b hb
  exact ⟨f3,f1,f4,f5⟩
 ·obtain ⟨o,es,ep,ho,r⟩:=hm
  exact ⟨o,es,ep,k _ o (fun z=>(hf _ z).2.1 rfl) ho,r⟩
 ·by_cases hb:b=s.heap.objs.size
  ·subst hb
   rw [upd_same] at e;cases e;obtain ⟨n,hd⟩:=hod;exact ⟨hz,us,r,⟨o',hT,⟨hoc,n,hd⟩,hdn⟩⟩
  ·rw [upd_ne hb] at e
   refine (I.hok b u e).stay (fun c v hc q=>k c v ?_ q) (fun c q=>by rw [upd_ne (ne_of_none q hTn)];exact q) fun c zs' q=>by rw [upd_ne (ne_of_none q hTn)];exact q
   rcases hc with z|z
   ·rw [z];exact nfp b u e
   ·exact nfp c _ z
theorem turn_zip{P:Program}{w:World}{K:PySem.W.Frag}{elts:List Expr}{x1:Nat}{tp:Pos}(b1 b2:Bool)(l1 l2 z TI TO i1 i2:Addr)(D:ZApart z TI TO i1 i2):
  Turn P w K (.Tuple elts x1 tp) (Itz K b1 b2 l1 l2) [z,TI,TO,i1,i2] z (fun i h=>IsZip h z TI TO .none/\IsPair h TI (.ref i1) (.ref i2)/\(∃a b,IsPair h TO a b)/\SrcTn b1 i1 l1 i h/\SrcTn b2 i2 l2 i h) where
 mem:=by simp
 obj:=fun i h st b hb=>by
  obtain ⟨hz,hTI,⟨a,c,hTO⟩,h1,h2⟩:=st;have hb':b=z\/b=TI\/b=TO\/b=i1\/b=i2:=by simpa using hb
  rcases hb' with e|e|e|e|e<;>subst e
  ·exact ⟨_,hz,fun v q=>nomatch q⟩
  ·exact ⟨_,hTI,fun v q=>nomatch q⟩
  ·exact ⟨_,hTO,fun v q=>nomatch q⟩
  ·exact h1.lt
  ·exact h2.lt
 keep:=fun i h h' st k=>by
  obtain ⟨hz,hTI,⟨a,c,hTO⟩,h1,h2⟩:=st;exact ⟨k z (by simp) _ hz,k TI (by simp) _ hTI,⟨a,c,k TO (by simp) _ hTO⟩,h1.keep fun o e=>k i1 (by simp) o e,h2.keep fun o e=>k i2 (by simp) o e⟩
 item:=by
  intro X hP hw hK hc i pins s σ H E I hf st hg;subst hP hw hK;obtain ⟨xs,ys,x,y,q1,q2,hx,hy⟩:=hg;obtain ⟨hz,hTI,⟨a,c,hTO⟩,h1,h2⟩:=st;obtain ⟨its1,r1,s1,z1⟩:=I.src q1;obtain ⟨its2,r2,s2,z2⟩:=I.src q2;obtain ⟨u,hu,ru⟩:=r1.get hx;obtain ⟨v,hv,rv⟩:=r2.get hy;have O1:Off z TO i1 i2 l1:=⟨I.src_ne q1 (hf z (by simp)),I.src_ne q1 (hf TO (by simp)),I.src_ne q1 (hf i1 (by simp)),I.src_ne q1 (hf i2 (by simp))⟩
  have O2:Off z TO i1 i2 l2:=⟨I.src_ne q2 (hf z (by simp)),I.src_ne q2 (hf TO (by simp)),I.src_ne q2 (hf i1 (by simp)),I.src_ne q2 (hf i2 (by simp))⟩
  refine pyNext_zip_item D O1 O2 hz hTI hTO h1 h2 s1 s2 (x:=u) (y:=v) (by simpa using hu) (by simpa using hv) fun h' a1 a2 a3 a4 a5 a6 hk=>?_
  refine ⟨_,rfl,wpAny_letOwnedTupleGo_zip a1 fun h'' hz'' hs''=>?_⟩;have hzs:z≠s.heap.objs.size:=Nat.ne_of_lt (Heap.lt_size hz);have kk:∀b o,b∉[z,TI,TO,i1,i2]->s.heap.get? b=some o->h''.get? b=some o:=fun b o hb e=>
   hs''.extBut b o (fun q=>hb (by simp [q])) (hk b o (fun q=>hb (by simp [q])) (fun q=>hb (by simp [q])) (fun q=>hb (by simp [q])) (fun q=>hb (by simp [q])) e)
  have hT:h''.get? s.heap.objs.size=some { cls:=.type "tuple",data:=.seq #[u,v] }:=hs''.extBut _ _ hzs.symm a5;have lv:∀b∈[z,TI,TO,i1,i2],∃o,s.heap.get? b=some o:=fun b hb=>by
   have hb':b=z\/b=TI\/b=TO\/b=i1\/b=i2:=by simpa using hb
   rcases hb' with e|e|e|e|e<;>subst e
   ·exact ⟨_,hz⟩
   ·exact ⟨_,hTI⟩
   ·exact ⟨_,hTO⟩
   ·obtain ⟨o,e,_⟩:=h1.lt;exact ⟨o,e⟩
   ·obtain ⟨o,e,_⟩:=h2.lt;exact ⟨o,e⟩
  have n1:SrcTn b1 i1 l1 (i+1) h'':=a3.keep fun o e=>hs''.extBut _ o D.i1z e;have n2:SrcTn b2 i2 l2 (i+1) h'':=a4.keep fun o e=>hs''.extBut _ o D.i2z e;have nTI:IsPair h'' TI (.ref i1) (.ref i2):=hs''.extBut _ _ D.TIz (hk _ _ D.TIz D.TITO D.TIi1 D.TIi2 hTI);have nTO:IsPair h'' TO u v:=hs''.extBut _ _ D.TOz a2;have lv':∀b∈[z,TI,TO,i1,i2],∃o,h''.get? b=some o:=fun b hb=>by
   have hb':b=z\/b=TI\/b=TO\/b=i1\/b=i2:=by simpa using hb
   rcases hb' with e|e|e|e|e<;>subst e
   ·exact ⟨_,hz''⟩
   ·exact ⟨_,nTI⟩
   ·exact ⟨_,nTO⟩
   ·obtain ⟨o,e,_⟩:=n1.lt;exact ⟨o,e⟩
   ·obtain ⟨o,e,_⟩:=n2.lt;exact ⟨o,e⟩
  have hTn:H s.heap.objs.size=none:=I.hok.fresh (Nat.le_refl _);refine ⟨.ref s.heap.objs.size,_,I.turnedNew (s:=s) (h':=h'') (t':=s.toks) (zs:=[x,y]) (us:=[u,v]) hf kk lv lv' hT rfl ⟨_,rfl⟩ (.cons ru (.cons rv .nil)) rfl (by show 2<=sizeLine;decide),rfl,⟨_,x,y,hTn,rfl,rfl,fun zs hzs'=>?_,fun zs hzs'=>?_⟩,⟨hz'',nTI,⟨_,_,nTO⟩,n1,n2⟩,fun b hb=>?_⟩
  ·rw [I.src_inj hzs' q1];exact hx
  ·rw [I.src_inj hzs' q2];exact hy
  ·obtain ⟨o,e⟩:=lv b hb
   rw [upd_ne (Nat.ne_of_lt (Heap.lt_size e))];exact (hf b hb).1
 done:=by
  intro X hP hw hK hc i pins s σ H E I hf st hg;subst hP hw hK;obtain ⟨xs,ys,q1,q2,hx⟩:=hg;obtain ⟨hz,hTI,⟨a,c,hTO⟩,h1,h2⟩:=st;obtain ⟨its1,r1,s1,z1⟩:=I.src q1;obtain ⟨its2,r2,s2,z2⟩:=I.src q2;have l1':=r1.length;have l2':=r2.length;have O1:Off z TO i1 i2 l1:=⟨I.src_ne q1 (hf z (by simp)),I.src_ne q1 (hf TO (by simp)),I.src_ne q1 (hf i1 (by simp)),I.src_ne q1 (hf i2 (by simp))⟩
  have O2:Off z TO i1 i2 l2:=⟨I.src_ne q2 (hf z (by simp)),I.src_ne q2 (hf TO (by simp)),I.src_ne q2 (hf i1 (by simp)),I.src_ne q2 (hf i2 (by simp))⟩
  refine pyNext_zip_end (I.ok.hd hc) D O1 O2 hz hTI hTO h1 h2 s1 s2 ?_ fun h' hk=>⟨rfl,I.turned4 (t':=s.toks) hf fun b o hb e=>hk b o (fun q=>hb (by simp [q])) (fun q=>hb (by simp [q])) (fun q=>hb (by simp [q])) (fun q=>hb (by simp [q])) e⟩
  rcases hx with hx|hx
  ·exact .inl (by simp;lia)
  ·exact .inr (by simp;lia)
 self:=fun _ _ _ _ _ st h=>wpAny_pyIter_zip st.1 h
section
variable {X:Cx}
noncomputable def Ite(K:PySem.W.Frag)(b:Bool)(l:Addr):It:=
 ⟨fun i H=>∃xs x,SqB K b H l xs/\xs[i]?=some x,
  fun i H v H'=>∃T x,H T=none/\v=.ref T/\H'=upd H T (.tup [.int i,x])/\(∀xs,SqB K b H l xs->xs[i]?=some x),
  fun i H=>∃xs,SqB K b H l xs/\xs.length<=i⟩
end
section
variable {prog:Program}{w:World}{A:Around}{E:Value->Shared->Prop}{s:Shared}
theorem Draws.src(hh:A.handled=none)(b:Bool)(it l:Addr)(hne:l≠it)(items:Array Value):
  Draws prog w A it [it,l] items.size (fun i v=>items[i]?=some v) (fun i h=>SrcTn b it l i h/\SrcSq b h l items) where
 live:=fun _ _ st=>let ⟨o,ho,_⟩:=st.1.lt;⟨o,ho⟩
 frame:=fun _ _ _ st hk=>⟨st.1.keep fun o e=>hk it (by simp) o e,st.2.keep fun o e=>hk l (by simp) o e⟩
 item:=fun i s Q E hi st hQ=>by
  refine nextOf_src_item st.1 st.2 (x:=items[i]) (by simp [hi]) fun h' hit' hs'=>?_
  exact hQ _ h' s.toks (by simp [hi]) ⟨hit',st.2.keep fun o e=>hs'.extBut _ o hne e⟩ hs'
 done:=fun s Q E st hE=>nextOf_src_end hh st.1 st.2 (by simp) hE
theorem meets_enum(b:Bool)(l:Addr)(items:Array Value):
  Meets (Builtin.«enumerate.__new__» ⟨[.type "enumerate",.ref l],[]⟩) (fun _ R s=>SrcSq b s.heap l items/\
   R (.ok (.ret (.ref (s.heap.push { cls:=.type (srcCls b),data:=.fields #[.ref l,.int 0 0] }).objs.size)))
    { s with heap:=(s.heap.push { cls:=.type (srcCls b),data:=.fields #[.ref l,.int 0 0] }).push { cls:=.type "enumerate",data:=.fields #[.none,.bool false,.ref s.heap.objs.size,rawInt 0,.none,.none] } }):=
 .of_wp fun prog w A R s h=>by
  obtain ⟨hp,g,d,tk,os⟩:=s;obtain ⟨hl,h⟩:=h;have hsub:=sub_enumerate;have hL:SrcSq b (Shared.heap ⟨hp,g,d,tk,os⟩) l items:=hl
  wp_walk
  refine wpAny_stack_any fun st=>wpAny_pure ?_
  split
  ·rename_i c _ _ _ _ _
   cases (c==Value.type "enumerate")
   ·wp_walk using pyIter_src hL
    exact ⟨_,rfl,h⟩
   ·wp_walk using pyIter_src hL
    exact ⟨_,rfl,h⟩
  ·wp_walk using pyIter_src hL
   exact ⟨_,rfl,h⟩
theorem call_enum{b:Bool}{l:Addr}{items:Array Value}{Q:Value->Shared->Prop}(hL:SrcSq b s.heap l items)
  (h:∀h',IsEnum h' (s.heap.objs.size+1) s.heap.objs.size 0 .none->SrcTn b s.heap.objs.size l 0 h'->h'.objs.size=s.heap.objs.size+2->
   (∀b o,s.heap.get? b=some o->h'.get? b=some o)->Q (.ref (s.heap.objs.size+1)) { s with heap:=h' }):
  wpAny (model prog w) A (call (.type "enumerate") [.ref l]) Q E s:=by
 refine callType_new F.called_enumerate (by decide) (F.typeCall_enumerate_1 _) (F.newCall_enumerate_1 _) (fun obj=>F.args_object_init_2 obj _) F.entry_enumerate_new (meets_enum b l items) ⟨hL,?_⟩
 have hz:(s.heap.push { cls:=.type (srcCls b),data:=.fields #[.ref l,.int 0 0] }).objs.size=s.heap.objs.size+1:=Heap.size_push ..;show _/\_;rw [hz]
 have he:IsEnum ((s.heap.push { cls:=.type (srcCls b),data:=.fields #[.ref l,.int 0 0] }).push
   { cls:=.type "enumerate",data:=.fields #[.none,.bool false,.ref s.heap.objs.size,rawInt 0,.none,.none] }) (s.heap.objs.size+1) s.heap.objs.size 0 .none:=by
  have:=Heap.get?_push_size (s.heap.push { cls:=.type (srcCls b),data:=.fields #[.ref l,.int 0 0] })
   (o:={ cls:=.type "enumerate",data:=.fields #[.none,.bool false,.ref s.heap.objs.size,rawInt 0,.none,.none] }) rfl
  rw [hz] at this;exact this
 refine ⟨⟨_,he,rfl⟩,h _ he (src_new (Heap.get?_push_of_some _ (Heap.get?_push_size _ rfl))) (by rw [Heap.size_push,hz]) fun b o x=>Heap.get?_push_of_some _ (Heap.get?_push_of_some _ x)⟩
end
theorem turn_enum{P:Program}{w:World}{K:PySem.W.Frag}{elts:List Expr}{x1:Nat}{tp:Pos}(b:Bool)(l e it:Addr)(hei:e≠it):
  Turn P w K (.Tuple elts x1 tp) (Ite K b l) [e,it] e (fun i h=>(∃old,IsEnum h e it i old)/\SrcTn b it l i h) where
 mem:=by simp
 obj:=fun i h st c hc=>by
  obtain ⟨⟨old,he⟩,h1⟩:=st;have hc':c=e\/c=it:=by simpa using hc
  rcases hc' with q|q<;>subst q
  ·exact ⟨_,he,fun v z=>nomatch z⟩
  ·exact h1.lt
 keep:=fun i h h' st k=>by
  obtain ⟨⟨old,he⟩,h1⟩:=st;exact ⟨⟨old,k e (by simp) _ he⟩,h1.keep fun o q=>k it (by simp) o q⟩
 item:=by
  intro X hP hw hK hc i pins s σ H E I hf st hg;subst hP hw hK;obtain ⟨xs,x,q1,hx⟩:=hg;obtain ⟨⟨old,he⟩,h1⟩:=st;obtain ⟨its,r,sq,z1⟩:=I.src q1;obtain ⟨u,hu,ru⟩:=r.get hx;have hle:l≠e:=I.src_ne q1 (hf e (by simp))
  have hli:l≠it:=I.src_ne q1 (hf it (by simp))
  have hil:i<its.toArray.size:=by
   rw [List.size_toArray,<- r.length];exact (List.getElem?_eq_some_iff.mp hx).1
  have D:Draws X.prog X.w X.A.in1 it [it,l] its.toArray.size (fun i v=>its.toArray[i]?=some v) (fun i h=>SrcTn b it l i h/\SrcSq b h l its.toArray):=Draws.src (A:=X.A.in1) (I.ok.hd hc) b it l hli its.toArray;refine wpAny_pyNext_enum_itemD D he ⟨h1,sq⟩ hil hei (by simp [hei,Ne.symm hle]) fun v h' tk hv ho hs' hT hsz hk=>?_
  have ev:v=u:=by
   have hu':its.toArray[i]?=some u:=by simpa using hu
   rw [hu'] at hv;exact (Option.some.inj hv).symm
  subst ev;refine ⟨_,rfl,wpAny_letOwnedTupleGo_enum ho fun h'' he'' hs''=>?_⟩;have hes:e≠s.heap.objs.size:=Nat.ne_of_lt (Heap.lt_size he);have n1:SrcTn b it l (i+1) h'':=hs'.1.keep fun o q=>hs''.extBut _ o hei.symm q;have kk:∀c o,c∉[e,it]->s.heap.get? c=some o->h''.get? c=some o:=fun c o hc q=>
   hs''.extBut c o (fun z=>hc (by simp [z])) (hk c o (fun z=>hc (by simp [z])) (fun z=>hc (by simp [z])) q)
  have hT':h''.get? s.heap.objs.size=some { cls:=.type "tuple",data:=.seq #[.int i tk,v] }:=hs''.extBut _ _ hes.symm hT;have lv:∀c∈[e,it],∃o,s.heap.get? c=some o:=fun c hc=>by
   have hc':c=e\/c=it:=by simpa using hc
   rcases hc' with q|q<;>subst q
   ·exact ⟨_,he⟩
   ·obtain ⟨o,q,_⟩:=h1.lt;exact ⟨o,q⟩
  have lv':∀c∈[e,it],∃o,h''.get? c=some o:=fun c hc=>by
   have hc':c=e\/c=it:=by simpa using hc
   rcases hc' with q|q<;>subst q
   ·exact ⟨_,he''⟩
   ·obtain ⟨o,q,_⟩:=n1.lt;exact ⟨o,q⟩
  have hTn:H s.heap.objs.size=none:=I.hok.fresh (Nat.le_refl _);refine ⟨.ref s.heap.objs.size,_,I.turnedNew (s:=s) (h':=h'') (t':=tk+1) (zs:=[.int i,x]) (us:=[.int i tk,v]) hf kk lv lv' hT' rfl ⟨_,rfl⟩ (.cons ⟨tk,rfl⟩ (.cons ru .nil)) rfl (by show 2<=sizeLine;decide),rfl,⟨_,x,hTn,rfl,rfl,fun zs hzs'=>?_⟩,⟨⟨v,by simpa using he''⟩,n1⟩,fun c hc=>?_⟩
  ·rw [I.src_inj hzs' q1];exact hx
  ·obtain ⟨o,q⟩:=lv c hc
   rw [upd_ne (Nat.ne_of_lt (Heap.lt_size q))];exact (hf c hc).1
 done:=by
  intro X hP hw hK hc i pins s σ H E I hf st hg;subst hP hw hK;obtain ⟨xs,q1,hx⟩:=hg;obtain ⟨⟨old,he⟩,h1⟩:=st;obtain ⟨its,r,sq,z1⟩:=I.src q1;have hli:l≠it:=I.src_ne q1 (hf it (by simp))
  have hT:s.TypeIs (.ref e) "enumerate":=⟨_,he,rfl⟩;have hl:=r.length;unfold pyNext
  refine wpAny_bind (wpAny_attempt (wpAny_callSpecial?_slot (name:=Str.ofString "__next__") hT F.slot_enumerate_next
   (wpAny_call_entry F.slot_enumerate_next hT F.entry_enumerate_next ?_ (F.args_enumerate_next_1 _))))
  show wpAny _ _ (field (.ref e) 2 >>= _) _ _ _;refine wpAny_bind (wpAny_field he rfl (x:=.ref it) rfl ?_);refine wpAny_bind (nextOf_src_end (I.ok.hd hc) h1 sq (by simp;lia) fun h' x he' hx'=>?_)
  obtain ⟨o,ho,hcl⟩:=hx';refine wpAny_bind (wpAny_isInstance (T:="StopIteration") (b:=true) ⟨o,ho,hcl⟩ isSubtype_stop ?_);exact wpAny_pure ⟨rfl,I.turned4 (t':=s.toks) hf fun c o' hc' q=>he' c o' (fun z=>hc' (by simp [z])) q⟩
 self:=fun _ _ _ _ _ st h=>let ⟨⟨_,he⟩,_⟩:=st;wpAny_pyIter_enum he h
section
variable {X:Cx}
theorem call_isinst:CallR X (.builtin "isinstance") (fun xs H Q=>∃x T t b,xs=[x,.ty T]/\TyOf X.K H x t/\PySem.W.kitOne X.K t (.type T)=some b/\Q (.bl b) H):=by
 intro pins s σ H xs us Q I r h;obtain ⟨x,T,t,b,rfl,ty,e,q⟩:=h;obtain ⟨u,c,rfl,rx,rc⟩:=r.two;obtain rfl:c=Value.type T:=rc;exact isinst_ok I rx ty e fun tk=>⟨.bl b,H,I.tok tk,rfl,q⟩
theorem call_all(hc:X.calm=true):CallR X (.builtin "all") (fun xs H Q=>∃(l:Addr) (bs:List Bool),xs=[.ref l]/\SqL X.K H l (bs.map V.bl)/\Q (.bl (bs.all id)) H):=by
 intro pins s σ H xs us Q I r h;obtain ⟨l,bs,rfl,hq,q⟩:=h;obtain ⟨u,rfl,ru⟩:=r.one;cases ru;obtain ⟨its,rv,p,hz⟩:=I.list hq;have hl:=rv.length;have hli:l<s.heap.objs.size:=by obtain ⟨o,e,_⟩:=p.isList;exact Heap.lt_size e
 have hne:l≠s.heap.objs.size:=Nat.ne_of_lt hli;have val:∀(i:Nat) (v:Value),its.toArray[i]?=some v->∃c,bs[i]?=some c/\v=.bool c:=fun i v hv=>by
  have hv':its[i]?=some v:=by simpa using hv
  have hi:i<bs.length:=by
   have:=(List.getElem?_eq_some_iff.mp hv').1;rw [List.length_map] at hl;lia
  obtain ⟨w',h1,h2⟩:=rv.get (i:=i) (x:=.bl bs[i]) (by rw [List.getElem?_map,List.getElem?_eq_getElem hi];rfl)
  rw [hv'] at h1;cases h1;exact ⟨bs[i],List.getElem?_eq_getElem hi,h2⟩
 have hsz:its.toArray.size=bs.length:=by rw [List.size_toArray,<- hl,List.length_map]
 refine call_all_walk (wpAny_pyIter_list p.isList ⟨s.heap.objs.size,_,_,_,_,_,fun i=>bs.getD i false,rfl,Walks.list (A:=X.A.in1) (I.ok.hd hc) s.heap.objs.size l hne its.toArray,⟨⟨_,Heap.get?_push_size _ rfl,rfl,rfl⟩,p.isList.push _⟩,fun i v s' Q' E' hv hq'=>?_,fun h' tk hk=>?_⟩)
 ·obtain ⟨c,h1,rfl⟩:=val i v hv
  refine wpAny_truthy_bool ?_;have eb:bs.getD i false=c:=by rw [List.getD_eq_getElem?_getD,h1];rfl
  have hq2:Q' (bs.getD i false) s':=hq';rw [eb] at hq2;exact hq2
 ·have e:(List.range its.toArray.size).all (fun i=>bs.getD i false)=bs.all id:=by
   rw [hsz,Bool.eq_iff_iff,List.all_eq_true,List.all_eq_true];constructor
   ·intro h b hb
    obtain ⟨i,hi,rfl⟩:=List.mem_iff_getElem.mp hb;have:=h i (List.mem_range.mpr hi)
    rwa [List.getD_eq_getElem?_getD,List.getElem?_eq_getElem hi] at this
   ·intro h i hi
    have hi':=List.mem_range.mp hi;rw [List.getD_eq_getElem?_getD,List.getElem?_eq_getElem hi'];exact h _ (List.getElem_mem hi')
  rw [e];refine ⟨.bl (bs.all id),H,?_,rfl,q⟩;exact I.kept (t':=tk) fun b o hb=>hk b o (by simp;exact Nat.ne_of_lt (Heap.lt_size hb)) (Heap.get?_push_of_some _ hb)
end
end L2
namespace L2
open PySem PySem.Spec PyProof.Rows
section
variable {prog:Program}{w:World}{A:Around}{E:Value->Shared->Prop}{s:Shared}
end
end L2
namespace L2
open PySem PySem.Spec PyProof.Rows
section
variable {prog:Program}{w:World}{A:Around}{E:Value->Shared->Prop}{s:Shared}
end
namespace F
end F
section
variable {prog:Program}{w:World}{K:Type}[DecidableEq K]{knd:KeyKind prog w K}{A:Around}{E:Value->Shared->Prop}{s:Shared}
end
end L2
namespace L2
open PySem PySem.Spec PyProof.Rows
theorem noFill_tuple_mul:fillsNumberSlot (.type "tuple") "mul"=pure false:=
 PySem.fillsNumberSlot_seq (id:="tuple.__mul__") (r:=some (.builtin "tuple.__rmul__")) PySem.F.slot_tuple_mul.lookup (by decide +kernel) PySem.F.slot_tuple_rmul.lookup (by decide +kernel)
theorem repeat_tuple:seqRepeat? (.type "tuple")=pure (some (.builtin "tuple.__mul__")):=by
 unfold seqRepeat?;rw [PySem.seqSlot_of (T:="tuple") (name:="__mul__") (id:="tuple.__mul__") PySem.F.slot_tuple_mul.lookup (by decide +kernel),PySem.seqSlot_of (T:="tuple") (name:="__rmul__") (id:="tuple.__rmul__") PySem.F.slot_tuple_rmul.lookup (by decide +kernel)]
 rfl
theorem int_rmul_tuple(a:Int)(t:Tok)(l:Addr)(items:Array Value)(n:Nat)(dd:Option Addr)(sl:Array (Option Value)):
  Meets (Builtin.«int.__rmul__» ⟨[.int a t,.ref l],[]⟩) (fun _ R s=>s.heap.get? l=some { cls:=.type "tuple",dict:=dd,data:=.seq items n,slots:=sl }/\R (.ok (.ret Value.notImplemented)) s):=
 .of_wp fun prog w A R s h=>by obtain ⟨hp,g,d,tk,os⟩:=s;obtain ⟨hl,h⟩:=h;wp_walk;exact ⟨_,rfl,h⟩
theorem tuple_mul_many(l:Addr)(items:Array Value)(n:Nat)(dd:Option Addr)(sl:Array (Option Value))(x:Int)(u:Tok)(hx:1<x)(hx2:x<=1000)(hi:items.size<=1000)(h0:items.isEmpty=false):
  Meets (Builtin.«tuple.__mul__» ⟨[.ref l,.int x u],[]⟩) (fun _ R s=>s.heap.get? l=some { cls:=.type "tuple",dict:=dd,data:=.seq items n,slots:=sl }/\
   R (.ok (.ret (.ref s.heap.objs.size))) { s with heap:=s.heap.push { cls:=.type "tuple",data:=.seq ((List.replicate x.toNat items).foldl (·++·) #[]) } }):=
 .of_wp fun prog w A R s h=>by
  obtain ⟨hp,g,d,tk,os⟩:=s;obtain ⟨hl,h⟩:=h;have f1:=AutoSeq1.idx_int;have f2:=AutoSeq1.sub_tuple_tuple;have g1:(decide (x < -(2 ^ 63))||decide (x>=2 ^ 63))=false:=by simp;lia
  have g2:(items.isEmpty||x==1)=false:=by rw [h0];simp;lia
  have g3:(decide (x<=0)||items.isEmpty)=false:=by rw [h0];simp;lia
  have hm:(items.size:Int)*x<=1000000:=by
   have a1:(items.size:Int)*x<=1000*x:=Int.mul_le_mul_of_nonneg_right (by lia) (by lia)
   lia
  have hm2:¬((items.size:Int)*x>(2 ^ 63-1) / 8):=by lia
  have hm3:Builtin.Tuple.tupleTooMany ((items.size:Int)*x)=false:=by
   unfold Builtin.Tuple.tupleTooMany;have:(1000000:Int)<=(sizeLine:Int):=by decide
   exact decide_eq_false (by lia)
  wp_walk using wpAny_loadPart' hl
  try simp only [g1,Bool.false_eq_true,if_false]
  wp_walk using wpAny_loadPart' hl
  try simp only [g2,Bool.false_eq_true,if_false]
  wp_walk using wpAny_loadPart' hl
  try simp only [g3,Bool.false_eq_true,if_false]
  wp_walk using wpAny_loadPart' hl
  rw [if_neg hm2];simp only [hm3,Bool.false_eq_true,if_false];unfold Builtin.Tuple.tupleExact;have hlen:((List.replicate x.toNat items).foldl (·++·) #[]).toList.length<=sizeLine:=by
   have e:∀(k:Nat) (acc:Array Value),((List.replicate k items).foldl (·++·) acc).size=acc.size+k*items.size:=by
    intro k
    induction k with
    |zero=>intro acc;simp
    |succ k ih=>intro acc;rw [List.replicate_succ,List.foldl_cons,ih,Array.size_append,Nat.succ_mul];lia
   rw [Array.length_toList,e];have:x.toNat*items.size<=1000*1000:=Nat.mul_le_mul (by lia) hi
   have h2:(1000*1000:Nat)<=sizeLine:=by decide
   simp only [List.size_toArray,List.length_nil] at *;lia
  refine wpAny_bind (wpAny_newTuple (wpAny_pure ⟨_,rfl,?_⟩) hlen);simpa using h
theorem tuple_mul_one(l:Addr)(items:Array Value)(n:Nat)(dd:Option Addr)(sl:Array (Option Value))(u:Tok):
  Meets (Builtin.«tuple.__mul__» ⟨[.ref l,.int 1 u],[]⟩) (fun _ R s=>s.heap.get? l=some { cls:=.type "tuple",dict:=dd,data:=.seq items n,slots:=sl }/\R (.ok (.ret (.ref l))) s):=
 .of_wp fun prog w A R s h=>by
  obtain ⟨hp,g,d,tk,os⟩:=s;obtain ⟨hl,h⟩:=h;have f1:=AutoSeq1.idx_int;have f2:=AutoSeq1.sub_tuple_tuple;have g1:(decide ((1:Int) < -(2 ^ 63))||decide ((1:Int)>=2 ^ 63))=false:=by decide
  have g2:(items.isEmpty||(1:Int)==1)=true:=by simp
  wp_walk using wpAny_loadPart' hl
  try simp only [g1,Bool.false_eq_true,if_false]
  wp_walk using wpAny_loadPart' hl
  try simp only [g2,if_true]
  wp_walk using wpAny_loadPart' hl
  all_goals first|exact ⟨_,rfl,h⟩|skip
theorem tuple_mul_none(l:Addr)(items:Array Value)(n:Nat)(dd:Option Addr)(sl:Array (Option Value))(x:Int)(u:Tok)(hx:x<=0)(hx2:-1000<=x)(h0:items.isEmpty=false):
  Meets (Builtin.«tuple.__mul__» ⟨[.ref l,.int x u],[]⟩) (fun _ R s=>s.heap.get? l=some { cls:=.type "tuple",dict:=dd,data:=.seq items n,slots:=sl }/\
   R (.ok (.ret (.ref s.heap.objs.size))) { s with heap:=s.heap.push { cls:=.type "tuple",data:=.seq #[] } }):=
 .of_wp fun prog w A R s h=>by
  obtain ⟨hp,g,d,tk,os⟩:=s;obtain ⟨hl,h⟩:=h;have f1:=AutoSeq1.idx_int;have f2:=AutoSeq1.sub_tuple_tuple;have g1:(decide (x < -(2 ^ 63))||decide (x>=2 ^ 63))=false:=by simp;lia
  have g2:(items.isEmpty||x==1)=false:=by rw [h0];simp;lia
  have g3:(decide (x<=0)||items.isEmpty)=true:=by simp [hx]
  wp_walk using wpAny_loadPart' hl
  try simp only [g1,Bool.false_eq_true,if_false]
  wp_walk using wpAny_loadPart' hl
  try simp only [g2,Bool.false_eq_true,if_false]
  wp_walk using wpAny_loadPart' hl
  try simp only [g3,if_true]
  all_goals exact ⟨_,rfl,h⟩
section
variable {prog:Program}{w:World}{A:Around}{E:Value->Shared->Prop}{s:Shared}
theorem mul_tuple{l:Addr}{its:List Value}{k:Int}{u:Tok}{Q:Value->Shared->Prop}(ht:s.heap.IsTuple l its.toArray)(h0:its≠[])(hk0:0<=k)(hk:k<=1000)(hi:its.length<=1000)
  (h1:k=1->Q (.ref l) s) (h2:k≠1->Q (.ref s.heap.objs.size) { s with heap:=s.heap.push { cls:=.type "tuple",data:=.seq (List.replicate k.toNat its).flatten.toArray } }):
  wpAny (model prog w) A (binaryOp .Mult (.ref l) (.int k u)) Q E s:=by
 obtain ⟨⟨cls,dd,data,sl⟩,e,hc,n,hd⟩:=ht;simp only at hc hd;subst hc hd;have he:its.toArray.isEmpty=false:=by cases its with|nil=>exact absurd rfl h0|cons a r=>rfl
 refine wpAny_binaryOp_repeat_ref (T:="tuple") (U:="int") (by decide) ⟨_,e,rfl⟩ (fun s'=>typeIs_int s' k u) noFill_tuple_mul PySem.F.fills_int_mul PySem.F.slot_int_rmul repeat_tuple PySem.F.slot_int_index.lookup
  (call_meets PySem.F.slot_int_rmul (typeIs_int s k u) PySem.F.entry_int_rmul (PySem.F.args_int_rmul_2 _ _) (int_rmul_tuple k u l its.toArray n dd sl) ⟨e,rfl,⟨_,e,rfl⟩,?_⟩)
 by_cases hk1:k=1
 ·subst hk1
  exact call_meets PySem.F.slot_tuple_mul ⟨_,e,rfl⟩ PySem.F.entry_tuple_mul (PySem.F.args_tuple_mul_2 _ _) (tuple_mul_one l its.toArray n dd sl u) ⟨e,h1 rfl⟩
 ·have h2':=h2 hk1
  by_cases hk2:k<=0
  ·refine call_meets PySem.F.slot_tuple_mul ⟨_,e,rfl⟩ PySem.F.entry_tuple_mul (PySem.F.args_tuple_mul_2 _ _) (tuple_mul_none l its.toArray n dd sl k u hk2 (by lia) he) ⟨e,?_⟩
   have ek:k.toNat=0:=by lia
   rw [ek] at h2';exact h2'
  ·refine call_meets PySem.F.slot_tuple_mul ⟨_,e,rfl⟩ PySem.F.entry_tuple_mul (PySem.F.args_tuple_mul_2 _ _) (tuple_mul_many l its.toArray n dd sl k u (by lia) hk (by rw [List.size_toArray];exact hi) he) ⟨e,?_⟩
   have ef:∀(m:Nat) (acc:List Value),List.foldl (fun x1 x2=>x1++x2) acc.toArray (List.replicate m its.toArray)=(acc++(List.replicate m its).flatten).toArray:=by
    intro m
    induction m with
    |zero=>intro acc;simp
    |succ m ih=>
     intro acc;have e1:acc.toArray++its.toArray=(acc++its).toArray:=by simp
     rw [List.replicate_succ,List.foldl_cons,e1,ih,List.replicate_succ,List.flatten_cons,List.append_assoc]
   have e0:=ef k.toNat [];rw [List.nil_append] at e0;rw [e0];exact h2'
end
end L2
namespace L2
open PySem PySem.Spec PyProof.Rows
section
variable {X:Cx}
theorem op_catT0:OpR X (binaryOp .Add) (fun x y H Q=>∃a b ys,x=.ref a/\y=.ref b/\SqT X.K H a []/\SqT X.K H b ys/\Q (.ref b) H):=by
 intro pins s σ H x y v u Q I rx ry h;obtain ⟨a,b,ys,rfl,rfl,ha,hb,q⟩:=h;cases rx;cases ry;obtain ⟨its,r1,p1,_⟩:=I.tuple ha;obtain ⟨its2,r2,p2,_⟩:=I.tuple hb;obtain rfl:its=[]:=r1.zero;obtain ⟨⟨cls,dd,data,sl⟩,ho,hc,n,hd⟩:=id p1;obtain ⟨⟨cls2,dd2,data2,sl2⟩,ho2,hc2,n2,hd2⟩:=id p2;simp only at hc hd hc2 hd2;subst hc hd hc2 hd2
 exact concat_meets ⟨_,ho,rfl⟩ ⟨_,ho2,rfl⟩ noFill_tuple_add seq_tuple_add PySem.F.slot_tuple_add PySem.F.entry_tuple_add (PySem.F.args_tuple_add_2 _ _)
  (tuple_addW0 a b #[] its2.toArray n n2 dd dd2 sl sl2 rfl) ⟨ho,ho2,⟨.ref b,H,I,rfl,q⟩⟩
theorem op_fdivB{n:Nat}(hn:n.log2<2000)(hn0:0<n):OpR X (binaryOp .FloorDiv) (rI (fun _ j=>j=(n:Int)) fun i j=>.int (i / j)):=opI fun i j _ _ _ _ _ hc q=>by
 subst hc;refine floordiv_int (by lia) ?_ (.inl (PyProof.noPylong_of_log2 (by simpa using Nat.lt_trans hn (by decide))))
 rw [Int.fdiv_eq_ediv_of_nonneg _ (by lia)]
 exact q
end
end L2
namespace Tw
open PySem L2
end Tw
namespace L2
open PySem PySem.Spec PyProof.Rows
section
variable {X:Cx}
end
end L2
namespace L2
open PySem PySem.Spec PyProof.Rows
noncomputable def CXD(P:Program)(w:World)(C:Addr):CXT:=fun outer H s E e s'=>∃(ea:Addr) (H':Hp) (B:Heap) (a0:Value),e=.ref ea/\s'.os=s.os/\AllBare s'.gens/\Un (frs outer) [] H H' s.heap s'.heap/\HOk P w H' s'.heap/\
 Heap.FlyingW B outer ea (.ref C) a0 s'.heap/\(∀b u,H' b=some u->∃o,B.get? b=some o)/\(∀b o,s.heap.get? b=some o->b∉frs outer->∃o',B.get? b=some o')/\E (.ref C) none H'
theorem hok_fly{P:Program}{w:World}{H:Hp}{h h' B:Heap}(hok:HOk P w H h)(k:B.StaysIn h)(k':B.StaysIn h')(sT:∀b u,H b=some u->∃o,B.get? b=some o):HOk P w H h':=fun a o e=>
 (hok a o e).stay (fun b u hb q=>by
  obtain ⟨v,hv⟩:∃v,B.get? b=some v:=by
   rcases hb with rfl|z
   ·exact sT _ _ e
   ·exact sT _ _ z
  have:=k b v hv;rw [q] at this;cases this;exact k' b _ hv) (fun _ q=>q) fun _ _ q=>q
theorem un_fly{fs:List Addr}{H H':Hp}{h h1 h2 B:Heap}(un:Un fs [] H H' h h1)(k1:B.StaysIn h1)(k2:B.StaysIn h2)(up:h1.UpToSlots h2)(sA:∀b o,h.get? b=some o->b∉fs->∃o',B.get? b=some o')
  (nf:∀b∈fs,∀o,h.get? b=some o->∀vs,o.data≠.fields vs) (fr:∀b∈fs,H b=none):Un fs [] H H' h h2 where
 keep:=fun b o q n hb hx=>by
  have q1:=un.keep b o q n hb hx;obtain ⟨o',ho'⟩:=sA b o q hb;have:=k1 b o' ho';rw [q1] at this;cases this;exact k2 b _ ho'
 slot:=fun b o q n hb hx=>by
  obtain ⟨sl,q1⟩:=un.slot b o q n hb hx;obtain ⟨sl2,q2⟩:=up b _ q1 (nf b hb o q);exact ⟨sl2,q2⟩
 free:=un.free
 there:=fun b o q hx=>by
  by_cases hb:b∈fs
  ·obtain ⟨sl,q1⟩:=un.slot b o q (fr b hb) hb hx
   obtain ⟨sl2,q2⟩:=up b _ q1 (nf b hb o q);exact ⟨_,q2⟩
  ·obtain ⟨o',ho'⟩:=sA b o q hb
   exact ⟨o',k2 b o' ho'⟩
 tups:=un.tups
 frzs:=un.frzs
 tbls:=un.tbls
section
variable {P:Program}{w:World}{K:PySem.W.Frag}{mg:Str->Option Value}{base:Heap}{N:List Str}{qual:Str}{scope:Scope}{f C:Addr}{cd:Value}{A:Around}{outer:List Env}{s0:Shared}{H0:Hp}{E:XK}
theorem frs_cons{env:Env}{L:Addr}{l:List Env}(h:env.frame=some L):frs (env::l)=L::frs l:=by unfold frs;rw [List.filterMap_cons,h]
theorem passD:Passes (CXD P w C) (cxOf (CXD P w C) P w K mg base N qual scope f cd A outer s0 H0 E) E:=by
 intro pins σ H s e s' I hx;obtain ⟨ea,H',B,a0,rfl,hos,hb,un,hok,hfl,sT,sA,hE⟩:=hx;have hsk:(cxOf (CXD P w C) P w K mg base N qual scope f cd A outer s0 H0 E).stack=envOfC qual scope s0.heap.objs.size f cd::outer:=rfl;have hfr:(envOfC qual scope s0.heap.objs.size f cd).frame=some s0.heap.objs.size:=rfl;have hfs:frs (envOfC qual scope s0.heap.objs.size f cd::outer)=s0.heap.objs.size::frs outer:=frs_cons hfr;rw [hsk] at un hfl sA;show wpAny (model P w) (A.deeper (envOfC qual scope s0.heap.objs.size f cd)) (leaving (envOfC qual scope s0.heap.objs.size f cd) (.ref ea)) (fun _ s''=>CXD P w C outer H0 s0 E (.ref ea) s'') (fun e' s''=>CXD P w C outer H0 s0 E e' s'') s';refine wpAny_leaves_onW I.ok.frames hfr hfl fun h' hfl' hup=>?_;have u1:Un (frs outer) [] H0 H s0.heap s.heap:=I.base;have nofr:∀{b:Addr} {o:Obj},s0.heap.get? b=some o->b∉frs outer->b∉frs (envOfC qual scope s0.heap.objs.size f cd::outer):=fun {b o} q hb z=>by
  rw [hfs] at z;rcases List.mem_cons.mp z with e|z
  ·exact Nat.lt_irrefl _ (e▸Heap.lt_size q)
  ·exact hb z
 have un2:Un (frs (envOfC qual scope s0.heap.objs.size f cd::outer)) [] H H' s.heap h':=by
  refine un_fly un hfl.1 hfl'.1 hup sA (fun b hb o q vs=>?_) fun b hb=>?_
  ·obtain ⟨_,o',ho',hd⟩:=I.stack.mem (show b∈_ from hb)
   rw [q] at ho';cases ho';exact hd vs
  ·exact I.stkFree b hb
 refine ⟨ea,H',B,a0,rfl,hos.trans I.os,hb,?_,hok_fly hok hfl.1 hfl'.1 sT,hfl',sT,fun b o q hb=>?_,hE⟩
 ·refine ⟨fun b o q n hb hx=>?_,fun b o q n hb hx=>?_,fun b o q n hx=>?_,fun b o q hx=>?_,fun b xs q=>un2.tups b xs (u1.tups b xs q),fun b o u q=>un2.frzs b o u (u1.frzs b o u q),fun b ps q=>?_⟩
  ·exact un2.keep b o (u1.keep b o q n hb hx) (u1.free b o q n hx) (nofr q hb) hx
  ·obtain ⟨sl,q1⟩:=u1.slot b o q n hb hx
   obtain ⟨sl2,q2⟩:=un2.slot b _ q1 (u1.free b o q n hx) (by rw [hfs];exact List.mem_cons_of_mem _ hb) hx
   exact ⟨sl2,q2⟩
  ·obtain ⟨o1,q1⟩:=u1.there b o q hx
   exact un2.free b o1 q1 (u1.free b o q n hx) hx
  ·obtain ⟨o1,q1⟩:=u1.there b o q hx
   exact un2.there b o1 q1 hx
  ·obtain ⟨m1,e1⟩:=u1.tbls b ps q
   obtain ⟨m2,e2⟩:=un2.tbls b _ e1;exact ⟨m1++m2,by rw [e2,Array.append_assoc]⟩
 ·obtain ⟨o1,q1⟩:=u1.there b o q (by simp)
  exact sA b o1 q1 (nofr q hb)
end
section
variable {X:Cx}{pins:List (Addr×Obj)}{σ:St}{H:Hp}{s:Shared}{e:Value}
end
end L2
namespace L3
open PySem L2
inductive D where
 |non|bl (b:Bool)|int (i:Int)|str (x:Str)|ty (n:String)|ref (a:Addr)|tup (xs:List D)|lst (xs:List D)|mt (xs:List D)|ml (xs:List D)
noncomputable def TpD(_:PySem.W.Frag)(H:Hp)(p:Addr)(vs:List V):Prop:=H p=some (.tup vs)
noncomputable def TpM(K:PySem.W.Frag)(p:Addr)(vs:List V):Prop:=∃(o:Obj) (its:Array Value) (n:Nat),K.lookup p=some o/\o.cls=.type "tuple"/\o.data=.seq its n/\its.size<=sizeLine/\Vals vs its.toList
noncomputable def FzD(K:PySem.W.Frag)(H:Hp)(p:Addr)(vs:List V):Prop:=
 ∃o,H p=some (.frz o (.lst vs))
noncomputable def FzK(K:PySem.W.Frag)(H:Hp)(p:Addr)(vs:List V):Prop:=(∃o,H p=some (.frz o (.lst vs)))\/∃(o:Obj) (its:Array Value) (n:Nat),K.lookup p=some o/\o.cls=.type "list"/\o.dict=none/\o.data=.seq its n/\its.size<=sizeLine/\Vals vs its.toList
theorem FzK.sq{K:PySem.W.Frag}{H:Hp}{p:Addr}{vs:List V}(h:FzK K H p vs):SqL K H p vs:=h.imp (fun ⟨o,e⟩=>.inr ⟨o,e⟩) fun x=>x
theorem TpD.sq{K:PySem.W.Frag}{H:Hp}{p:Addr}{vs:List V}(h:TpD K H p vs):SqT K H p vs:=.inl (.inl h)
theorem TpM.sq{K:PySem.W.Frag}{H:Hp}{p:Addr}{vs:List V}(h:TpM K p vs):SqT K H p vs:=.inr h
theorem FzD.sq{K:PySem.W.Frag}{H:Hp}{p:Addr}{vs:List V}(h:FzD K H p vs):SqL K H p vs:=by
 obtain ⟨o,h⟩:=h;exact .inl (.inr ⟨o,h⟩)
mutual
noncomputable def Rp(K:PySem.W.Frag)(H:Hp):D->V->Prop
 |.non,v=>v=.non
 |.bl b,v=>v=.bl b
 |.int i,v=>v=.int i
 |.str x,v=>v=.str x
 |.ty n,v=>v=.ty n
 |.ref a,v=>v=.ref a
 |.tup xs,v=>∃p vs,v=.ref p/\TpD K H p vs/\Rps K H xs vs
 |.lst xs,v=>∃p vs,v=.ref p/\FzD K H p vs/\Rps K H xs vs
 |.mt xs,v=>∃p vs,v=.ref p/\TpM K p vs/\Rps K H xs vs
 |.ml xs,v=>∃p vs,v=.ref p/\FzK K H p vs/\Rps K H xs vs
noncomputable def Rps(K:PySem.W.Frag)(H:Hp):List D->List V->Prop
 |[],vs=>vs=[]
 |x::xs,vs=>∃v r,vs=v::r/\Rp K H x v/\Rps K H xs r
end
structure Imm(H H':Hp):Prop where
 tup:∀p vs,H p=some (.tup vs)->H' p=some (.tup vs)
 frz:∀p o u,H p=some (.frz o u)->H' p=some (.frz o u)
theorem Imm.refl{H:Hp}:Imm H H:=⟨fun _ _ e=>e,fun _ _ _ e=>e⟩
theorem TpD.mono{K:PySem.W.Frag}{H H':Hp}{p:Addr}{vs:List V}(i:Imm H H')(h:TpD K H p vs):TpD K H' p vs:=i.tup _ _ h
theorem FzK.mono{K:PySem.W.Frag}{H H':Hp}{p:Addr}{vs:List V}(i:Imm H H')(h:FzK K H p vs):FzK K H' p vs:=h.imp (fun ⟨o,e⟩=>⟨o,i.frz _ _ _ e⟩) fun x=>x
theorem FzD.mono{K:PySem.W.Frag}{H H':Hp}{p:Addr}{vs:List V}(i:Imm H H')(h:FzD K H p vs):FzD K H' p vs:=let ⟨o,e⟩:=h;⟨o,i.frz _ _ _ e⟩
mutual
theorem Rp.mono{K:PySem.W.Frag}{H H':Hp}(i:Imm H H'):∀{d:D} {v:V},Rp K H d v->Rp K H' d v
 |.non,_,h=>h
 |.bl _,_,h=>h
 |.int _,_,h=>h
 |.str _,_,h=>h
 |.ty _,_,h=>h
 |.ref _,_,h=>h
 |.tup _,_,h=>by
  obtain ⟨p,vs,e,t,r⟩:=h;exact ⟨p,vs,e,t.mono i,Rps.mono i r⟩
 |.lst _,_,h=>by
  obtain ⟨p,vs,e,t,r⟩:=h;exact ⟨p,vs,e,t.mono i,Rps.mono i r⟩
 |.mt _,_,h=>by
  obtain ⟨p,vs,e,t,r⟩:=h;exact ⟨p,vs,e,t,Rps.mono i r⟩
 |.ml _,_,h=>by
  obtain ⟨p,vs,e,t,r⟩:=h;exact ⟨p,vs,e,t.mono i,Rps.mono i r⟩
theorem Rps.mono{K:PySem.W.Frag}{H H':Hp}(i:Imm H H'):∀{ds:List D} {vs:List V},Rps K H ds vs->Rps K H' ds vs
 |[],_,h=>h
 |_::_,_,h=>by
  obtain ⟨v,r,e,a,b⟩:=h;exact ⟨v,r,e,Rp.mono i a,Rps.mono i b⟩
end
section
variable {K:PySem.W.Frag}{H H':Hp}
theorem Rps.nil:Rps K H [] []:=rfl
theorem Rps.cons{d:D}{v:V}{ds:List D}{vs:List V}(a:Rp K H d v)(b:Rps K H ds vs):Rps K H (d::ds) (v::vs):=⟨v,vs,rfl,a,b⟩
theorem Rps.length:∀{ds:List D} {vs:List V},Rps K H ds vs->ds.length=vs.length
 |[],_,h=>by cases h;rfl
 |_::_,_,h=>by obtain ⟨v,r,rfl,_,b⟩:=h;simp [b.length]
theorem Rps.get:∀{ds:List D} {vs:List V},Rps K H ds vs->∀{i:Nat} {d:D},ds[i]?=some d->∃v,vs[i]?=some v/\Rp K H d v
 |[],_,_,i,d,e=>by simp at e
 |x::xs,_,h,i,d,e=>by
  obtain ⟨v,r,rfl,a,b⟩:=h;cases i with
  |zero=>simp at e;subst e;exact ⟨v,by simp,a⟩
  |succ i=>simpa using b.get (by simpa using e)
theorem Rps.append:∀{ds es:List D} {vs ws:List V},Rps K H ds vs->Rps K H es ws->Rps K H (ds++es) (vs++ws)
 |[],_,_,_,h,g=>by cases h;exact g
 |_::_,_,_,_,h,g=>by
  obtain ⟨v,r,rfl,a,b⟩:=h;exact ⟨v,_,rfl,a,b.append g⟩
theorem Rps.take:∀{ds:List D} {vs:List V} (n:Nat),Rps K H ds vs->Rps K H (ds.take n) (vs.take n)
 |[],_,n,h=>by cases h;simp [Rps]
 |_::_,_,0,h=>rfl
 |_::_,_,n+1,h=>by
  obtain ⟨v,r,rfl,a,b⟩:=h;exact ⟨v,_,rfl,a,b.take n⟩
theorem Rps.drop:∀{ds:List D} {vs:List V} (n:Nat),Rps K H ds vs->Rps K H (ds.drop n) (vs.drop n)
 |[],_,n,h=>by cases h;simp [Rps]
 |_::_,_,0,h=>h
 |_::_,_,n+1,h=>by
  obtain ⟨v,r,rfl,a,b⟩:=h;exact b.drop n
theorem Rps.set{d:D}{v:V}(a:Rp K H d v):∀{ds:List D} {vs:List V} (i:Nat),Rps K H ds vs->Rps K H (ds.set i d) (vs.set i v)
 |[],_,_,h=>by cases h;rfl
 |_::_,_,0,h=>by obtain ⟨w,r,rfl,_,b⟩:=h;exact ⟨v,r,rfl,a,b⟩
 |_::_,_,i+1,h=>by obtain ⟨w,r,rfl,c,b⟩:=h;exact ⟨w,_,rfl,c,b.set a i⟩
theorem Rps.dropLast{ds:List D}{vs:List V}(h:Rps K H ds vs):Rps K H ds.dropLast vs.dropLast:=by
 rw [List.dropLast_eq_take,List.dropLast_eq_take,h.length];exact h.take _
theorem Rps.eraseIdx:∀{ds:List D} {vs:List V} (i:Nat),Rps K H ds vs->Rps K H (ds.eraseIdx i) (vs.eraseIdx i)
 |[],_,_,h=>by cases h;rfl
 |_::_,_,0,h=>by obtain ⟨w,r,rfl,_,b⟩:=h;exact b
 |_::_,_,i+1,h=>by obtain ⟨w,r,rfl,c,b⟩:=h;exact ⟨w,_,rfl,c,b.eraseIdx i⟩
theorem Rps.ints:∀{is:List Int} {vs:List V},vs=is.map V.int->Rps K H (is.map D.int) vs
 |[],_,e=>e
 |i::is,_,e=>by subst e;exact ⟨_,_,rfl,rfl,Rps.ints rfl⟩
end
inductive MO where
 |lst (xs:List D)
 |dK (kvs:List (Key×D))
 |dT (kvs:List (List Key×D))
 |ins (C:Addr) (fs:List (Str×D))
noncomputable abbrev Mem:=Addr->Option MO
noncomputable def Mem.upd(M:Mem)(a:Addr)(o:MO):Mem:=fun b=>if b=a then some o else M b
noncomputable def Mem.del(M:Mem)(a:Addr):Mem:=fun b=>if b=a then none else M b
noncomputable def Rkv{κ:Type}(K:PySem.W.Frag)(H:Hp):List (κ×D)->List (κ×V)->Prop:=Paired fun p q=>p.1=q.1/\Rp K H p.2 q.2
noncomputable def RepO(K:PySem.W.Frag)(H:Hp)(a:Addr):MO->Prop
 |.lst xs=>∃vs,H a=some (.lst vs)/\Rps K H xs vs
 |.dK kvs=>∃ws,H a=some (.dK ws)/\Rkv K H kvs ws
 |.dT kvs=>∃ws,H a=some (.dT ws)/\Rkv K H kvs ws
 |.ins C fs=>∃dx ws,H a=some (.ins C dx ws)/\Rkv K H fs ws
noncomputable def RepH(K:PySem.W.Frag)(H:Hp)(M:Mem):Prop:=∀a o,M a=some o->RepO K H a o
section
variable {K:PySem.W.Frag}{H H':Hp}{M:Mem}{a b:Addr}{o:MO}{u:HO}
@[simp] theorem Mem.upd_same:(M.upd a o) a=some o:=by simp [Mem.upd]
theorem Mem.upd_ne(h:b≠a):(M.upd a o) b=M b:=by simp [Mem.upd,h]
@[simp] theorem Mem.upd_upd {o':MO}:(M.upd a o).upd a o'=M.upd a o':=by funext c;simp [Mem.upd];split<;>rfl
@[simp] theorem Mem.upd_del:(M.upd a o).del a=M.del a:=by funext c;simp [Mem.upd,Mem.del];split<;>rfl
theorem Mem.del_none(h:M a=none):M.del a=M:=by
 funext c;simp only [Mem.del];split
 ·rename_i e;rw [e,h]
 ·rfl
theorem Mem.ne{o:MO}(h:M a=some o)(h':M b=none):a≠b:=by intro e;subst e;rw [h] at h';cases h'
theorem Rkv.mono{κ:Type}{kvs:List (κ×D)}{ws:List (κ×V)}(i:Imm H H')(h:Rkv K H kvs ws):Rkv K H' kvs ws:=Paired.mapP h fun _ _ z=>⟨z.1,z.2.mono i⟩
theorem RepO.obj(r:RepO K H a o):∃u,H a=some u:=by
 cases o with
 |lst xs=>obtain ⟨vs,e,_⟩:=r;exact ⟨_,e⟩
 |dK xs=>obtain ⟨vs,e,_⟩:=r;exact ⟨_,e⟩
 |dT xs=>obtain ⟨vs,e,_⟩:=r;exact ⟨_,e⟩
 |ins C fs=>obtain ⟨dx,vs,e,_⟩:=r;exact ⟨_,e⟩
theorem RepO.keep(r:RepO K H a o)(i:Imm H H')(e:H' a=H a):RepO K H' a o:=by
 cases o with
 |lst xs=>obtain ⟨vs,q,z⟩:=r;exact ⟨vs,e.trans q,z.mono i⟩
 |dK xs=>obtain ⟨vs,q,z⟩:=r;exact ⟨vs,e.trans q,z.mono i⟩
 |dT xs=>obtain ⟨vs,q,z⟩:=r;exact ⟨vs,e.trans q,z.mono i⟩
 |ins C fs=>obtain ⟨dx,vs,q,z⟩:=r;exact ⟨dx,vs,e.trans q,z.mono i⟩
theorem RepH.fresh(r:RepH K H M)(h:H a=none):M a=none:=by
 cases e:M a with
 |none=>rfl
 |some o=>obtain ⟨u,q⟩:=(r a o e).obj;rw [h] at q;cases q
noncomputable def Loose:Option HO->Prop
 |some (.tup _)=>False
 |some (.frz _ _)=>False
 |_=>True
theorem Imm.upd(h:Loose (H a)):Imm H (upd H a u):=by
 refine ⟨fun p vs e=>?_,fun p o v e=>?_⟩
 ·rw [upd_ne];exact e
  rintro rfl;rw [e] at h;exact h
 ·rw [upd_ne];exact e
  rintro rfl;rw [e] at h;exact h
theorem Imm.new(h:H a=none):Imm H (L2.upd H a u):=Imm.upd (by rw [h];trivial)
theorem RepO.loose(r:RepO K H a o):Loose (H a):=by
 cases o with
 |lst xs=>obtain ⟨vs,e,_⟩:=r;rw [e];trivial
 |dK xs=>obtain ⟨vs,e,_⟩:=r;rw [e];trivial
 |dT xs=>obtain ⟨vs,e,_⟩:=r;rw [e];trivial
 |ins C fs=>obtain ⟨dx,vs,e,_⟩:=r;rw [e];trivial
theorem RepH.new(r:RepH K H M)(h:H a=none):RepH K (L2.upd H a u) M:=fun b o e=>by
 obtain ⟨v,q⟩:=(r b o e).obj;exact (r b o e).keep (Imm.new h) (upd_ne (ne_of_none q h))
theorem RepH.put(r:RepH K H M)(h:Loose (H a))(n:RepO K (L2.upd H a u) a o):RepH K (L2.upd H a u) (M.upd a o):=fun b p e=>by
 by_cases hb:b=a
 ·subst hb;rw [Mem.upd_same] at e;cases e;exact n
 ·rw [Mem.upd_ne hb] at e
  exact (r b p e).keep (Imm.upd h) (upd_ne hb)
theorem RepH.keep(r:RepH K H M)(i:Imm H H')(e:∀b o,M b=some o->H' b=H b):RepH K H' M:=fun b o q=>(r b o q).keep i (e b o q)
structure Frm(M:Mem)(H:Hp)(M':Mem)(H':Hp):Prop where
 keep:∀b u,H b=some u->M b=none->H' b=some u/\M' b=none
variable {M':Mem}
theorem Frm.refl:Frm M H M H:=⟨fun _ _ e n=>⟨e,n⟩⟩
theorem Frm.trans{M1 M2:Mem}{H1 H2:Hp}(x:Frm M H M1 H1)(y:Frm M1 H1 M2 H2):Frm M H M2 H2:=⟨fun b u e n=>let ⟨e1,n1⟩:=x.keep b u e n;y.keep b u e1 n1⟩
theorem Frm.imm(f:Frm M H M' H')(r:RepH K H M):Imm H H':=by
 have key:∀b u,H b=some u->¬Loose (some u)->H' b=some u:=fun b u e n=>(f.keep b u e (by
  cases q:M b with
  |none=>rfl
  |some o=>exact absurd (by rw [<- e];exact (r b o q).loose) n)).1
 exact ⟨fun p vs e=>key p _ e (fun z=>z),fun p o u e=>key p _ e (fun z=>z)⟩
theorem Frm.new(h:H a=none):Frm M H M (L2.upd H a u):=⟨fun b v e n=>⟨by rw [upd_ne (ne_of_none e h)];exact e,n⟩⟩
theorem Frm.put(h:H a=none\/∃o,M a=some o):Frm M H (M.upd a o) (L2.upd H a u):=⟨fun b v e n=>by
 have hb:b≠a:=by
  rintro rfl
  rcases h with h|⟨o,h⟩
  ·rw [h] at e;cases e
  ·rw [h] at n;cases n
 exact ⟨by rw [L2.upd_ne hb];exact e,by rw [Mem.upd_ne hb];exact n⟩⟩
theorem Frm.del(h:∃o,M a=some o):Frm M H (M.del a) (L2.upd H a u):=⟨fun b v e n=>by
 have hb:b≠a:=by
  rintro rfl
  obtain ⟨o,h⟩:=h;rw [h] at n;cases n
 refine ⟨by rw [L2.upd_ne hb];exact e,?_⟩
 unfold Mem.del;rw [if_neg hb];exact n⟩
theorem Rp.mf{d:D}{v:V}(x:Rp K H d v)(r:RepH K H M)(f:Frm M H M' H'):Rp K H' d v:=x.mono (f.imm r)
theorem Rps.mf{d:List D}{v:List V}(x:Rps K H d v)(r:RepH K H M)(f:Frm M H M' H'):Rps K H' d v:=x.mono (f.imm r)
end
end L3
namespace L3
open PySem L2
noncomputable abbrev Dl:=List (Option D)
noncomputable abbrev DK:=D->Mem->Prop
noncomputable abbrev dTE:=Dl->Mem->DK->Prop
noncomputable abbrev dTT:=Dl->Mem->(Bool->Mem->Prop)->Prop
noncomputable abbrev dTA:=Dl->Mem->(List D->Mem->Prop)->Prop
structure RepS(K:PySem.W.Frag)(H:Hp)(δ:Dl)(σ:St):Prop where
 len:δ.length=σ.length
 get:∀(i:Nat) (d:D),δ[i]?=some (some d)->∃v,σ[i]?=some (some v)/\Rp K H d v
theorem RepS.mono{K:PySem.W.Frag}{H H':Hp}{δ:Dl}{σ:St}(r:RepS K H δ σ)(i:Imm H H'):RepS K H' δ σ:=
 ⟨r.len,fun j d e=>by obtain ⟨v,h1,h2⟩:=r.get j d e;exact ⟨v,h1,h2.mono i⟩⟩
theorem RepS.set{K:PySem.W.Frag}{H:Hp}{δ:Dl}{σ:St}{i:Nat}{d:D}{v:V}(r:RepS K H δ σ)(h:Rp K H d v):RepS K H (δ.set i (some d)) (σ.set i (some v)):=by
 refine ⟨by simp [r.len],fun j e q=>?_⟩
 rw [List.getElem?_set] at q ⊢
 by_cases hij:i=j
 ·rw [if_pos hij] at q ⊢
  by_cases hl:i<δ.length
  ·rw [if_pos (by rw [<- r.len];exact hij▸hl)]
   rw [if_pos (hij▸hl)] at q;cases q;exact ⟨v,rfl,h⟩
  ·rw [if_neg (hij▸hl)] at q;cases q
 ·rw [if_neg hij] at q ⊢
  exact r.get j e q
structure SR(X:Cx)(B:Mem)(δ:Dl)(M:Mem)(σ:St)(H:Hp):Prop where
 i0:Frm B X.H₀ M H
 rh:RepH X.K H M
 rs:RepS X.K H δ σ
theorem SR.go{X:Cx}{B:Mem}{δ:Dl}{M M':Mem}{σ:St}{H H':Hp}(s:SR X B δ M σ H)(rh:RepH X.K H' M')(i:Frm M H M' H'):SR X B δ M' σ H':=⟨s.i0.trans i,rh,s.rs.mono (i.imm s.rh)⟩
noncomputable def Up(K:PySem.W.Frag)(M:Mem)(H:Hp)(QQ:DK)(Q:VK):Prop:=∀d M',QQ d M'->∀v H',RepH K H' M'->Frm M H M' H'->Rp K H' d v->Q v H'
noncomputable def UpT(K:PySem.W.Frag)(M:Mem)(H:Hp)(QQ:Bool->Mem->Prop)(Q:Bool->Hp->Prop):Prop:=∀b M',QQ b M'->∀H',RepH K H' M'->Frm M H M' H'->Q b H'
noncomputable def UpA(K:PySem.W.Frag)(M:Mem)(H:Hp)(QQ:List D->Mem->Prop)(Q:List V->Hp->Prop):Prop:=∀ds M',QQ ds M'->∀vs H',RepH K H' M'->Frm M H M' H'->Rps K H' ds vs->Q vs H'
theorem Up.go{K:PySem.W.Frag}{M M1:Mem}{H H1:Hp}{QQ:DK}{Q:VK}(u:Up K M H QQ Q)(i:Frm M H M1 H1):Up K M1 H1 QQ Q:=fun d M' q v H' a b c=>u d M' q v H' a (i.trans b) c
theorem UpT.go{K:PySem.W.Frag}{M M1:Mem}{H H1:Hp}{QQ:Bool->Mem->Prop}{Q:Bool->Hp->Prop}(u:UpT K M H QQ Q)(i:Frm M H M1 H1):UpT K M1 H1 QQ Q:=fun d M' q H' a b=>u d M' q H' a (i.trans b)
inductive liftE(X:Cx)(B:Mem)(T:dTE)(σ:St)(H:Hp)(Q:VK):Prop
 |mk (δ:Dl) (M:Mem) (QQ:DK) (s:SR X B δ M σ H) (h:T δ M QQ) (u:Up X.K M H QQ Q):liftE X B T σ H Q
inductive liftT(X:Cx)(B:Mem)(T:dTT)(σ:St)(H:Hp)(Q:Bool->Hp->Prop):Prop
 |mk (δ:Dl) (M:Mem) (QQ:Bool->Mem->Prop) (s:SR X B δ M σ H) (h:T δ M QQ) (u:UpT X.K M H QQ Q):liftT X B T σ H Q
inductive liftA(X:Cx)(B:Mem)(T:dTA)(σ:St)(H:Hp)(Q:List V->Hp->Prop):Prop
 |mk (δ:Dl) (M:Mem) (QQ:List D->Mem->Prop) (s:SR X B δ M σ H) (h:T δ M QQ) (u:UpA X.K M H QQ Q):liftA X B T σ H Q
noncomputable def DE(X:Cx)(B:Mem)(e:Expr)(T:dTE):Prop:=PE X e (liftE X B T)
noncomputable def DT(X:Cx)(B:Mem)(e:Expr)(T:dTT):Prop:=PT X e (liftT X B T)
noncomputable def DA(X:Cx)(B:Mem)(es:List Expr)(T:dTA):Prop:=PA X es (liftA X B T)
theorem pe_weak{X:Cx}{e:Expr}{t t':TE}(h:PE X e t)(w:∀σ H Q,t' σ H Q->t σ H Q):PE X e t':=fun pins s σ H Q I q=>h pins s σ H Q I (w σ H Q q)
theorem pt_weak{X:Cx}{e:Expr}{t t':TT}(h:PT X e t)(w:∀σ H Q,t' σ H Q->t σ H Q):PT X e t':=fun pins s σ H Q I q=>h pins s σ H Q I (w σ H Q q)
theorem pa_weak{X:Cx}{e:List Expr}{t t':TA}(h:PA X e t)(w:∀σ H Q,t' σ H Q->t σ H Q):PA X e t':=fun pos pins s σ H Q I q=>h pos pins s σ H Q I (w σ H Q q)
theorem ps_weak{X:Cx}{e:Stmt}{t t':TS}(h:PS X e t)(w:∀D σ H,t' D σ H->t D σ H):PS X e t':=fun pins s σ H D I q=>h pins s σ H D I (w D σ H q)
theorem pss_weak{X:Cx}{e:List Stmt}{t t':TS}(h:PSs X e t)(w:∀D σ H,t' D σ H->t D σ H):PSs X e t':=fun pins s σ H D I q=>h pins s σ H D I (w D σ H q)
noncomputable def dVar(i:Nat):dTE:=fun δ M Q=>match δ[i]? with
 |some (some d)=>Q d M
 |_=>False
noncomputable def dC(d:D):dTE:=fun _ M Q=>Q d M
section
variable {X:Cx}{B:Mem}{a b c:Expr}{ta tb tc:dTE}{pos:Pos}
theorem de_var{i:Nat}{x:Str}{pos:Pos}(hN:X.N[i]?=some x)(hv:Vis X.env.scope x)(hd:(x==("__debug__":Str))=false:=by decide)(hcd:(x==("__classdict__":Str))=false:=by decide):DE X B (.Name x pos) (dVar i):=by
 refine pe_weak (pe_var hN hv hd hcd) ?_
 rintro σ H Q ⟨δ,M,QQ,s,h,u⟩
 unfold dVar at h
 split at h
 ·rename_i d e
  obtain ⟨v,h1,h2⟩:=s.rs.get i d e;exact ⟨v,h1,u d M h v H s.rh Frm.refl h2⟩
 ·exact h.elim
theorem de_C{e:Expr}{v:V}{d:D}(h:PE X e (tC v))(r:∀H,Rp X.K H d v):DE X B e (dC d):=by
 refine pe_weak h ?_
 rintro σ H Q ⟨δ,M,QQ,s,h,u⟩
 exact u d M h v H s.rh Frm.refl (r H)
theorem de_int{i j pos}:DE X B (.Constant (.int i) j pos) (dC (.int i)):=de_C pe_int fun _=>rfl
theorem de_bl{i j pos}:DE X B (.Constant (.bool i) j pos) (dC (.bl i)):=de_C pe_bl fun _=>rfl
theorem de_non{j pos}:DE X B (.Constant .none j pos) (dC .non):=de_C pe_non fun _=>rfl
theorem de_str{i j pos}:DE X B (.Constant (.str i) j pos) (dC (.str i)):=de_C pe_str fun _=>rfl
theorem de_glob{x:Str}{v:V}{d:D}{u:Value}{pos:Pos}(hg:Gl X x)(hm:X.mg x=some u)(r:RelV v u)(q:∀H,Rp X.K H d v)(hd:(x==("__debug__":Str))=false:=by decide):DE X B (.Name x pos) (dC d):=de_C (pe_glob hg hm r hd) q
noncomputable abbrev dR2:=D->D->Mem->DK->Prop
inductive liftR2(X:Cx)(r:dR2)(x y:V)(H:Hp)(Q:VK):Prop
 |mk (d1 d2:D) (M:Mem) (QQ:DK) (rh:RepH X.K H M) (r1:Rp X.K H d1 x) (r2:Rp X.K H d2 y) (h:r d1 d2 M QQ) (u:Up X.K M H QQ Q):liftR2 X r x y H Q
noncomputable def dOp(r:dR2)(ta tb:dTE):dTE:=fun δ M Q=>ta δ M fun x M1=>tb δ M1 fun y M2=>r x y M2 Q
theorem lift_op{r:dR2}{σ:St}{H:Hp}{Q:VK}(h:liftE X B (dOp r ta tb) σ H Q):tOp (liftR2 X r) (liftE X B ta) (liftE X B tb) σ H Q:=by
 obtain ⟨δ,M,QQ,s,h,u⟩:=h;refine ⟨δ,M,_,s,h,fun x M1 h1 v1 H1 rh1 i1 r1=>?_⟩;refine ⟨δ,M1,_,s.go rh1 i1,h1,fun y M2 h2 v2 H2 rh2 i2 r2=>?_⟩;exact ⟨x,y,M2,QQ,rh2,r1.mf rh1 i2,r2,h2,u.go (i1.trans i2)⟩
theorem de_op{op:Operator}{r:dR2}(ho:OpR X (binaryOp op) (liftR2 X r))(ha:DE X B a ta)(hb:DE X B b tb):DE X B (.BinOp a op b pos) (dOp r ta tb):=pe_weak (pe_op ho ha hb) fun _ _ _ h=>lift_op h
theorem de_cmp{op:CmpOp}{r:dR2}(ho:OpR X (compareOp op) (liftR2 X r))(ha:DE X B a ta)(hb:DE X B b tb)(hm:behindInMarks op b=false):DE X B (.Compare a [op] [b] pos) (dOp r ta tb):=pe_weak (pe_cmpR ho ha hb hm) fun _ _ _ h=>lift_op h
theorem de_ix{r:dR2}(hr:IxR X (liftR2 X r))(ha:DE X B a ta)(hb:DE X B b tb)(hs:PlainIx b):DE X B (.Subscript a b pos) (dOp r ta tb):=pe_weak (pe_ix hr ha hb hs) fun _ _ _ h=>lift_op h
noncomputable def dTest(t:dTE):dTT:=fun δ M Q=>t δ M fun d M'=>match d with
 |.bl k=>Q k M'
 |_=>False
theorem dt_cmp{op:CmpOp}{r:dR2}(ho:OpR X (compareOp op) (liftR2 X r))(ha:DE X B a ta)(hb:DE X B b tb)(hm:behindInMarks op b=false):DT X B (.Compare a [op] [b] pos) (dTest (dOp r ta tb)):=by
 refine pt_weak (pt_cmpR ho ha hb hm) ?_
 rintro σ H Q ⟨δ,M,QQ,s,h,u⟩
 have h':liftE X B (dOp r ta tb) σ H (fun x H'=>∃k,x=.bl k/\Q k H'):=by
  refine ⟨δ,M,_,s,h,fun d M' q v H' rh i rp=>?_⟩;cases d with
  |bl k=>exact ⟨k,rp,u k M' q H' rh i⟩
  |_=>exact (show False from q).elim
 exact lift_op h'
noncomputable def tru(M:Mem):D->Option Bool
 |.non=>some false
 |.bl b=>some b
 |.int i=>some (i != 0)
 |.str y=>if y.length<=sizeLine then some ((y.length:Int) != 0) else none
 |.tup xs=>some (!xs.isEmpty)
 |.lst xs=>some (!xs.isEmpty)
 |.ref a=>match M a with
  |some (.lst xs)=>some (!xs.isEmpty)
  |some (.dK xs)=>some (!xs.isEmpty)
  |_=>none
 |_=>none
noncomputable def dTru(t:dTE):dTT:=fun δ M Q=>t δ M fun d M'=>match tru M' d with
 |some k=>Q k M'
 |none=>False
theorem isEmpty_rps{K:PySem.W.Frag}{H:Hp}{ds:List D}{vs:List V}(r:Rps K H ds vs):vs.isEmpty=ds.isEmpty:=by
 have:=r.length;cases ds<;>cases vs<;>simp_all
theorem tru_of{K:PySem.W.Frag}{H:Hp}{M:Mem}{d:D}{v:V}{k:Bool}(rh:RepH K H M)(r:Rp K H d v)(e:tru M d=some k):TruV K v H k:=by
 cases d with
 |non=>cases r;cases e;rfl
 |bl b=>cases r;cases e;rfl
 |int i=>cases r;cases e;rfl
 |str y=>
  cases r;simp only [tru] at e
  split at e
  ·cases e;exact ⟨by assumption,rfl⟩
  ·cases e
 |ty n=>cases e
 |tup xs=>
  obtain ⟨p,vs,rfl,t,r⟩:=r;cases e;exact .inr (.inl ⟨vs,t.sq,by rw [isEmpty_rps r]⟩)
 |mt xs=>cases e
 |ml xs=>cases e
 |lst xs=>
  obtain ⟨p,vs,rfl,t,r⟩:=r;cases e;exact .inl ⟨vs,t.sq,by rw [isEmpty_rps r]⟩
 |ref a=>
  cases r;simp only [tru] at e
  split at e
  ·rename_i xs q
   obtain ⟨vs,h1,h2⟩:=rh _ _ q;cases e;exact .inl ⟨vs,SqL.of h1,by rw [isEmpty_rps h2]⟩
  ·rename_i xs q
   obtain ⟨vs,h1,h2⟩:=rh _ _ q;cases e;refine .inr (.inr ⟨vs,h1,?_⟩);cases h2<;>rfl
  ·cases e
theorem dt_tru{e:Expr}(h:DE X B e ta)(he:∀whole,isTrue e X.env whole=(do let v <- whole;standAt e.pos;holding [v] (truthy v)):=by intro _;rfl):DT X B e (dTru ta):=by
 refine pt_weak (pt_truth h he) ?_
 rintro σ H Q ⟨δ,M,QQ,s,h,u⟩
 refine ⟨δ,M,_,s,h,fun d M' q v H' rh i rp=>?_⟩
 split at q
 ·rename_i k e
  exact ⟨k,tru_of rh rp e,u k M' q H' rh i⟩
 ·exact q.elim
noncomputable def dNot(t:dTT):dTT:=fun δ M Q=>t δ M fun c M1=>Q (!c) M1
theorem dt_not{tA:dTT}(ha:DT X B a tA):DT X B (.UnaryOp .Not a pos) (dNot tA):=by
 refine pt_weak (pt_not ha) ?_
 rintro σ H Q ⟨δ,M,QQ,s,h,u⟩
 exact ⟨δ,M,_,s,h,fun c M' q H' rh i=>u _ M' q H' rh i⟩
end
end L3
namespace L3
open PySem L2
section
variable {X:Cx}{B:Mem}{a b c:Expr}{ta tb tc:dTE}{tA tB':dTT}{rest:List Expr}{pos:Pos}
noncomputable def DW(X:Cx)(B:Mem)(e:Expr)(T:dTT):Prop:=PW X e (liftT X B T)
theorem DW.dt{e:Expr}{T:dTT}(h:DW X B e T):DT X B e T:=PW.pt h
theorem pw_weak{X:Cx}{e:Expr}{t t':TT}(h:PW X e t)(w:∀σ H Q,t' σ H Q->t σ H Q):PW X e t':=fun wh pins s σ H Q I q=>h wh pins s σ H Q I (w σ H Q q)
noncomputable def dAnd(t u:dTT):dTT:=fun δ M Q=>t δ M fun c M1=>if c=true then u δ M1 Q else Q false M1
noncomputable def dOr(t u:dTT):dTT:=fun δ M Q=>t δ M fun c M1=>if c=true then Q true M1 else u δ M1 Q
theorem dw_and1(ha:DT X B a tA):DW X B (.BoolOp .And [a] pos) tA:=pw_and1 ha
theorem dw_or1(ha:DT X B a tA):DW X B (.BoolOp .Or [a] pos) tA:=pw_or1 ha
theorem dw_and(ha:DT X B a tA)(hb:DW X B (.BoolOp .And (b::rest) pos) tB'):DW X B (.BoolOp .And (a::b::rest) pos) (dAnd tA tB'):=by
 refine pw_weak (pw_and ha hb) ?_
 rintro σ H Q ⟨δ,M,QQ,s,h,u⟩
 refine ⟨δ,M,_,s,h,fun c M' q H' rh i=>?_⟩;cases c with
 |true=>rw [if_pos rfl] at q ⊢;exact ⟨δ,M',QQ,s.go rh i,q,u.go i⟩
 |false=>rw [if_neg Bool.false_ne_true] at q ⊢;exact u _ M' q H' rh i
theorem dw_or(ha:DT X B a tA)(hb:DW X B (.BoolOp .Or (b::rest) pos) tB'):DW X B (.BoolOp .Or (a::b::rest) pos) (dOr tA tB'):=by
 refine pw_weak (pw_or ha hb) ?_
 rintro σ H Q ⟨δ,M,QQ,s,h,u⟩
 refine ⟨δ,M,_,s,h,fun c M' q H' rh i=>?_⟩;cases c with
 |false=>rw [if_neg Bool.false_ne_true] at q ⊢;exact ⟨δ,M',QQ,s.go rh i,q,u.go i⟩
 |true=>rw [if_pos rfl] at q ⊢;exact u _ M' q H' rh i
noncomputable def dAndV(ta tb:dTE):dTE:=fun δ M Q=>ta δ M fun x M1=>match x with
 |.bl true=>tb δ M1 Q
 |.bl false=>Q (.bl false) M1
 |_=>False
noncomputable def dOrV(ta tb:dTE):dTE:=fun δ M Q=>ta δ M fun x M1=>match x with
 |.bl false=>tb δ M1 Q
 |.bl true=>Q (.bl true) M1
 |_=>False
noncomputable def dNotV(ta:dTE):dTE:=fun δ M Q=>ta δ M fun x M1=>match x with
 |.bl c=>Q (.bl (!c)) M1
 |_=>False
theorem de_one{op}{t:dTE}(h:DE X B a t):DE X B (.BoolOp op [a] pos) t:=pe_one h
theorem de_and(ha:DE X B a ta)(hb:DE X B (.BoolOp .And (b::rest) pos) tb):DE X B (.BoolOp .And (a::b::rest) pos) (dAndV ta tb):=by
 refine pe_weak (pe_and ha hb) ?_
 rintro σ H Q ⟨δ,M,QQ,s,h,u⟩
 refine ⟨δ,M,_,s,h,fun d M' q v H' rh i r=>?_⟩;cases d with
 |bl c=>
  cases c with
  |true=>exact ⟨true,r,by rw [if_pos rfl];exact ⟨δ,M',QQ,s.go rh i,q,u.go i⟩⟩
  |false=>exact ⟨false,r,by rw [if_neg Bool.false_ne_true];exact u _ M' q _ H' rh i rfl⟩
 |_=>exact (show False from q).elim
theorem de_or(ha:DE X B a ta)(hb:DE X B (.BoolOp .Or (b::rest) pos) tb):DE X B (.BoolOp .Or (a::b::rest) pos) (dOrV ta tb):=by
 refine pe_weak (pe_or ha hb) ?_
 rintro σ H Q ⟨δ,M,QQ,s,h,u⟩
 refine ⟨δ,M,_,s,h,fun d M' q v H' rh i r=>?_⟩;cases d with
 |bl c=>
  cases c with
  |false=>exact ⟨false,r,by rw [if_neg Bool.false_ne_true];exact ⟨δ,M',QQ,s.go rh i,q,u.go i⟩⟩
  |true=>exact ⟨true,r,by rw [if_pos rfl];exact u _ M' q _ H' rh i rfl⟩
 |_=>exact (show False from q).elim
theorem de_not(ha:DE X B a ta):DE X B (.UnaryOp .Not a pos) (dNotV ta):=by
 refine pe_weak (pe_not ha) ?_
 rintro σ H Q ⟨δ,M,QQ,s,h,u⟩
 refine ⟨δ,M,_,s,h,fun d M' q v H' rh i r=>?_⟩;cases d with
 |bl c=>exact ⟨c,r,u _ M' q _ H' rh i rfl⟩
 |_=>exact (show False from q).elim
noncomputable def dIf(t:dTT)(ta tb:dTE):dTE:=fun δ M Q=>t δ M fun c M1=>if c=true then ta δ M1 Q else tb δ M1 Q
theorem de_ifExp{c:Expr}(hc:DT X B c tA)(ha:DE X B a ta)(hb:DE X B b tb):DE X B (.IfExp c a b pos) (dIf tA ta tb):=by
 refine pe_weak (pe_ifExp hc ha hb) ?_
 rintro σ H Q ⟨δ,M,QQ,s,h,u⟩
 refine ⟨δ,M,_,s,h,fun c M' q H' rh i=>?_⟩;cases c with
 |true=>rw [if_pos rfl] at q ⊢;exact ⟨δ,M',QQ,s.go rh i,q,u.go i⟩
 |false=>rw [if_neg Bool.false_ne_true] at q ⊢;exact ⟨δ,M',QQ,s.go rh i,q,u.go i⟩
noncomputable def dChain(r r':dR2)(ta tb tc:dTE):dTE:=fun δ M Q=>ta δ M fun x M1=>tb δ M1 fun y M2=>r x y M2 fun z M3=>match z with
 |.bl true=>tc δ M3 fun w M4=>r' y w M4 Q
 |.bl false=>Q (.bl false) M3
 |_=>False
variable {e:Expr}{es:List Expr}{te:dTE}{t:dTA}
noncomputable def dNil:dTA:=fun _ M Q=>Q [] M
noncomputable def dCons(ta:dTE)(tr:dTA):dTA:=fun δ M Q=>ta δ M fun x M1=>tr δ M1 fun xs M2=>Q (x::xs) M2
theorem da_nil:DA X B [] dNil:=by
 refine pa_weak pa_nil ?_
 rintro σ H Q ⟨δ,M,QQ,s,h,u⟩
 exact u [] M h [] H s.rh Frm.refl .nil
theorem da_cons(ha:DE X B e te)(hr:DA X B es t)(hs:starEach (e::es) X.env=(false,eval e X.env)::starEach es X.env:=by rfl):DA X B (e::es) (dCons te t):=by
 refine pa_weak (pa_cons ha hr hs) ?_
 rintro σ H Q ⟨δ,M,QQ,s,h,u⟩
 refine ⟨δ,M,_,s,h,fun x M1 h1 v1 H1 rh1 i1 r1=>?_⟩;refine ⟨δ,M1,_,s.go rh1 i1,h1,fun xs M2 h2 v2 H2 rh2 i2 r2=>?_⟩;exact u _ M2 h2 _ H2 rh2 (i1.trans i2) (.cons (r1.mf rh1 i2) r2)
noncomputable def dTup(t:dTA):dTE:=fun δ M Q=>t δ M fun xs M1=>xs.length<=sizeLine/\Q (.tup xs) M1
noncomputable def dLst(t:dTA):dTE:=fun δ M Q=>t δ M fun xs M1=>xs.length<=sizeLine/\∀p,M1 p=none->Q (.ref p) (M1.upd p (.lst xs))
theorem de_tup{x1}(h:DA X B es t):DE X B (.Tuple es x1 pos) (dTup t):=by
 refine pe_weak (pe_tup h) ?_
 rintro σ H Q ⟨δ,M,QQ,s,h,u⟩
 refine ⟨δ,M,_,s,h,fun xs M1 h1 v1 H1 rh1 i1 r1=>⟨by rw [<- r1.length];exact h1.1,fun p hp=>?_⟩⟩
 exact u _ M1 h1.2 _ _ (rh1.new hp) (i1.trans (Frm.new hp)) ⟨p,v1,rfl,upd_same,r1.mono (Imm.new hp)⟩
theorem de_lst(h:DA X B es t):DE X B (.List es pos) (dLst t):=by
 refine pe_weak (pe_lst h) ?_
 rintro σ H Q ⟨δ,M,QQ,s,h,u⟩
 refine ⟨δ,M,_,s,h,fun xs M1 h1 v1 H1 rh1 i1 r1=>⟨by rw [<- r1.length];exact h1.1,fun p hp=>?_⟩⟩
 exact u _ _ (h1.2 p (rh1.fresh hp)) _ _ (rh1.put (by rw [hp];trivial) ⟨v1,upd_same,r1.mono (Imm.new hp)⟩) (i1.trans (Frm.put (.inl hp))) rfl
theorem Inv.freeze{pins:List (Addr×Obj)}{σ:L2.St}{H:Hp}{s:Shared}{p:Addr}{vs:List V}(I:Inv X pins σ H s)(h:H p=some (.lst vs)):∃o,Inv X pins σ (upd H p (.frz o (.lst vs))) s:=by
 obtain ⟨its,n,r,e,z⟩:=I.lst h;have ne:∀{b:Addr} {u:Option HO},H b=u->u≠some (.lst vs)->b≠p:=fun {b u} q hu z=>by subst z;rw [h] at q;exact hu q.symm
 refine ⟨{ cls:=.type "list",data:=.seq its.toArray n },I.ok,I.os,I.bare,⟨I.base.keep,I.base.slot,fun b o q hn hx=>?_,I.base.there,fun b xs q=>?_,fun b o u q=>?_,fun b ps q=>?_⟩,I.loc,I.cell,?_,fun x c q=>?_,fun pp hp=>?_,fun b o q=>?_,I.len⟩
 ·have q':=I.base.free b o q hn hx
  rw [upd_ne (ne q' (by simp))];exact q'
 ·have q':=I.base.tups b xs q
  rw [upd_ne (ne q' (by simp))];exact q'
 ·have q':=I.base.frzs b o u q
  rw [upd_ne (ne q' (by simp))];exact q'
 ·obtain ⟨more,q'⟩:=I.base.tbls b ps q
  exact ⟨more,by rw [upd_ne (ne q' (by simp))];exact q'⟩
 ·rw [upd_ne (ne I.free (by simp))];exact I.free
 ·have q':=I.freeC x c q
  rw [upd_ne (ne q' (by simp))];exact q'
 ·obtain ⟨h1,h2,h3⟩:=I.pin pp hp
  exact ⟨h1,by rw [upd_ne (ne h2 (by simp))];exact h2,h3⟩
 ·by_cases hb:b=p
  ·subst hb
   rw [upd_same] at q;cases q;refine ⟨e,?_⟩;exact ⟨z,its,n,r,e⟩
  ·rw [upd_ne hb] at q
   refine (I.hok b o q).stay (fun _ _ _ y=>y) (fun c y=>?_) fun c xs y=>?_
   ·rw [upd_ne (ne y (by simp))];exact y
   ·rw [upd_ne (ne y (by simp))];exact y
noncomputable def frz(d:D)(M:Mem)(Q:DK):Prop:=match d with
 |.ref a=>match M a with
  |some (.lst xs)=>Q (.lst xs) (M.del a)
  |_=>Q d M
 |_=>Q d M
noncomputable def dFrz(t:dTE):dTE:=fun δ M Q=>t δ M fun d M'=>frz d M' Q
theorem RepH.freeze{K:PySem.W.Frag}{H:Hp}{M:Mem}{p:Addr}{vs:List V}{o:Obj}(r:RepH K H M)(h:H p=some (.lst vs)):RepH K (upd H p (.frz o (.lst vs))) (M.del p):=fun b u e=>by
 unfold Mem.del at e
 split at e
 ·cases e
 ·rename_i hb
  exact (r b u e).keep (Imm.upd (by rw [h];trivial)) (upd_ne hb)
theorem de_frz(h:DE X B e te):DE X B e (dFrz te):=by
 intro pins s σ H Q I hq;obtain ⟨δ,M,QQ,sr,hT,u⟩:=hq;refine thn (h pins s σ H (fun v H'=>∃d M',RepH X.K H' M'/\Frm M H M' H'/\Rp X.K H' d v/\frz d M' QQ) I ⟨δ,M,_,sr,hT,fun d M' q v H' rh i r=>⟨d,M',rh,i,r,q⟩⟩) ?_
 rintro w s' ⟨v,H',I',rv,d,M',rh,i,r,q⟩
 unfold frz at q
 split at q
 ·rename_i a
  split at q
  ·rename_i xs e
   obtain ⟨vs,h1,h2⟩:=rh _ _ e;obtain ⟨o,I2⟩:=Inv.freeze I' h1;refine ⟨v,_,I2,rv,u _ _ q v _ (rh.freeze h1) (i.trans (Frm.del ⟨_,e⟩)) ?_⟩;exact ⟨a,vs,r,⟨o,upd_same⟩,h2.mono (Imm.upd (by rw [h1];trivial))⟩
  ·exact ⟨v,H',I',rv,u _ _ q v H' rh i r⟩
 ·exact ⟨v,H',I',rv,u _ _ q v H' rh i r⟩
end
end L3
namespace L3
open PySem L2
noncomputable def seqL(M:Mem):D->Option (List D)
 |.lst xs=>some xs
 |.ref a=>match M a with
  |some (.lst xs)=>some xs
  |_=>none
 |_=>none
noncomputable def seqD(M:Mem):D->Option (List D)
 |.tup xs=>some xs
 |.lst xs=>some xs
 |.mt xs=>some xs
 |.ml xs=>some xs
 |.ref a=>match M a with
  |some (.lst xs)=>some xs
  |_=>none
 |_=>none
section
variable {X:Cx}{B:Mem}{K:PySem.W.Frag}{H:Hp}{M:Mem}{d:D}{v:V}{xs:List D}
theorem seqL_of(rh:RepH K H M)(r:Rp K H d v)(e:seqL M d=some xs):∃p vs,v=.ref p/\Rd H p (.lst vs)/\Rps K H xs vs:=by
 cases d with
 |lst ys=>
  cases e;obtain ⟨p,vs,rfl,⟨o,h⟩,r⟩:=r;exact ⟨p,vs,rfl,.inr ⟨o,h⟩,r⟩
 |ref a=>
  simp only [seqL] at e
  split at e
  ·rename_i ys q
   cases e;obtain ⟨vs,h1,h2⟩:=rh _ _ q;exact ⟨a,vs,r,.inl h1,h2⟩
  ·cases e
 |_=>cases e
theorem seqD_of(rh:RepH K H M)(r:Rp K H d v)(e:seqD M d=some xs):∃p vs,v=.ref p/\(SqL K H p vs\/SqT K H p vs)/\Rps K H xs vs:=by
 cases d with
 |tup ys=>
  cases e;obtain ⟨p,vs,rfl,h,r⟩:=r;exact ⟨p,vs,rfl,.inr h.sq,r⟩
 |lst ys=>
  cases e;obtain ⟨p,vs,rfl,h,r⟩:=r;exact ⟨p,vs,rfl,.inl h.sq,r⟩
 |mt ys=>
  cases e;obtain ⟨p,vs,rfl,h,r⟩:=r;exact ⟨p,vs,rfl,.inr h.sq,r⟩
 |ml ys=>
  cases e;obtain ⟨p,vs,rfl,h,r⟩:=r;exact ⟨p,vs,rfl,.inl h.sq,r⟩
 |ref a=>
  simp only [seqD] at e
  split at e
  ·rename_i ys q
   cases e;obtain ⟨vs,h1,h2⟩:=rh _ _ q;exact ⟨a,vs,r,.inl (SqL.of h1),h2⟩
  ·cases e
 |_=>cases e
theorem op_catL:OpR X (binaryOp .Add) (fun x y H Q=>∃l b xs zs,x=.ref l/\y=.ref b/\Rd H l (.lst xs)/\Rd H b (.lst zs)/\xs.length+zs.length<=sizeLine/\∀p,H p=none->Q (.ref p) (upd H p (.lst (xs++zs)))):=by
 intro pins s σ H x y v u Q I rx ry h;obtain ⟨l,b,xs,zs,rfl,rfl,hH,hB,hz,q⟩:=h;cases rx;cases ry;obtain ⟨z,its,n,r,e⟩:=hH.ok I.hok;obtain ⟨z2,its2,n2,r2,e2⟩:=hB.ok I.hok;have hl:=r.length;have hl2:=r2.length;refine PySem.P.add_list e e2 ?_ (by rw [List.size_toArray,List.size_toArray];lia)
 have ea:its.toArray++its2.toArray=(its++its2).toArray:=by simp
 rw [ea];exact ⟨.ref _,_,I.lnew (t':=s.toks) (r.append r2) (by rw [List.length_append];lia),rfl,q _ I.fresh⟩
noncomputable def oAdd:dR2:=fun x y M Q=>match x,y with
 |.int i,.int j=>Q (.int (i+j)) M
 |.str a,.str b=>a.length+b.length<=sizeLine/\Q (.str (a++b)) M
 |.tup xs,.tup ys=>xs.length+ys.length<=sizeLine/\Q (.tup (xs++ys)) M
 |x,y=>match seqL M x,seqL M y with
  |some xs,some ys=>xs.length+ys.length<=sizeLine/\∀p,M p=none->Q (.ref p) (M.upd p (.lst (xs++ys)))
  |_,_=>False
theorem op_add':OpR X (binaryOp .Add) (liftR2 X oAdd):=by
 intro pins s σ H x y v u Q I rx ry h;obtain ⟨d1,d2,M,QQ,rh,r1,r2,h,up⟩:=h;unfold oAdd at h
 split at h
 ·cases r1;cases r2
  exact op_add pins s σ H _ _ v u Q I rx ry ⟨_,_,rfl,rfl,up _ M h _ H rh Frm.refl rfl⟩
 ·cases r1;cases r2
  exact op_add_str pins s σ H _ _ v u Q I rx ry ⟨_,_,rfl,rfl,h.1,up _ M h.2 _ H rh Frm.refl rfl⟩
 ·obtain ⟨p,vs,rfl,t1,r1⟩:=r1
  obtain ⟨p',vs',rfl,t2,r2⟩:=r2;have l1:=r1.length;have l2:=r2.length;have r12:=r1.append r2
  by_cases hx:vs=[]
  ·subst hx
   have hu:=up _ M h.2 (.ref p') H rh Frm.refl ⟨p',vs',rfl,t2,r12⟩;exact op_catT0 pins s σ H _ _ v u Q I rx ry ⟨p,p',vs',rfl,rfl,t1.sq,t2.sq,hu⟩
  ·refine op_catT pins s σ H _ _ v u Q I rx ry ⟨p,p',vs,vs',rfl,rfl,t1.sq,t2.sq,hx,by lia,fun e=>?_,fun _ q hq=>?_⟩
   ·subst e
    rw [List.append_nil] at r12;exact up _ M h.2 (.ref p) H rh Frm.refl ⟨p,vs,rfl,t1,r12⟩
   ·exact up _ M h.2 _ _ (rh.new hq) (Frm.new hq) ⟨q,_,rfl,upd_same,r12.mono (Imm.new hq)⟩
 ·split at h
  ·rename_i xs ys e1 e2
   obtain ⟨p,vs,rfl,t1,r1⟩:=seqL_of rh r1 e1;obtain ⟨p',vs',rfl,t2,r2⟩:=seqL_of rh r2 e2;have l1:=r1.length;have l2:=r2.length;refine op_catL pins s σ H _ _ v u Q I rx ry ⟨p,p',vs,vs',rfl,rfl,t1,t2,by lia,fun q hq=>?_⟩
   exact up _ _ (h.2 q (rh.fresh hq)) _ _ (rh.put (by rw [hq];trivial) ⟨_,upd_same,(r1.append r2).mono (Imm.new hq)⟩) (Frm.put (.inl hq)) rfl
  ·exact h.elim
noncomputable def oI(C:Int->Int->Prop)(g:Int->Int->D):dR2:=fun x y M Q=>match x,y with
 |.int i,.int j=>C i j/\Q (g i j) M
 |_,_=>False
theorem op_i{f:Value->Value->Sem Value}{C:Int->Int->Prop}{g:Int->Int->V}{g':Int->Int->D}(h:OpR X f (rI C g))(e:∀i j K H,Rp K H (g' i j) (g i j)):OpR X f (liftR2 X (oI C g')):=by
 intro pins s σ H x y v u Q I rx ry hq;obtain ⟨d1,d2,M,QQ,rh,r1,r2,hq,up⟩:=hq;unfold oI at hq
 split at hq
 ·cases r1;cases r2
  exact h pins s σ H _ _ v u Q I rx ry ⟨_,_,rfl,rfl,hq.1,up _ M hq.2 _ H rh Frm.refl (e _ _ _ _)⟩
 ·exact hq.elim
noncomputable def oI0(g:Int->Int->D):dR2:=fun x y M Q=>match x,y with
 |.int i,.int j=>Q (g i j) M
 |_,_=>False
theorem op_i0{f:Value->Value->Sem Value}{g:Int->Int->V}{g':Int->Int->D}(h:OpR X f (rI0 g))(e:∀i j K H,Rp K H (g' i j) (g i j)):OpR X f (liftR2 X (oI0 g')):=by
 intro pins s σ H x y v u Q I rx ry hq;obtain ⟨d1,d2,M,QQ,rh,r1,r2,hq,up⟩:=hq;unfold oI0 at hq
 split at hq
 ·cases r1;cases r2
  exact h pins s σ H _ _ v u Q I rx ry ⟨_,_,rfl,rfl,up _ M hq _ H rh Frm.refl (e _ _ _ _)⟩
 ·exact hq.elim
noncomputable abbrev oSub:dR2:=oI0 fun i j=>.int (i-j)
theorem op_sub':OpR X (binaryOp .Sub) (liftR2 X oSub):=op_i0 op_sub fun _ _ _ _=>rfl
noncomputable abbrev oMod:dR2:=oI (fun _ j=>0<j) fun i j=>.int (i % j)
theorem op_mod':OpR X (binaryOp .Mod) (liftR2 X oMod):=op_i op_mod fun _ _ _ _=>rfl
noncomputable def CFdiv(_ j:Int):Prop:=0<j/\j<2 ^ 200
theorem op_fdivA:OpR X (binaryOp .FloorDiv) (rI CFdiv fun i j=>.int (i / j)):=by
 intro pins s σ H x y v u Q I rx ry h;obtain ⟨i,j,rfl,rfl,hc,q⟩:=h;obtain ⟨h0,h1⟩:=hc;have hj:((j.toNat:Nat):Int)=j:=by lia
 refine op_fdivB (n:=j.toNat) ?_ (by lia) pins s σ H _ _ v u Q I rx ry ⟨i,j,rfl,rfl,hj.symm,q⟩
 have hlt:j.toNat<2 ^ 200:=by
  have:((j.toNat:Nat):Int)<((2 ^ 200:Nat):Int):=by rw [hj,Int.natCast_pow];exact h1
  exact Int.ofNat_lt.mp this
 have:=(Nat.log2_lt (n:=j.toNat) (k:=200) (by lia)).mpr hlt
 lia
noncomputable abbrev oFdiv:dR2:=oI CFdiv fun i j=>.int (i / j)
theorem op_fdiv':OpR X (binaryOp .FloorDiv) (liftR2 X oFdiv):=op_i op_fdivA fun _ _ _ _=>rfl
noncomputable abbrev oPow:dR2:=oI CPow fun i j=>.int (i ^ j.toNat)
theorem op_pow':OpR X (binaryOp .Pow) (liftR2 X oPow):=op_i op_pow fun _ _ _ _=>rfl
noncomputable abbrev oXor:dR2:=oI0 fun i j=>.int (Builtin.bitXor i j)
theorem op_xor':OpR X (binaryOp .BitXor) (liftR2 X oXor):=op_i0 op_xor fun _ _ _ _=>rfl
noncomputable abbrev oLt:dR2:=oI0 fun i j=>.bl (decide (i<j))
theorem op_lt':OpR X (compareOp .Lt) (liftR2 X oLt):=op_i0 op_lt fun _ _ _ _=>rfl
noncomputable abbrev oLe:dR2:=oI0 fun i j=>.bl (decide (i<=j))
theorem op_le':OpR X (compareOp .LtE) (liftR2 X oLe):=op_i0 op_le fun _ _ _ _=>rfl
noncomputable abbrev oGt:dR2:=oI0 fun i j=>.bl (decide (j<i))
theorem op_gt':OpR X (compareOp .Gt) (liftR2 X oGt):=op_i0 op_gt fun _ _ _ _=>rfl
theorem rep_eq{c:Nat}:∀(k:Nat) (acc:Array Nat),(List.replicate k #[c]).foldl (·++·) acc=acc++Array.replicate k c
 |0,acc=>by simp
 |k+1,acc=>by
  rw [List.replicate_succ,List.foldl_cons,rep_eq k (acc++#[c])];apply Array.ext';simp [List.replicate_succ]
theorem op_repSx:OpR X (binaryOp .Mult) (fun x y H Q=>∃c k,x=.str ⟨#[c]⟩/\y=.int k/\1<=k/\k<=1000/\Q (.str ⟨Array.replicate k.toNat c⟩) H):=by
 intro pins s σ H x y v u Q I rx ry h;obtain ⟨c,k,rfl,rfl,h1,h2,q⟩:=h;obtain ⟨t,rfl⟩:=rx;obtain ⟨t',rfl⟩:=ry;have hlen:(⟨#[c]⟩:Str).length=1:=rfl;have hsl:sizeLine=16777216:=rfl;refine PySem.P.mul_str ?_ ?_ ?_ ?_
 ·rw [decide_eq_false (by lia),decide_eq_false (by lia)];rfl
 ·intro _ _ hc
  rw [hlen] at hc;have:(1:Int)<=(2 ^ 63-1) / k:=Int.le_ediv_of_mul_le (by lia) (by lia)
  lia
 ·intro _ _
  rw [hlen];unfold PySem.Builtin.Str.tooLong;exact decide_eq_false (by lia)
 ·rw [if_neg (by lia)]
  by_cases hk:k=1
  ·rw [if_pos (by rw [hk];rfl)]
   subst hk;exact ⟨.str ⟨#[c]⟩,H,I,⟨_,rfl⟩,q⟩
  ·rw [if_neg (by simp [hlen,hk])]
   have he:(List.replicate k.toNat #[c]).foldl (·++·) #[]=Array.replicate k.toNat c:=by rw [rep_eq];simp
   refine ⟨?_,.str ⟨(List.replicate k.toNat #[c]).foldl (·++·) #[]⟩,H,I.tok _,⟨_,rfl⟩,by rw [he];exact q⟩
   show ((List.replicate k.toNat #[c]).foldl (·++·) #[]).size<=sizeLine;rw [he];simp;lia
noncomputable def oMul:dR2:=fun x y M Q=>match x,y with
 |.int i,.int j=>CMul i j/\Q (.int (i*j)) M
 |.str z,.int k=>match z.cps.toList with
  |[c]=>1<=k/\k<=1000/\Q (.str ⟨Array.replicate k.toNat c⟩) M
  |_=>False
 |.tup xs,.int k=>xs≠[]/\0<=k/\k<=1000/\xs.length<=1000/\Q (.tup (List.replicate k.toNat xs).flatten) M
 |_,_=>False
theorem Rps.rep{ds:List D}{vs:List V}(h:Rps K H ds vs):∀k:Nat,Rps K H (List.replicate k ds).flatten (List.replicate k vs).flatten
 |0=>rfl
 |k+1=>by
  rw [List.replicate_succ,List.replicate_succ,List.flatten_cons,List.flatten_cons];exact h.append (Rps.rep h k)
theorem op_mul':OpR X (binaryOp .Mult) (liftR2 X oMul):=by
 intro pins s σ H x y v u Q I rx ry h;obtain ⟨d1,d2,M,QQ,rh,r1,r2,h,up⟩:=h;cases d1 with
 |int i=>
  cases d2 with
  |int j=>
   cases r1;cases r2;exact op_mul pins s σ H _ _ v u Q I rx ry ⟨_,_,rfl,rfl,h.1,up _ M h.2 _ H rh Frm.refl rfl⟩
  |_=>exact (show False from h).elim
 |str z=>
  cases d2 with
  |int k=>
   cases r1;cases r2;simp only [oMul] at h
   split at h
   ·rename_i c e
    have ez:z=⟨#[c]⟩:=by
     obtain ⟨⟨l⟩⟩:=z;have e':l=[c]:=e;rw [e']
    subst ez;exact op_repSx pins s σ H _ _ v u Q I rx ry ⟨_,_,rfl,rfl,h.1,h.2.1,up _ M h.2.2 _ H rh Frm.refl rfl⟩
   ·exact h.elim
  |_=>exact (show False from h).elim
 |tup xs=>
  cases d2 with
  |int k=>
   obtain ⟨p,vs,rfl,t1,r1⟩:=r1;cases r2;obtain ⟨h1,h2,h3,h4,h5⟩:=h;have l1:=r1.length;obtain ⟨t,rfl⟩:=ry;cases rx;obtain ⟨its,r,pt,_⟩:=I.tuple t1.sq;have hl:=r.length;refine mul_tuple pt (fun z=>h1 ?_) h2 h3 (by lia) (fun e=>?_) fun e=>?_
   ·have hz:its.length=0:=congrArg List.length z
    exact List.eq_nil_of_length_eq_zero (by lia)
   ·subst e
    refine ⟨.ref p,H,I,rfl,up _ M h5 _ H rh Frm.refl ⟨p,vs,rfl,t1,?_⟩⟩;simpa using r1
   ·have hf:H s.heap.objs.size=none:=I.hok.fresh (Nat.le_refl _)
    have hz:(List.replicate k.toNat vs).flatten.length<=sizeLine:=by
     rw [len_rep];have h1:k.toNat*vs.length<=1000*1000:=Nat.mul_le_mul (by lia) (by lia)
     exact Nat.le_trans h1 (by decide)
    have i2:Imm H (upd H s.heap.objs.size (.tup (List.replicate k.toNat vs).flatten)):=Imm.new hf;exact ⟨.ref s.heap.objs.size,_,I.laid (t':=s.toks) (o:=.tup (List.replicate k.toNat vs).flatten) (fun b ob z=>Heap.get?_push_of_some _ z) (Nat.le_refl _) ⟨hz,_,r.rep k.toNat,⟨_,Heap.get?_push_size _ rfl,⟨rfl,_,rfl⟩,rfl⟩⟩,rfl,
     up _ M h5 _ _ (rh.new hf) (Frm.new hf) ⟨_,_,rfl,upd_same,(r1.rep _).mono i2⟩⟩
  |_=>exact (show False from h).elim
 |_=>exact (show False from h).elim
noncomputable def isNon:D->Bool
 |.non=>true
 |_=>false
noncomputable def oIsN:dR2:=fun x y M Q=>match y with
 |.non=>Q (.bl (isNon x)) M
 |_=>False
noncomputable def oNotN:dR2:=fun x y M Q=>match y with
 |.non=>Q (.bl (!isNon x)) M
 |_=>False
theorem isN_of(r:Rp K H d v):decide (v=V.non)=isNon d:=by
 cases d with
 |non=>cases r;rfl
 |tup xs=>obtain ⟨p,vs,rfl,_⟩:=r;rfl
 |lst xs=>obtain ⟨p,vs,rfl,_⟩:=r;rfl
 |mt xs=>obtain ⟨p,vs,rfl,_⟩:=r;rfl
 |ml xs=>obtain ⟨p,vs,rfl,_⟩:=r;rfl
 |_=>cases r;rfl
theorem op_isN':OpR X (compareOp .Is) (liftR2 X oIsN):=by
 intro pins s σ H x y v u Q I rx ry h;obtain ⟨d1,d2,M,QQ,rh,r1,r2,h,up⟩:=h;unfold oIsN at h
 split at h
 ·cases r2
  exact op_isN pins s σ H _ _ v u Q I rx ry ⟨rfl,by rw [isN_of r1];exact up _ M h _ H rh Frm.refl rfl⟩
 ·exact h.elim
theorem op_notN':OpR X (compareOp .IsNot) (liftR2 X oNotN):=by
 intro pins s σ H x y v u Q I rx ry h;obtain ⟨d1,d2,M,QQ,rh,r1,r2,h,up⟩:=h;unfold oNotN at h
 split at h
 ·cases r2
  refine op_notN pins s σ H _ _ v u Q I rx ry ⟨rfl,up _ M h _ H rh Frm.refl ?_⟩;show _=V.bl _;rw [isN_of r1]
 ·exact h.elim
end
end L3
namespace L3
open PySem L2
section
variable {κ:Type}[DecidableEq κ]
noncomputable def valD(kvs:List (κ×D))(k:κ):Option D:=(kvs.find? fun kv=>decide (kv.1=k)).map (·.2)
noncomputable def putD(kvs:List (κ×D))(k:κ)(v:D):List (κ×D):=
 if (kvs.any fun kv=>decide (kv.1=k))=true then kvs.map (fun kv=>if kv.1=k then (kv.1,v) else kv) else kvs++[(k,v)]
variable {K:PySem.W.Frag}{H:Hp}
theorem Rkv.val{kvs:List (κ×D)}{ws:List (κ×V)}(h:Rkv K H kvs ws)(k:κ):(valD kvs k=none/\valV ws k=none)\/∃d v,valD kvs k=some d/\valV ws k=some v/\Rp K H d v:=by
 induction h with
 |nil=>exact .inl ⟨rfl,rfl⟩
 |@cons p q ps qs r t ih=>
  obtain ⟨k1,d⟩:=p;obtain ⟨k2,v⟩:=q;obtain ⟨e,r⟩:=r;dsimp only at e r;subst e
  by_cases hk:k1=k
  ·exact .inr ⟨d,v,by simp [valD,hk],by simp [valV,hk],r⟩
  ·simpa [valD,valV,hk] using ih
theorem Rkv.any{kvs:List (κ×D)}{ws:List (κ×V)}(h:Rkv K H kvs ws)(k:κ):(kvs.any fun kv=>decide (kv.1=k))=(ws.any fun kv=>decide (kv.1=k)):=by
 induction h with
 |nil=>rfl
 |cons r t ih=>rw [List.any_cons,List.any_cons,ih,r.1]
theorem Rkv.put{kvs:List (κ×D)}{ws:List (κ×V)}(h:Rkv K H kvs ws)(k:κ){d:D}{v:V}(r:Rp K H d v):Rkv K H (putD kvs k d) (putK ws k v):=by
 unfold putD putK;rw [h.any k]
 split
 ·rename_i q;clear q
  induction h with
  |nil=>exact .nil
  |@cons p q ps qs rr t ih=>
   obtain ⟨k1,d'⟩:=p;obtain ⟨k2,v'⟩:=q;obtain ⟨e,r'⟩:=rr;dsimp only at e r';subst e;rw [List.map_cons,List.map_cons];refine .cons ?_ ih
   by_cases hk:k1=k
   ·rw [if_pos hk,if_pos hk];exact ⟨rfl,r⟩
   ·rw [if_neg hk,if_neg hk];exact ⟨rfl,r'⟩
 ·rename_i q;clear q
  induction h with
  |nil=>exact .cons ⟨rfl,r⟩ .nil
  |cons rr t ih=>exact .cons rr ih
theorem Rkv.length{kvs:List (κ×D)}{ws:List (κ×V)}(h:Rkv K H kvs ws):kvs.length=ws.length:=Paired.length h
end
noncomputable def keyOf:D->Option Key
 |.int i=>some (.inl i)
 |.str x=>some (.inr x)
 |_=>none
noncomputable def keysOf:List D->Option (List Key)
 |[]=>some []
 |d::ds=>match keyOf d,keysOf ds with
  |some k,some ks=>some (k::ks)
  |_,_=>none
noncomputable def keyT:D->Option (List Key)
 |.tup xs=>keysOf xs
 |_=>none
section
variable {X:Cx}{K:PySem.W.Frag}{H:Hp}{M:Mem}
theorem key_rel{d:D}{v:V}{k:Key}(r:Rp K H d v)(e:keyOf d=some k):v=kV k:=by
 cases d with
 |int i=>cases e;exact r
 |str x=>cases e;exact r
 |_=>cases e
theorem keys_rel:∀{ds:List D} {vs:List V} {ks:List Key},Rps K H ds vs->keysOf ds=some ks->vs=ks.map kV
 |[],vs,ks,r,e=>by cases e;exact r
 |d::ds,vs,ks,r,e=>by
  obtain ⟨v,r',rfl,a,b⟩:=r;simp only [keysOf] at e
  split at e
  ·rename_i k ks' e1 e2
   cases e;rw [key_rel a e1,keys_rel b e2];rfl
  ·cases e
noncomputable def dget(M:Mem)(a:Addr)(y:D):Option (Option D):=match M a with
 |some (.dK kvs)=>match keyOf y with
  |some k=>some (valD kvs k)
  |none=>none
 |some (.dT kvs)=>match keyT y with
  |some k=>some (valD kvs k)
  |none=>none
 |_=>none
theorem keyT_rel{d:D}{v:V}{ks:List Key}(r:Rp K H d v)(e:keyT d=some ks):∃b,v=.ref b/\H b=some (.tup (ks.map kV)):=by
 cases d with
 |tup xs=>
  obtain ⟨p,vs,rfl,t,r⟩:=r;exact ⟨p,rfl,by rw [<- keys_rel r e];exact t⟩
 |_=>cases e
theorem dget_of{a:Addr}{y:D}{v:V}{o:Option D}(rh:RepH K H M)(r:Rp K H y v)(e:dget M a y=some o):
  (o=none/\DGet H a v none)\/∃d w,o=some d/\DGet H a v (some w)/\Rp K H d w:=by
 unfold dget at e
 split at e
 ·rename_i kvs hM
  obtain ⟨ws,h1,h2⟩:=rh _ _ hM
  split at e
  ·rename_i k ek
   cases e;have ev:=key_rel r ek;subst ev;rcases h2.val k with ⟨e1,e2⟩|⟨d,w,e1,e2,r'⟩
   ·exact .inl ⟨e1,by rw [<- e2];exact DGet.k h1⟩
   ·exact .inr ⟨d,w,e1,by rw [<- e2];exact DGet.k h1,r'⟩
  ·cases e
 ·rename_i kvs hM
  obtain ⟨ws,h1,h2⟩:=rh _ _ hM
  split at e
  ·rename_i k ek
   cases e;obtain ⟨b,rfl,hb⟩:=keyT_rel r ek;rcases h2.val k with ⟨e1,e2⟩|⟨d,w,e1,e2,r'⟩
   ·exact .inl ⟨e1,by rw [<- e2];exact DGet.t h1 hb⟩
   ·exact .inr ⟨d,w,e1,by rw [<- e2];exact DGet.t h1 hb,r'⟩
  ·cases e
 ·cases e
end
end L3
namespace HT
open PySem PyProof.Rows
section
variable {prog:Program}{w:World}{A:Around}{E:Value->Shared->Prop}{s:Shared}
theorem getItem_tuple_whole{t sl:Addr}{items:Array Value}{vl vu:Value}{lo hi:Option Int}{Q:Value->Shared->Prop}(ht:IsTup s.heap t items)(hs:s.heap.IsSliceOf sl vl vu .none)(pl:IsPart vl lo)(pu:IsPart vu hi)
  (hw:sIx items.size 0 lo=0/\sIx items.size items.size hi=items.size) (h:Q (.ref t) s):wpAny (model prog w) A (getItem (.ref t) (.ref sl)) Q E s:=by
 obtain ⟨os,hos,hcs,hds⟩:=id hs;have hTs:s.TypeIs (.ref sl) "slice":=⟨os,hos,hcs⟩;unfold getItem
 try with_reducible refine wpAny_holding ?_
 first|refine wpAny_bind (wpAny_pure ?_)|skip
 refine wpAny_bind (wpAny_sequenceKey ht.typeIs (by decide) ?_)
 refine wpAny_bind (wpAny_callSpecial?_slot (name:=Str.ofString "__getitem__") ht.typeIs PyProof.Rows.slot_tuple_getitem
  (wpAny_call_entry PyProof.Rows.slot_tuple_getitem ht.typeIs entry_tuple_getitem ?_ (args_tuple_getitem _ _)))
 show wpAny _ _ (Builtin.Tuple.tupleItemsOf (.ref t) >>= _) _ _ s;refine wpAny_bind (tupleItemsOf_ ht ?_);refine wpAny_bind (wpAny_typeOf hTs ?_);rw [if_pos (by decide)]
 refine wpAny_bind (sliceApplied_gen hs pl pu ?_);have hyes:((((sIx items.size 0 lo:Nat):Int)==0&&(1:Int)==1&&(sIx items.size items.size hi-sIx items.size 0 lo)==items.size)=true):=by
  rw [hw.1,hw.2];simp
 show wpAny _ _ (if (((sIx items.size 0 lo:Nat):Int)==0&&(1:Int)==1&&(sIx items.size items.size hi-sIx items.size 0 lo)==items.size)=true then _ else _) _ _ s
 rw [if_pos hyes];refine wpAny_bind (m:=Builtin.Tuple.tupleIsExact _) (wpAny_bind (wpAny_typeOf ht.typeIs (wpAny_pure ?_)));rw [if_pos (by decide)]
 first
  |exact wpAny_bind (wpAny_rule (wpAny_bind (wpAny_pure (wpAny_pure ⟨_,rfl,wpAny_pure h⟩))))
  |exact wpAny_bind (wpAny_rule (wpAny_pure ⟨_,rfl,wpAny_pure h⟩))
  |exact wpAny_bind (wpAny_rule (wpAny_bind (wpAny_pure ⟨_,rfl,wpAny_pure h⟩)))
  |trace_state
end
end HT
namespace L3
open PySem L2
section
variable {X:Cx}{B:Mem}{K:PySem.W.Frag}{H:Hp}{M:Mem}{a b c:Expr}{ta tb tc:dTE}{pos:Pos}
noncomputable def oIx:dR2:=fun x y M Q=>match seqD M x,y with
 |some xs,.int i=>match atI xs i with
  |some d=>Q d M
  |none=>False
 |some _,_=>False
 |none,y=>match x,y with
  |.str z,.int i=>z.length<=sizeLine/\match atI z.cps.toList i with
   |some c=>Q (.str ⟨#[c]⟩) M
   |none=>False
  |.ref a,y=>match dget M a y with
   |some (some d)=>Q d M
   |_=>False
  |_,_=>False
theorem Rps.atI{ds:List D}{vs:List V}{i:Int}{d:D}(r:Rps K H ds vs)(e:atI ds i=some d):∃v,L2.atI vs i=some v/\Rp K H d v:=by
 unfold L2.atI at e ⊢;rw [<- r.length];cases q:ixN ds.length i with
 |none=>rw [q] at e;cases e
 |some j=>
  rw [q] at e;exact r.get (i:=j) e
theorem ix_dict(hu:X.A.units+1<cLine):IxR X (fun x y H Q=>∃a v,x=.ref a/\DGet H a y (some v)/\Q v H):=by
 intro value slice pins s σ H x y v u Q I rx ry h hs;obtain ⟨a,w,rfl,g,q⟩:=h;cases rx;exact PyProof.Rows.tail_any (dict_typeIs I g) PySem.F.slot_dict_getitem.lookup (d_getItem hu I g ry fun w' s3 I3 rw'=>⟨w,H,I3,rw',q⟩) hs
theorem ix_all(hu:X.A.units+1<cLine):IxR X (liftR2 X oIx):=by
 intro value slice pins s σ H x y v u Q I rx ry h hs;obtain ⟨d1,d2,M,QQ,rh,r1,r2,h,up⟩:=h;unfold oIx at h
 split at h
 ·rename_i xs i e
  split at h
  ·rename_i d ed
   cases r2;obtain ⟨p,vs,rfl,hq,r⟩:=seqD_of rh r1 e;obtain ⟨w,ew,rw'⟩:=r.atI ed;refine ix_seq value slice pins s σ H _ _ v u Q I rx ry ?_ hs;have hu':=up _ M h _ H rh Frm.refl rw';rcases hq with hq|hq
   ·exact .inl ⟨p,vs,i,w,rfl,rfl,hq,ew,hu'⟩
   ·exact .inr (.inl ⟨p,vs,i,w,rfl,rfl,hq,ew,hu'⟩)
  ·exact h.elim
 ·exact h.elim
 ·split at h
  ·obtain ⟨hz,h⟩:=h
   split at h
   ·rename_i ch ec
    cases r1;cases r2;exact ix_str value slice pins s σ H _ _ v u Q I rx ry ⟨_,_,ch,rfl,rfl,hz,ec,up _ M h _ H rh Frm.refl rfl⟩ hs
   ·exact h.elim
  ·split at h
   ·rename_i d ed
    cases r1;rcases dget_of rh r2 ed with ⟨z,_⟩|⟨d',w,z,g,rw'⟩
    ·cases z
    ·cases z
     exact ix_dict hu value slice pins s σ H _ _ v u Q I rx ry ⟨_,w,rfl,g,up _ M h _ H rh Frm.refl rw'⟩ hs
   ·exact h.elim
  ·exact h.elim
noncomputable abbrev dTO:=Dl->Mem->(Option Int->Mem->Prop)->Prop
inductive liftO(X:Cx)(B:Mem)(T:dTO)(σ:St)(H:Hp)(Q:Option Int->Hp->Prop):Prop
 |mk (δ:Dl) (M:Mem) (QQ:Option Int->Mem->Prop) (s:SR X B δ M σ H) (h:T δ M QQ) (u:∀o M',QQ o M'->∀H',RepH X.K H' M'->Frm M H M' H'->Q o H'):liftO X B T σ H Q
noncomputable def DO(X:Cx)(B:Mem)(e:Option Expr)(T:dTO):Prop:=PO X e (liftO X B T)
theorem po_weak{X:Cx}{e:Option Expr}{t t':TO}(h:PO X e t)(w:∀σ H Q,t' σ H Q->t σ H Q):PO X e t':=fun pins s σ H Q I q=>h pins s σ H Q I (w σ H Q q)
noncomputable def dNoPart:dTO:=fun _ M Q=>Q none M
noncomputable def dPart(t:dTE):dTO:=fun δ M Q=>t δ M fun x M1=>match x with
 |.int i=>Q (some i) M1
 |_=>False
theorem do_none:DO X B none dNoPart:=po_weak po_none fun σ H Q ⟨δ,M,QQ,s,h,u⟩=>u none M h H s.rh Frm.refl
theorem do_some{e:Expr}{te:dTE}(h:DE X B e te):DO X B (some e) (dPart te):=by
 refine po_weak (po_some h) ?_
 rintro σ H Q ⟨δ,M,QQ,s,h,u⟩
 refine ⟨δ,M,_,s,h,fun d M' q v H' rh i r=>?_⟩;cases d with
 |int j=>exact ⟨j,r,u _ M' q H' rh i⟩
 |_=>exact (show False from q).elim
noncomputable def cutD(xs:List D)(lo hi:Option Int):List D:=(xs.drop (HT.sIx xs.length 0 lo)).take (HT.sIx xs.length xs.length hi-HT.sIx xs.length 0 lo)
theorem Rps.cut{ds:List D}{vs:List V}(r:Rps K H ds vs)(lo hi:Option Int):Rps K H (cutD ds lo hi) (cutV vs lo hi):=by
 unfold cutD cutV;rw [<- r.length];exact (r.drop _).take _
noncomputable def oSl(x:D)(lo hi:Option Int)(M:Mem)(Q:DK):Prop:=match x with
 |.tup xs=>Q (.tup (cutD xs lo hi)) M
 |.ml xs=>∀p,M p=none->Q (.ref p) (M.upd p (.lst (cutD xs lo hi)))
 |x=>match seqL M x with
  |some xs=>∀p,M p=none->Q (.ref p) (M.upd p (.lst (cutD xs lo hi)))
  |none=>False
inductive liftSl(X:Cx)(x:V)(lo hi:Option Int)(H:Hp)(Q:VK):Prop
 |mk (d:D) (M:Mem) (QQ:DK) (rh:RepH X.K H M) (r:Rp X.K H d x) (h:oSl d lo hi M QQ) (u:Up X.K M H QQ Q):liftSl X x lo hi H Q
theorem cutV_whole{vs:List V}{lo hi:Option Int}(h:HT.sIx vs.length 0 lo=0/\HT.sIx vs.length vs.length hi=vs.length):cutV vs lo hi=vs:=by
 unfold cutV;rw [h.1,h.2];simp
theorem sl_tupA:SlR X (fun x lo hi H Q=>∃a xs,x=.ref a/\SqT X.K H a xs/\(cutV xs lo hi=xs->Q (.ref a) H)/\∀p,H p=none->Q (.ref p) (upd H p (.tup (cutV xs lo hi)))):=by
 intro pins s σ H x v vl vu lo hi sl Q I rx hs pl pu h;obtain ⟨a,xs,rfl,hx,q0,q⟩:=h
 by_cases hw:HT.sIx xs.length 0 lo=0/\HT.sIx xs.length xs.length hi=xs.length
 ·cases rx
  obtain ⟨its,r,ht,hz⟩:=I.tuple hx;have hlen:its.toArray.size=xs.length:=by rw [List.size_toArray];exact r.length.symm
  refine ⟨"tuple",_,PyProof.Rows.slot_tuple_getitem.lookup,ht.typeIs,?_⟩;exact HT.getItem_tuple_whole ht hs pl pu (by rw [hlen];exact hw) ⟨.ref a,H,I,rfl,q0 (cutV_whole hw)⟩
 ·exact sl_tup pins s σ H _ v vl vu lo hi sl Q I rx hs pl pu ⟨a,xs,rfl,hx,hw,q⟩
end
end L3
namespace L3
open PySem L2
section
variable {X:Cx}{B:Mem}{K:PySem.W.Frag}{H:Hp}{M:Mem}{e:Expr}{es:List Expr}{te:dTE}{lo hi:Option Expr}{tl th:dTO}{pos p2 p:Pos}{t:dTA}
theorem sl_all:SlR X (liftSl X):=by
 intro pins s σ H x v vl vu lo hi sl Q I rx hs pl pu h;obtain ⟨d,M,QQ,rh,r,h,up⟩:=h;unfold oSl at h
 split at h
 ·obtain ⟨a,vs,rfl,ht,r⟩:=r
  refine sl_tupA pins s σ H _ v vl vu lo hi sl Q I rx hs pl pu ⟨a,vs,rfl,ht.sq,fun e=>?_,fun p hp=>?_⟩
  ·exact up _ M h _ H rh Frm.refl ⟨a,vs,rfl,ht,by rw [<- e];exact r.cut lo hi⟩
  ·exact up _ M h _ _ (rh.new hp) (Frm.new hp) ⟨p,_,rfl,upd_same,(r.cut lo hi).mono (Imm.new hp)⟩
 ·obtain ⟨a,vs,rfl,hq,r⟩:=r
  refine sl_list pins s σ H _ v vl vu lo hi sl Q I rx hs pl pu ⟨a,vs,rfl,hq.sq,fun p hp=>?_⟩;exact up _ _ (h p (rh.fresh hp)) _ _ (rh.put (by rw [hp];trivial) ⟨_,upd_same,(r.cut lo hi).mono (Imm.new hp)⟩) (Frm.put (.inl hp)) rfl
 ·split at h
  ·rename_i xs e
   obtain ⟨a,vs,rfl,hq,r⟩:=seqL_of rh r e;refine sl_list pins s σ H _ v vl vu lo hi sl Q I rx hs pl pu ⟨a,vs,rfl,.inl hq,fun p hp=>?_⟩;exact up _ _ (h p (rh.fresh hp)) _ _ (rh.put (by rw [hp];trivial) ⟨_,upd_same,(r.cut lo hi).mono (Imm.new hp)⟩) (Frm.put (.inl hp)) rfl
  ·exact h.elim
noncomputable def dSl(te:dTE)(tl th:dTO):dTE:=fun δ M Q=>te δ M fun x M1=>tl δ M1 fun l M2=>th δ M2 fun u M3=>oSl x l u M3 Q
theorem de_slice(he:DE X B e te)(hl:DO X B lo tl)(hu:DO X B hi th):DE X B (.Subscript e (.Slice lo hi none p2) pos) (dSl te tl th):=by
 refine pe_weak (pe_slice sl_all he hl hu) ?_
 rintro σ H Q ⟨δ,M,QQ,s,h,u⟩
 refine ⟨δ,M,_,s,h,fun x M1 h1 v1 H1 rh1 i1 r1=>?_⟩;refine ⟨δ,M1,_,s.go rh1 i1,h1,fun l M2 h2 H2 rh2 i2=>?_⟩;refine ⟨δ,M2,_,s.go rh2 (i1.trans i2),h2,fun w M3 h3 H3 rh3 i3=>?_⟩;exact ⟨x,M3,QQ,rh3,r1.mf rh1 (i2.trans i3),h3,u.go ((i1.trans i2).trans i3)⟩
noncomputable abbrev dRC:=List D->Mem->DK->Prop
inductive liftC(X:Cx)(r:dRC)(xs:List V)(H:Hp)(Q:VK):Prop
 |mk (ds:List D) (M:Mem) (QQ:DK) (rh:RepH X.K H M) (rp:Rps X.K H ds xs) (h:r ds M QQ) (u:Up X.K M H QQ Q):liftC X r xs H Q
noncomputable def dCB(r:dRC)(t:dTA):dTE:=fun δ M Q=>t δ M fun vs M1=>r vs M1 Q
theorem lift_cb{r:dRC}{σ:L2.St}{H:Hp}{Q:VK}(h:liftE X B (dCB r t) σ H Q):tCB (liftC X r) (liftA X B t) σ H Q:=by
 obtain ⟨δ,M,QQ,s,h,u⟩:=h;refine ⟨δ,M,_,s,h,fun ds M1 h1 vs H1 rh1 i1 r1=>?_⟩;exact ⟨ds,M1,QQ,rh1,r1,h1,u.go i1⟩
theorem de_callB{x:Str}{id:String}{r:dRC}(hc:CallR X (.builtin id) (liftC X r))(hg:Gl X x)(hm:X.mg x=none)(hv:bootBuiltins x=some (.builtin id))(ha:DA X B (e::es) t)(hn:x≠"__name__":=by decide)(hdb:(x==("__debug__":Str))=false:=by decide)
  (he:starEach (e::es) X.env=(false,eval e X.env)::starEach es X.env:=by rfl) (hpl:(backTo pos (starEach es X.env)).any (·.1)=false:=by rfl):DE X B (.Call (.Name x p) (e::es) [] pos) (dCB r t):=
 pe_weak (pe_callB hc hg hm hv ha hn hdb he hpl) fun _ _ _ h=>lift_cb h
theorem de_callTy{x:Str}{T:String}{r:dRC}(hc:CallR X (.type T) (liftC X r))(hg:Gl X x)(hm:X.mg x=none)(hv:bootBuiltins x=some (.type T))(ha:DA X B (e::es) t)(hn:x≠"__name__":=by decide)(hdb:(x==("__debug__":Str))=false:=by decide)
  (he:starEach (e::es) X.env=(false,eval e X.env)::starEach es X.env:=by rfl) (hpl:(backTo pos (starEach es X.env)).any (·.1)=false:=by rfl):DE X B (.Call (.Name x p) (e::es) [] pos) (dCB r t):=
 pe_weak (pe_callTy hc hg hm hv ha hn hdb he hpl) fun _ _ _ h=>lift_cb h
theorem rps1{ds:List D}{vs:List V}{d:D}(r:Rps K H [d] vs):∃v,vs=[v]/\Rp K H d v:=by
 obtain ⟨v,w,rfl,a,b⟩:=r;cases b;exact ⟨v,rfl,a⟩
theorem rps2{vs:List V}{d e:D}(r:Rps K H [d,e] vs):∃v w,vs=[v,w]/\Rp K H d v/\Rp K H e w:=by
 obtain ⟨v,w,rfl,a,b⟩:=r;obtain ⟨v',w',rfl,a',b⟩:=b;cases b;exact ⟨v,v',rfl,a,a'⟩
noncomputable def cLen:dRC:=fun ds M Q=>match ds with
 |[d]=>match seqD M d with
  |some xs=>Q (.int xs.length) M
  |none=>match d with
   |.str z=>z.length<=sizeLine/\Q (.int z.length) M
   |.ref a=>match M a with
    |some (.dK kvs)=>Q (.int kvs.length) M
    |_=>False
   |_=>False
 |_=>False
theorem call_len':CallR X (.builtin "len") (liftC X cLen):=by
 intro pins s σ H xs us Q I r h;obtain ⟨ds,M,QQ,rh,rp,h,up⟩:=h;unfold cLen at h
 split at h
 ·obtain ⟨v,rfl,rv⟩:=rps1 (ds:=[]) rp
  split at h
  ·rename_i ys e
   obtain ⟨q,vs,rfl,hq,rr⟩:=seqD_of rh rv e;exact call_len_seq pins s σ H _ us Q I r ⟨q,vs,rfl,hq,by rw [<- rr.length];exact up _ M h _ H rh Frm.refl rfl⟩
  ·split at h
   ·cases rv
    exact call_len_str pins s σ H _ us Q I r ⟨_,rfl,h.1,up _ M h.2 _ H rh Frm.refl rfl⟩
   ·split at h
    ·rename_i kvs e
     cases rv;obtain ⟨ws,h1,h2⟩:=rh _ _ e;exact call_lenD pins s σ H _ us Q I r ⟨_,ws,rfl,h1,by rw [<- h2.length];exact up _ M h _ H rh Frm.refl rfl⟩
    ·exact h.elim
   ·exact h.elim
 ·exact h.elim
noncomputable def cList:dRC:=fun ds M Q=>match ds with
 |[d]=>match seqD M d with
  |some xs=>∀p,M p=none->Q (.ref p) (M.upd p (.lst xs))
  |none=>False
 |_=>False
theorem call_list':CallR X (.type "list") (liftC X cList):=by
 intro pins s σ H xs us Q I r h;obtain ⟨ds,M,QQ,rh,rp,h,up⟩:=h;unfold cList at h
 split at h
 ·obtain ⟨v,rfl,rv⟩:=rps1 (ds:=[]) rp
  split at h
  ·rename_i ys e
   obtain ⟨q,vs,rfl,hq,rr⟩:=seqD_of rh rv e;refine call_list_of pins s σ H _ us Q I r ⟨q,vs,rfl,hq,fun p hp=>?_⟩;exact up _ _ (h p (rh.fresh hp)) _ _ (rh.put (by rw [hp];trivial) ⟨_,upd_same,rr.mono (Imm.new hp)⟩) (Frm.put (.inl hp)) rfl
  ·exact h.elim
 ·exact h.elim
noncomputable def cTuple:dRC:=fun ds M Q=>match ds with
 |[.tup xs]=>Q (.tup xs) M
 |[d]=>match seqL M d with
  |some xs=>Q (.tup xs) M
  |none=>False
 |_=>False
theorem call_tuple':CallR X (.type "tuple") (liftC X cTuple):=by
 intro pins s σ H xs us Q I r h;obtain ⟨ds,M,QQ,rh,rp,h,up⟩:=h;unfold cTuple at h
 split at h
 ·obtain ⟨v,rfl,rv⟩:=rps1 (ds:=[]) rp
  obtain ⟨q,vs,rfl,ht,rr⟩:=rv;exact call_tuple_of pins s σ H _ us Q I r ⟨q,vs,rfl,.inr ⟨ht.sq,up _ M h _ H rh Frm.refl ⟨q,vs,rfl,ht,rr⟩⟩⟩
 ·obtain ⟨v,rfl,rv⟩:=rps1 (ds:=[]) rp
  split at h
  ·rename_i ys e
   obtain ⟨q,vs,rfl,hq,rr⟩:=seqL_of rh rv e;refine call_tuple_of pins s σ H _ us Q I r ⟨q,vs,rfl,.inl ⟨.inl hq,fun p hp=>?_⟩⟩;exact up _ M h _ _ (rh.new hp) (Frm.new hp) ⟨p,_,rfl,upd_same,rr.mono (Imm.new hp)⟩
  ·exact h.elim
 ·exact h.elim
noncomputable def tyName(M:Mem):D->Option String
 |.non=>some "NoneType"
 |.bl _=>some "bool"
 |.int _=>some "int"
 |.str _=>some "str"
 |.tup _=>some "tuple"
 |.lst _=>some "list"
 |.ref a=>match M a with
  |some (.lst _)=>some "list"
  |some (.dK _)=>some "dict"
  |some (.dT _)=>some "dict"
  |_=>none
 |_=>none
noncomputable def isInst(t T:String):Bool:=t==T||(t=="bool"&&T=="int")
noncomputable def tyOk(T:String):Bool:=T=="bool"||T=="int"||T=="str"||T=="tuple"||T=="list"||T=="dict"
theorem kit_all:(∀K:PySem.W.Frag,∀t∈["NoneType","bool","int","str","tuple","list","dict"],∀T∈["bool","int","str","tuple","list","dict"],PySem.W.kitOne K (.type t) (.type T)=some (isInst t T)):=by
 intro K t ht T hT;simp only [List.mem_cons,List.not_mem_nil,or_false] at ht hT;rcases ht with rfl|rfl|rfl|rfl|rfl|rfl|rfl<;>rcases hT with rfl|rfl|rfl|rfl|rfl|rfl<;>kernel_rfl
theorem tyOf_of{d:D}{v:V}{t:String}(rh:RepH K H M)(r:Rp K H d v)(e:tyName M d=some t):TyOf K H v (.type t)/\t∈["NoneType","bool","int","str","tuple","list","dict"]:=by
 cases d with
 |non=>cases r;cases e;exact ⟨.non,by simp⟩
 |bl b=>cases r;cases e;exact ⟨.bl b,by simp⟩
 |int i=>cases r;cases e;exact ⟨.int i,by simp⟩
 |str x=>cases r;cases e;exact ⟨.str x,by simp⟩
 |ty n=>cases e
 |mt n=>cases e
 |ml n=>cases e
 |tup xs=>
  cases e;obtain ⟨q,vs,rfl,ht,rr⟩:=r;exact ⟨.tup ht,by simp⟩
 |lst xs=>
  cases e;obtain ⟨q,vs,rfl,⟨o,ht⟩,rr⟩:=r;exact ⟨.frz ht,by simp⟩
 |ref a=>
  cases r;simp only [tyName] at e
  split at e
  ·rename_i q;cases e;obtain ⟨ws,h1,h2⟩:=rh _ _ q;exact ⟨.lst h1,by simp⟩
  ·rename_i q;cases e;obtain ⟨ws,h1,h2⟩:=rh _ _ q;exact ⟨.dK h1,by simp⟩
  ·rename_i q;cases e;obtain ⟨ws,h1,h2⟩:=rh _ _ q;exact ⟨.dT h1,by simp⟩
  ·cases e
noncomputable def cInst:dRC:=fun ds M Q=>match ds with
 |[d,.ty T]=>tyOk T=true/\match tyName M d with
  |some t=>Q (.bl (isInst t T)) M
  |none=>False
 |_=>False
theorem call_isinst':CallR X (.builtin "isinstance") (liftC X cInst):=by
 intro pins s σ H xs us Q I r h;obtain ⟨ds,M,QQ,rh,rp,h,up⟩:=h;unfold cInst at h
 split at h
 ·rename_i d T
  obtain ⟨hT,h⟩:=h;obtain ⟨v,w,rfl,rv,rw'⟩:=rps2 rp;cases rw'
  split at h
  ·rename_i t e
   obtain ⟨ty,ht⟩:=tyOf_of rh rv e;refine call_isinst pins s σ H _ us Q I r ⟨v,T,.type t,_,rfl,ty,kit_all X.K t ht T ?_,up _ M h _ H rh Frm.refl rfl⟩;simp only [tyOk,Bool.or_eq_true,beq_iff_eq] at hT;simp only [List.mem_cons,List.not_mem_nil,or_false];rcases hT with ((((h|h)|h)|h)|h)|h<;>simp [h]
  ·exact h.elim
 ·exact h.elim
noncomputable def bools:List D->Option (List Bool)
 |[]=>some []
 |.bl b::ds=>match bools ds with
  |some bs=>some (b::bs)
  |none=>none
 |_=>none
theorem bools_rel:∀{ds:List D} {vs:List V} {bs:List Bool},Rps K H ds vs->bools ds=some bs->vs=bs.map V.bl
 |[],vs,bs,r,e=>by cases e;exact r
 |d::ds,vs,bs,r,e=>by
  obtain ⟨v,r',rfl,a,b⟩:=r;cases d with
  |bl c=>
   simp only [bools] at e
   split at e
   ·rename_i bs' e2
    cases e;cases a;rw [bools_rel b e2];rfl
   ·cases e
  |_=>cases e
noncomputable def cAll:dRC:=fun ds M Q=>match ds with
 |[d]=>match seqL M d with
  |some xs=>match bools xs with
   |some bs=>Q (.bl (bs.all id)) M
   |none=>False
  |none=>False
 |_=>False
theorem call_all'(hc:X.calm=true):CallR X (.builtin "all") (liftC X cAll):=by
 intro pins s σ H xs us Q I r h;obtain ⟨ds,M,QQ,rh,rp,h,up⟩:=h;unfold cAll at h
 split at h
 ·obtain ⟨v,rfl,rv⟩:=rps1 (ds:=[]) rp
  split at h
  ·rename_i ys e
   split at h
   ·rename_i bs eb
    obtain ⟨q,vs,rfl,hq,rr⟩:=seqL_of rh rv e;have ev:=bools_rel rr eb;subst ev;exact call_all hc pins s σ H _ us Q I r ⟨q,bs,rfl,.inl hq,up _ M h _ H rh Frm.refl rfl⟩
   ·exact h.elim
  ·exact h.elim
 ·exact h.elim
noncomputable def cMin:dRC:=fun ds M Q=>match ds with
 |[.int i,.int j]=>Q (.int (if j<i then j else i)) M
 |_=>False
theorem call_min'(hc:X.calm=true):CallR X (.builtin "min") (liftC X cMin):=by
 intro pins s σ H xs us Q I r h;obtain ⟨ds,M,QQ,rh,rp,h,up⟩:=h;unfold cMin at h
 split at h
 ·obtain ⟨v,w,rfl,rv,rw'⟩:=rps2 rp
  cases rv;cases rw';exact call_min2 hc pins s σ H _ us Q I r ⟨_,_,rfl,up _ M h _ H rh Frm.refl rfl⟩
 ·exact h.elim
end
end L3
namespace L3
open PySem L2
mutual
noncomputable def deq:D->D->Bool
 |.non,.non=>true
 |.bl a,.bl b=>a==b
 |.bl a,.int b=>(if a then 1 else 0)==b
 |.int a,.bl b=>a==(if b then 1 else 0)
 |.int a,.int b=>decide (a=b)
 |.str a,.str b=>decide (a=b)
 |.tup xs,.tup ys=>deqs xs ys
 |.lst xs,.lst ys=>deqs xs ys
 |_,_=>false
noncomputable def deqs:List D->List D->Bool
 |[],[]=>true
 |x::xs,y::ys=>deq x y&&deqs xs ys
 |_,_=>false
end
mutual
noncomputable def fit:Nat->D->Bool
 |_,.non=>true
 |_,.bl _=>true
 |_,.int _=>true
 |_,.str _=>true
 |n+1,.tup xs=>fits n xs
 |n+1,.lst xs=>fits n xs
 |_,_=>false
noncomputable def fits:Nat->List D->Bool
 |_,[]=>true
 |n,x::xs=>fit n x&&fits n xs
end
mutual
noncomputable def Hr(h:Heap):D->Value->Prop
 |.non,u=>u=.none
 |.bl b,u=>u=.bool b
 |.int i,u=>∃t,u=.int i t
 |.str x,u=>∃t,u=.str x t
 |.tup xs,u=>∃p its,u=.ref p/\h.IsTuple p (List.toArray its)/\Hrs h xs its
 |.lst xs,u=>∃p its,u=.ref p/\h.IsList p (List.toArray its)/\Hrs h xs its
 |_,_=>False
noncomputable def Hrs(h:Heap):List D->List Value->Prop
 |[],us=>us=[]
 |x::xs,us=>∃u r,us=u::r/\Hr h x u/\Hrs h xs r
end
section
variable {h:Heap}
theorem Hrs.length:∀{ds:List D} {us:List Value},Hrs h ds us->ds.length=us.length
 |[],_,q=>by cases q;rfl
 |_::_,_,q=>by obtain ⟨v,r,rfl,_,b⟩:=q;simp [b.length]
theorem Hrs.get:∀{ds:List D} {us:List Value},Hrs h ds us->∀(i:Nat) (h1:i<ds.length) (h2:i<us.length),Hr h ds[i] us[i]
 |[],_,_,i,h1,_=>absurd h1 (Nat.not_lt_zero _)
 |x::xs,_,q,i,h1,h2=>by
  obtain ⟨v,r,rfl,a,b⟩:=q;cases i with
  |zero=>exact a
  |succ i=>exact b.get i (by simpa using h1) (by simpa using h2)
theorem isT_inj{p:Addr}{a b:Array Value}(x:h.IsTuple p a)(y:h.IsTuple p b):a=b:=by
 obtain ⟨o,h1,_,n,h2⟩:=x;obtain ⟨o',h1',_,n',h2'⟩:=y;rw [h1] at h1';cases h1';rw [h2] at h2'
 injection h2' with e _
theorem isL_inj{p:Addr}{a b:Array Value}(x:h.IsList p a)(y:h.IsList p b):a=b:=by
 obtain ⟨o,h1,_,n,h2⟩:=x;obtain ⟨o',h1',_,n',h2'⟩:=y;rw [h1] at h1';cases h1';rw [h2] at h2'
 injection h2' with e _
theorem isLT{p:Addr}{a b:Array Value}(x:h.IsList p a)(y:h.IsTuple p b):False:=by
 obtain ⟨o,h1,c,_⟩:=x;obtain ⟨o',h1',c',_⟩:=y;rw [h1] at h1';cases h1';rw [c] at c'
 injection c' with e
 exact absurd e (by decide)
mutual
theorem hr_inj:∀{d e:D} {u:Value},Hr h d u->Hr h e u->d=e
 |.non,e,u,a,b=>by
  cases a;cases e with
  |non=>rfl
  |bl _=>cases b
  |int _=>obtain ⟨t,q⟩:=b;cases q
  |str _=>obtain ⟨t,q⟩:=b;cases q
  |tup _=>obtain ⟨p,i,q,_⟩:=b;cases q
  |lst _=>obtain ⟨p,i,q,_⟩:=b;cases q
  |_=>exact (show False from b).elim
 |.bl c,e,u,a,b=>by
  cases a;cases e with
  |non=>cases b
  |bl _=>cases b;rfl
  |int _=>obtain ⟨t,q⟩:=b;cases q
  |str _=>obtain ⟨t,q⟩:=b;cases q
  |tup _=>obtain ⟨p,i,q,_⟩:=b;cases q
  |lst _=>obtain ⟨p,i,q,_⟩:=b;cases q
  |_=>exact (show False from b).elim
 |.int c,e,u,a,b=>by
  obtain ⟨t,rfl⟩:=a;cases e with
  |non=>cases b
  |bl _=>cases b
  |int _=>obtain ⟨t,q⟩:=b;cases q;rfl
  |str _=>obtain ⟨t,q⟩:=b;cases q
  |tup _=>obtain ⟨p,i,q,_⟩:=b;cases q
  |lst _=>obtain ⟨p,i,q,_⟩:=b;cases q
  |_=>exact (show False from b).elim
 |.str c,e,u,a,b=>by
  obtain ⟨t,rfl⟩:=a;cases e with
  |non=>cases b
  |bl _=>cases b
  |int _=>obtain ⟨t,q⟩:=b;cases q
  |str _=>obtain ⟨t,q⟩:=b;cases q;rfl
  |tup _=>obtain ⟨p,i,q,_⟩:=b;cases q
  |lst _=>obtain ⟨p,i,q,_⟩:=b;cases q
  |_=>exact (show False from b).elim
 |.tup xs,e,u,a,b=>by
  obtain ⟨p,its,rfl,t1,r1⟩:=a;cases e with
  |non=>cases b
  |bl _=>cases b
  |int _=>obtain ⟨t,q⟩:=b;cases q
  |str _=>obtain ⟨t,q⟩:=b;cases q
  |tup ys=>
   obtain ⟨p',its',q,t2,r2⟩:=b;cases q;have e:=isT_inj t1 t2;have e':its=its':=by simpa using congrArg Array.toList e
   subst e';rw [hrs_inj r1 r2]
  |lst ys=>obtain ⟨p',its',q,t2,r2⟩:=b;cases q;exact (isLT t2 t1).elim
  |_=>exact (show False from b).elim
 |.lst xs,e,u,a,b=>by
  obtain ⟨p,its,rfl,t1,r1⟩:=a;cases e with
  |non=>cases b
  |bl _=>cases b
  |int _=>obtain ⟨t,q⟩:=b;cases q
  |str _=>obtain ⟨t,q⟩:=b;cases q
  |lst ys=>
   obtain ⟨p',its',q,t2,r2⟩:=b;cases q;have e:=isL_inj t1 t2;have e':its=its':=by simpa using congrArg Array.toList e
   subst e';rw [hrs_inj r1 r2]
  |tup ys=>obtain ⟨p',its',q,t2,r2⟩:=b;cases q;exact (isLT t1 t2).elim
  |_=>exact (show False from b).elim
 |.ty _,_,_,a,_=>(show False from a).elim
 |.ref _,_,_,a,_=>(show False from a).elim
 |.mt _,_,_,a,_=>(show False from a).elim
 |.ml _,_,_,a,_=>(show False from a).elim
theorem hrs_inj:∀{ds es:List D} {us:List Value},Hrs h ds us->Hrs h es us->ds=es
 |[],es,us,a,b=>by
  cases a;cases es with
  |nil=>rfl
  |cons _ _=>obtain ⟨v,r,q,_⟩:=b;cases q
 |d::ds,es,us,a,b=>by
  obtain ⟨v,r,rfl,a1,a2⟩:=a;cases es with
  |nil=>cases b
  |cons e es=>
   obtain ⟨v',r',q,b1,b2⟩:=b;cases q;rw [hr_inj a1 b1,hrs_inj a2 b2]
end
mutual
theorem deq_refl:∀{n:Nat} {d:D},fit n d=true->deq d d=true
 |_,.non,_=>by simp [deq]
 |_,.bl _,_=>by simp [deq]
 |_,.int _,_=>by simp [deq]
 |_,.str _,_=>by simp [deq]
 |0,.tup _,f=>by simp [fit] at f
 |0,.lst _,f=>by simp [fit] at f
 |n+1,.tup xs,f=>by rw [deq];exact deqs_refl (n:=n) f
 |n+1,.lst xs,f=>by rw [deq];exact deqs_refl (n:=n) f
 |_,.ty _,f=>by simp [fit] at f
 |_,.ref _,f=>by simp [fit] at f
 |_,.mt _,f=>by simp [fit] at f
 |_,.ml _,f=>by simp [fit] at f
theorem deqs_refl:∀{n:Nat} {ds:List D},fits n ds=true->deqs ds ds=true
 |_,[],_=>by simp [deqs]
 |n,x::xs,f=>by
  rw [fits,Bool.and_eq_true] at f;rw [deqs,deq_refl f.1,deqs_refl f.2];rfl
end
theorem deqs_len:∀{xs ys:List D},xs.length≠ys.length->deqs xs ys=false
 |[],[],h=>absurd rfl h
 |[],_::_,_=>by simp [deqs]
 |_::_,[],_=>by simp [deqs]
 |x::xs,y::ys,h=>by rw [deqs,deqs_len (by simpa using h),Bool.and_false]
theorem deqs_all:∀(xs ys:List D) (f:Nat->Bool),xs.length=ys.length->(∀j (h1:j<xs.length) (h2:j<ys.length),f j=deq xs[j] ys[j])->(List.range xs.length).all f=deqs xs ys
 |[],[],f,_,_=>by simp [deqs]
 |[],_::_,_,h,_=>by simp at h
 |_::_,[],_,h,_=>by simp at h
 |x::xs,y::ys,f,h,hf=>by
  have h0:=hf 0 (by simp) (by simp)
  have ht:=deqs_all xs ys (fun j=>f (j+1)) (by simpa using h) (fun j h1 h2=>hf (j+1) (by simpa using h1) (by simpa using h2))
  rw [List.length_cons,List.range_succ_eq_map,List.all_cons,List.all_map,deqs,<- ht];simp only [List.getElem_cons_zero] at h0;rw [h0];rfl
theorem fits_get:∀{n:Nat} {xs:List D},fits n xs=true->∀(j:Nat) (h1:j<xs.length),fit n xs[j]=true
 |_,[],_,j,h1=>absurd h1 (Nat.not_lt_zero _)
 |n,x::xs,f,j,h1=>by
  rw [fits,Bool.and_eq_true] at f;cases j with
  |zero=>exact f.1
  |succ j=>exact fits_get f.2 j (by simpa using h1)
noncomputable def flatD:D->Option V
 |.non=>some .non
 |.bl b=>some (.bl b)
 |.int i=>some (.int i)
 |.str x=>some (.str x)
 |_=>none
theorem hr_flat{d:D}{v:V}{u:Value}(e:flatD d=some v)(r:Hr h d u):RelV v u/\flatV v=true:=by
 cases d with
 |non=>cases e;exact ⟨r,rfl⟩
 |bl b=>cases e;exact ⟨r,rfl⟩
 |int b=>cases e;exact ⟨r,rfl⟩
 |str b=>cases e;exact ⟨r,rfl⟩
 |_=>cases e
theorem deq_flat{d e:D}{v w:V}(h1:flatD d=some v)(h2:flatD e=some w):eqV v w=deq d e:=by
 cases d with
 |non=>cases h1;cases e with|non=>cases h2;simp [eqV,deq]|bl b=>cases h2;simp [eqV,deq]|int b=>cases h2;simp [eqV,deq]|str b=>cases h2;simp [eqV,deq]|_=>cases h2
 |bl a=>cases h1;cases e with|non=>cases h2;simp [eqV,deq]|bl b=>cases h2;simp [eqV,deq]|int b=>cases h2;simp [eqV,deq]|str b=>cases h2;simp [eqV,deq]|_=>cases h2
 |int a=>cases h1;cases e with|non=>cases h2;simp [eqV,deq]|bl b=>cases h2;simp [eqV,deq]|int b=>cases h2;simp [eqV,deq];rfl|str b=>cases h2;simp [eqV,deq]|_=>cases h2
 |str a=>cases h1;cases e with|non=>cases h2;simp [eqV,deq]|bl b=>cases h2;simp [eqV,deq]|int b=>cases h2;simp [eqV,deq]|str b=>cases h2;simp [eqV,deq];rfl|_=>cases h2
 |_=>cases h1
end
theorem eq_at:∀(n:Nat) {A:Around} {s:Shared} {d e:D} {u w:Value},Hr s.heap d u->Hr s.heap e w->fit n d=true->fit n e=true->A.units+n<cLine->SeqAt.EqAt A s u w (deq d e):=by
 intro n
 induction n with
 |zero=>
  intro A s d e u w rd re fd fe hu;have f1:∃v,flatD d=some v:=by cases d<;>first|exact ⟨_,rfl⟩|(simp [fit] at fd)
  have f2:∃v,flatD e=some v:=by cases e<;>first|exact ⟨_,rfl⟩|(simp [fit] at fe)
  obtain ⟨v1,e1⟩:=f1;obtain ⟨v2,e2⟩:=f2;obtain ⟨a1,b1⟩:=hr_flat e1 rd;obtain ⟨a2,b2⟩:=hr_flat e2 re;rw [<- deq_flat e1 e2];exact eqAt_V a1 a2 b1 b2
 |succ n ih=>
  intro A s d e u w rd re fd fe hu;have hu0:A.units<cLine:=by lia
  have hu1:A.in1.units+n<cLine:=by show A.units+1+n<cLine;lia
  by_cases f1:∃v,flatD d=some v
  ·obtain ⟨v1,e1⟩:=f1
   obtain ⟨a1,b1⟩:=hr_flat e1 rd
   by_cases f2:∃v,flatD e=some v
   ·obtain ⟨v2,e2⟩:=f2
    obtain ⟨a2,b2⟩:=hr_flat e2 re;rw [<- deq_flat e1 e2];exact eqAt_V a1 a2 b1 b2
   ·cases e with
    |tup ys=>
     obtain ⟨p,its,rfl,t,_⟩:=re;cases d with
     |non=>cases rd;simp only [deq];exact .none_tuple t hu0
     |bl b=>cases rd;simp only [deq];exact .bool_tuple b t hu0
     |int b=>obtain ⟨tk,rfl⟩:=rd;simp only [deq];exact .int_tuple b tk t hu0
     |str b=>obtain ⟨tk,rfl⟩:=rd;simp only [deq];exact .str_tuple b tk t hu0
     |_=>cases e1
    |lst ys=>
     obtain ⟨p,its,rfl,t,_⟩:=re;cases d with
     |non=>cases rd;simp only [deq];exact .none_list t hu0
     |bl b=>cases rd;simp only [deq];exact .bool_list b t hu0
     |int b=>obtain ⟨tk,rfl⟩:=rd;simp only [deq];exact .int_list b tk t hu0
     |str b=>obtain ⟨tk,rfl⟩:=rd;simp only [deq];exact .str_list b tk t hu0
     |_=>cases e1
    |ty _=>exact (show False from re).elim
    |ref _=>exact (show False from re).elim
    |mt _=>exact (show False from re).elim
    |ml _=>exact (show False from re).elim
    |_=>exact absurd ⟨_,rfl⟩ f2
  ·cases d with
   |tup xs=>
    obtain ⟨p,its,rfl,t1,r1⟩:=rd;cases e with
    |non=>cases re;simp only [deq];exact .tuple_none t1 hu0
    |bl b=>cases re;simp only [deq];exact .tuple_bool b t1 hu0
    |int b=>obtain ⟨tk,rfl⟩:=re;simp only [deq];exact .tuple_int b tk t1 hu0
    |str b=>obtain ⟨tk,rfl⟩:=re;simp only [deq];exact .tuple_str b tk t1 hu0
    |tup ys=>
     obtain ⟨p',its',rfl,t2,r2⟩:=re;rw [deq]
     by_cases hp:p=p'
     ·subst hp
      have e':its=its':=by simpa using congrArg Array.toList (isT_inj t1 t2)
      subst e';rw [hrs_inj r1 r2,deqs_refl (n:=n) fe];exact .same _
     ·refine .of_refs hp ?_
      have l1:=r1.length;have l2:=r2.length;have key:∀j (h1:j<its.toArray.size) (h2:j<its'.toArray.size),SeqAt.EqAt A.in1 s its.toArray[j] its'.toArray[j] (match xs[j]?,ys[j]? with|some x,some y=>deq x y|_,_=>false):=fun j h1 h2=>by
       have h1':j<xs.length:=by rw [l1];simpa using h1
       have h2':j<ys.length:=by rw [l2];simpa using h2
       rw [List.getElem?_eq_getElem h1',List.getElem?_eq_getElem h2'];exact ih (r1.get j h1' (by simpa using h1)) (r2.get j h2' (by simpa using h2)) (fits_get fd j h1') (fits_get fe j h2') hu1
      have:=SeqAt.RcAt.tuples (e:=fun j=>match xs[j]?,ys[j]? with|some x,some y=>deq x y|_,_=>false) t1 t2 hu0 key
      by_cases hl:xs.length=ys.length
      ·have hsz:its.toArray.size=its'.toArray.size:=by simp;lia
       rw [hsz] at this;simp only [Nat.min_self,beq_self_eq_true,Bool.and_true] at this;have hxs:its'.toArray.size=xs.length:=by simp;lia
       rw [hxs,deqs_all xs ys _ hl (fun j h1 h2=>by rw [List.getElem?_eq_getElem h1,List.getElem?_eq_getElem h2])] at this
       exact this
      ·have hsz:(its.toArray.size==its'.toArray.size)=false:=by simp;lia
       rw [hsz,Bool.and_false] at this;rw [deqs_len hl];exact this
    |lst ys=>obtain ⟨p',its',rfl,t2,r2⟩:=re;simp only [deq];exact .tuple_list t1 t2 hu0
    |_=>exact (show False from re).elim
   |lst xs=>
    obtain ⟨p,its,rfl,t1,r1⟩:=rd;cases e with
    |non=>cases re;simp only [deq];exact .list_none t1 hu0
    |bl b=>cases re;simp only [deq];exact .list_bool b t1 hu0
    |int b=>obtain ⟨tk,rfl⟩:=re;simp only [deq];exact .list_int b tk t1 hu0
    |str b=>obtain ⟨tk,rfl⟩:=re;simp only [deq];exact .list_str b tk t1 hu0
    |lst ys=>
     obtain ⟨p',its',rfl,t2,r2⟩:=re;rw [deq]
     by_cases hp:p=p'
     ·subst hp
      have e':its=its':=by simpa using congrArg Array.toList (isL_inj t1 t2)
      subst e';rw [hrs_inj r1 r2,deqs_refl (n:=n) fe];exact .same _
     ·refine .of_refs hp ?_
      have l1:=r1.length;have l2:=r2.length
      by_cases hl:xs.length=ys.length
      ·have key:∀j (h1:j<its.toArray.size) (h2:j<its'.toArray.size),SeqAt.EqAt A.in1 s its.toArray[j] its'.toArray[j] (match xs[j]?,ys[j]? with|some x,some y=>deq x y|_,_=>false):=fun j h1 h2=>by
        have h1':j<xs.length:=by rw [l1];simpa using h1
        have h2':j<ys.length:=by rw [l2];simpa using h2
        rw [List.getElem?_eq_getElem h1',List.getElem?_eq_getElem h2'];exact ih (r1.get j h1' (by simpa using h1)) (r2.get j h2' (by simpa using h2)) (fits_get fd j h1') (fits_get fe j h2') hu1
       have:=SeqAt.RcAt.lists (e:=fun j=>match xs[j]?,ys[j]? with|some x,some y=>deq x y|_,_=>false) t1 t2 (by simp;lia) hu0 key
       have hxs:its.toArray.size=xs.length:=by simp;lia
       rw [hxs,deqs_all xs ys _ hl (fun j h1 h2=>by rw [List.getElem?_eq_getElem h1,List.getElem?_eq_getElem h2])] at this
       exact this
      ·rw [deqs_len hl]
       exact SeqAt.RcAt.lists_lengths t1 t2 (by simp;lia) hu0
    |tup ys=>obtain ⟨p',its',rfl,t2,r2⟩:=re;simp only [deq];exact .list_tuple t1 t2 hu0
    |_=>exact (show False from re).elim
   |ty _=>exact (show False from rd).elim
   |ref _=>exact (show False from rd).elim
   |mt _=>exact (show False from rd).elim
   |ml _=>exact (show False from rd).elim
   |_=>exact absurd ⟨_,rfl⟩ f1
end L3
namespace L3
open PySem L2
theorem seq_key{n:Nat}{A:Around}{s:Shared}{xs ys:List D}{its its':List Value}(r1:Hrs s.heap xs its)(r2:Hrs s.heap ys its')(fd:fits n xs=true)(fe:fits n ys=true)(hu:A.units+n<cLine):
  ∀j (h1:j<its.toArray.size) (h2:j<its'.toArray.size),SeqAt.EqAt A s its.toArray[j] its'.toArray[j] (match xs[j]?,ys[j]? with|some x,some y=>deq x y|_,_=>false):=fun j h1 h2=>by
 have h1':j<xs.length:=by rw [r1.length];simpa using h1
 have h2':j<ys.length:=by rw [r2.length];simpa using h2
 rw [List.getElem?_eq_getElem h1',List.getElem?_eq_getElem h2'];exact eq_at n (r1.get j h1' (by simpa using h1)) (r2.get j h2' (by simpa using h2)) (fits_get fd j h1') (fits_get fe j h2') hu
theorem seq_all{xs ys:List D}(hl:xs.length=ys.length):(List.range xs.length).all (fun j=>match xs[j]?,ys[j]? with|some x,some y=>deq x y|_,_=>false)=deqs xs ys:=
 deqs_all xs ys _ hl (fun j h1 h2=>by rw [List.getElem?_eq_getElem h1,List.getElem?_eq_getElem h2])
theorem rc_tup{n:Nat}{A:Around}{s:Shared}{xs ys:List D}{p p':Addr}{its its':List Value}(t1:s.heap.IsTuple p its.toArray)(t2:s.heap.IsTuple p' its'.toArray)(r1:Hrs s.heap xs its)(r2:Hrs s.heap ys its')(fd:fit n (.tup xs)=true)(fe:fit n (.tup ys)=true)(hu:A.units+n<cLine):
  SeqAt.RcAt A s (.ref p) (.ref p') (deq (.tup xs) (.tup ys)):=by
 cases n with
 |zero=>simp [fit] at fd
 |succ n=>
  have l1:=r1.length;have l2:=r2.length;have:=SeqAt.RcAt.tuples (A:=A) t1 t2 (by lia) (seq_key (n:=n) r1 r2 fd fe (by show A.units+1+n<cLine;lia))
  rw [deq]
  by_cases hl:xs.length=ys.length
  ·have hsz:its.toArray.size=its'.toArray.size:=by simp;lia
   rw [hsz] at this;simp only [Nat.min_self,beq_self_eq_true,Bool.and_true] at this;have hxs:its'.toArray.size=xs.length:=by simp;lia
   rw [hxs,seq_all hl] at this;exact this
  ·have hsz:(its.toArray.size==its'.toArray.size)=false:=by simp;lia
   rw [hsz,Bool.and_false] at this;rw [deqs_len hl];exact this
theorem rc_lst{n:Nat}{A:Around}{s:Shared}{xs ys:List D}{p p':Addr}{its its':List Value}(t1:s.heap.IsList p its.toArray)(t2:s.heap.IsList p' its'.toArray)(r1:Hrs s.heap xs its)(r2:Hrs s.heap ys its')(fd:fit n (.lst xs)=true)(fe:fit n (.lst ys)=true)(hu:A.units+n<cLine):
  SeqAt.RcAt A s (.ref p) (.ref p') (deq (.lst xs) (.lst ys)):=by
 cases n with
 |zero=>simp [fit] at fd
 |succ n=>
  have l1:=r1.length;have l2:=r2.length;rw [deq]
  by_cases hl:xs.length=ys.length
  ·have:=SeqAt.RcAt.lists (A:=A) t1 t2 (by simp;lia) (by lia) (seq_key (n:=n) r1 r2 fd fe (by show A.units+1+n<cLine;lia))
   have hxs:its.toArray.size=xs.length:=by simp;lia
   rw [hxs,seq_all hl] at this;exact this
  ·rw [deqs_len hl]
   exact SeqAt.RcAt.lists_lengths t1 t2 (by simp;lia) (by lia)
theorem rcne_tup{n:Nat}{A:Around}{s:Shared}{xs ys:List D}{p p':Addr}{its its':List Value}(t1:s.heap.IsTuple p its.toArray)(t2:s.heap.IsTuple p' its'.toArray)(r1:Hrs s.heap xs its)(r2:Hrs s.heap ys its')(fd:fit n (.tup xs)=true)(fe:fit n (.tup ys)=true)(hu:A.units+n<cLine):
  SeqAt.RcNeAt A s (.ref p) (.ref p') (!deq (.tup xs) (.tup ys)):=by
 cases n with
 |zero=>simp [fit] at fd
 |succ n=>
  have l1:=r1.length;have l2:=r2.length;have:=SeqAt.RcNeAt.tuples (A:=A) t1 t2 (by lia) (seq_key (n:=n) r1 r2 fd fe (by show A.units+1+n<cLine;lia))
  rw [deq]
  by_cases hl:xs.length=ys.length
  ·have hsz:its.toArray.size=its'.toArray.size:=by simp;lia
   rw [hsz] at this;simp only [Nat.min_self,beq_self_eq_true,Bool.and_true] at this;have hxs:its'.toArray.size=xs.length:=by simp;lia
   rw [hxs,seq_all hl] at this;exact this
  ·have hsz:(its.toArray.size==its'.toArray.size)=false:=by simp;lia
   rw [hsz,Bool.and_false] at this;rw [deqs_len hl];exact this
theorem rcne_lst{n:Nat}{A:Around}{s:Shared}{xs ys:List D}{p p':Addr}{its its':List Value}(t1:s.heap.IsList p its.toArray)(t2:s.heap.IsList p' its'.toArray)(r1:Hrs s.heap xs its)(r2:Hrs s.heap ys its')(fd:fit n (.lst xs)=true)(fe:fit n (.lst ys)=true)(hu:A.units+n<cLine):
  SeqAt.RcNeAt A s (.ref p) (.ref p') (!deq (.lst xs) (.lst ys)):=by
 cases n with
 |zero=>simp [fit] at fd
 |succ n=>
  have l1:=r1.length;have l2:=r2.length;rw [deq]
  by_cases hl:xs.length=ys.length
  ·have:=SeqAt.RcNeAt.lists (A:=A) t1 t2 (by simp;lia) (by lia) (seq_key (n:=n) r1 r2 fd fe (by show A.units+1+n<cLine;lia))
   have hxs:its.toArray.size=xs.length:=by simp;lia
   rw [hxs,seq_all hl] at this;exact this
  ·rw [deqs_len hl]
   exact SeqAt.RcNeAt.lists_lengths t1 t2 (by simp;lia) (by lia)
theorem rc_at{n:Nat}{A:Around}{s:Shared}{d e:D}{u w:Value}(rd:Hr s.heap d u)(re:Hr s.heap e w)(fd:fit n d=true)(fe:fit n e=true)(hu:A.units+n<cLine):SeqAt.RcAt A s u w (deq d e):=by
 have hu0:A.units<cLine:=by lia
 cases d with
 |non=>
  cases rd;cases e with
  |non=>
   cases re;simpa [deq,Bool.beq_eq_decide_eq] using SeqAt.RcAt.none_none
  |bl y=>
   cases re;simpa [deq] using SeqAt.RcAt.none_bool y
  |int y=>
   obtain ⟨tky,rfl⟩:=re;simpa [deq] using SeqAt.RcAt.none_int y tky
  |str y=>
   obtain ⟨tky,rfl⟩:=re;simpa [deq] using SeqAt.RcAt.none_str y tky
  |tup y=>
   obtain ⟨py,itsy,rfl,ty,ry⟩:=re;simpa [deq] using SeqAt.RcAt.none_tuple ty hu0
  |lst y=>
   obtain ⟨py,itsy,rfl,ty,ry⟩:=re;simpa [deq] using SeqAt.RcAt.none_list ty hu0
  |_=>exact (show False from re).elim
 |bl x=>
  cases rd;cases e with
  |non=>
   cases re;simpa [deq] using SeqAt.RcAt.bool_none x
  |bl y=>
   cases re;simpa [deq,Bool.beq_eq_decide_eq] using SeqAt.RcAt.bool_bool x y
  |int y=>
   obtain ⟨tky,rfl⟩:=re;simpa [deq,Bool.beq_eq_decide_eq] using SeqAt.RcAt.bool_int x y tky
  |str y=>
   obtain ⟨tky,rfl⟩:=re;simpa [deq] using SeqAt.RcAt.bool_str x y tky
  |tup y=>
   obtain ⟨py,itsy,rfl,ty,ry⟩:=re;simpa [deq] using SeqAt.RcAt.bool_tuple x ty hu0
  |lst y=>
   obtain ⟨py,itsy,rfl,ty,ry⟩:=re;simpa [deq] using SeqAt.RcAt.bool_list x ty hu0
  |_=>exact (show False from re).elim
 |int x=>
  obtain ⟨tkx,rfl⟩:=rd;cases e with
  |non=>
   cases re;simpa [deq] using SeqAt.RcAt.int_none x tkx
  |bl y=>
   cases re;simpa [deq,Bool.beq_eq_decide_eq] using SeqAt.RcAt.int_bool x tkx y
  |int y=>
   obtain ⟨tky,rfl⟩:=re;simpa [deq,Bool.beq_eq_decide_eq] using SeqAt.RcAt.int_int x tkx y tky
  |str y=>
   obtain ⟨tky,rfl⟩:=re;simpa [deq] using SeqAt.RcAt.int_str x tkx y tky
  |tup y=>
   obtain ⟨py,itsy,rfl,ty,ry⟩:=re;simpa [deq] using SeqAt.RcAt.int_tuple x tkx ty hu0
  |lst y=>
   obtain ⟨py,itsy,rfl,ty,ry⟩:=re;simpa [deq] using SeqAt.RcAt.int_list x tkx ty hu0
  |_=>exact (show False from re).elim
 |str x=>
  obtain ⟨tkx,rfl⟩:=rd;cases e with
  |non=>
   cases re;simpa [deq] using SeqAt.RcAt.str_none x tkx
  |bl y=>
   cases re;simpa [deq] using SeqAt.RcAt.str_bool x tkx y
  |int y=>
   obtain ⟨tky,rfl⟩:=re;simpa [deq] using SeqAt.RcAt.str_int x tkx y tky
  |str y=>
   obtain ⟨tky,rfl⟩:=re;simpa [deq,Bool.beq_eq_decide_eq] using SeqAt.RcAt.str_str x tkx y tky
  |tup y=>
   obtain ⟨py,itsy,rfl,ty,ry⟩:=re;simpa [deq] using SeqAt.RcAt.str_tuple x tkx ty hu0
  |lst y=>
   obtain ⟨py,itsy,rfl,ty,ry⟩:=re;simpa [deq] using SeqAt.RcAt.str_list x tkx ty hu0
  |_=>exact (show False from re).elim
 |tup x=>
  obtain ⟨px,itsx,rfl,tx,rx⟩:=rd;cases e with
  |non=>
   cases re;simpa [deq] using SeqAt.RcAt.tuple_none tx hu0
  |bl y=>
   cases re;simpa [deq] using SeqAt.RcAt.tuple_bool y tx hu0
  |int y=>
   obtain ⟨tky,rfl⟩:=re;simpa [deq] using SeqAt.RcAt.tuple_int y tky tx hu0
  |str y=>
   obtain ⟨tky,rfl⟩:=re;simpa [deq] using SeqAt.RcAt.tuple_str y tky tx hu0
  |tup y=>
   obtain ⟨py,itsy,rfl,ty,ry⟩:=re;exact rc_tup tx ty rx ry fd fe hu
  |lst y=>
   obtain ⟨py,itsy,rfl,ty,ry⟩:=re;simpa [deq] using SeqAt.RcAt.tuple_list tx ty hu0
  |_=>exact (show False from re).elim
 |lst x=>
  obtain ⟨px,itsx,rfl,tx,rx⟩:=rd;cases e with
  |non=>
   cases re;simpa [deq] using SeqAt.RcAt.list_none tx hu0
  |bl y=>
   cases re;simpa [deq] using SeqAt.RcAt.list_bool y tx hu0
  |int y=>
   obtain ⟨tky,rfl⟩:=re;simpa [deq] using SeqAt.RcAt.list_int y tky tx hu0
  |str y=>
   obtain ⟨tky,rfl⟩:=re;simpa [deq] using SeqAt.RcAt.list_str y tky tx hu0
  |tup y=>
   obtain ⟨py,itsy,rfl,ty,ry⟩:=re;simpa [deq] using SeqAt.RcAt.list_tuple tx ty hu0
  |lst y=>
   obtain ⟨py,itsy,rfl,ty,ry⟩:=re;exact rc_lst tx ty rx ry fd fe hu
  |_=>exact (show False from re).elim
 |_=>exact (show False from rd).elim
theorem rcne_at{n:Nat}{A:Around}{s:Shared}{d e:D}{u w:Value}(rd:Hr s.heap d u)(re:Hr s.heap e w)(fd:fit n d=true)(fe:fit n e=true)(hu:A.units+n<cLine):SeqAt.RcNeAt A s u w (!deq d e):=by
 have hu0:A.units<cLine:=by lia
 cases d with
 |non=>
  cases rd;cases e with
  |non=>
   cases re;simpa [deq,Bool.beq_eq_decide_eq] using SeqAt.RcNeAt.none_none
  |bl y=>
   cases re;simpa [deq] using SeqAt.RcNeAt.none_bool y
  |int y=>
   obtain ⟨tky,rfl⟩:=re;simpa [deq] using SeqAt.RcNeAt.none_int y tky
  |str y=>
   obtain ⟨tky,rfl⟩:=re;simpa [deq] using SeqAt.RcNeAt.none_str y tky
  |tup y=>
   obtain ⟨py,itsy,rfl,ty,ry⟩:=re;simpa [deq] using SeqAt.RcNeAt.none_tuple ty hu0
  |lst y=>
   obtain ⟨py,itsy,rfl,ty,ry⟩:=re;simpa [deq] using SeqAt.RcNeAt.none_list ty hu0
  |_=>exact (show False from re).elim
 |bl x=>
  cases rd;cases e with
  |non=>
   cases re;simpa [deq] using SeqAt.RcNeAt.bool_none x
  |bl y=>
   cases re;simpa [deq,Bool.beq_eq_decide_eq] using SeqAt.RcNeAt.bool_bool x y
  |int y=>
   obtain ⟨tky,rfl⟩:=re;simpa [deq,Bool.beq_eq_decide_eq] using SeqAt.RcNeAt.bool_int x y tky
  |str y=>
   obtain ⟨tky,rfl⟩:=re;simpa [deq] using SeqAt.RcNeAt.bool_str x y tky
  |tup y=>
   obtain ⟨py,itsy,rfl,ty,ry⟩:=re;simpa [deq] using SeqAt.RcNeAt.bool_tuple x ty hu0
  |lst y=>
   obtain ⟨py,itsy,rfl,ty,ry⟩:=re;simpa [deq] using SeqAt.RcNeAt.bool_list x ty hu0
  |_=>exact (show False from re).elim
 |int x=>
  obtain ⟨tkx,rfl⟩:=rd;cases e with
  |non=>
   cases re;simpa [deq] using SeqAt.RcNeAt.int_none x tkx
  |bl y=>
   cases re;simpa [deq,Bool.beq_eq_decide_eq] using SeqAt.RcNeAt.int_bool x tkx y
  |int y=>
   obtain ⟨tky,rfl⟩:=re;simpa [deq,Bool.beq_eq_decide_eq] using SeqAt.RcNeAt.int_int x tkx y tky
  |str y=>
   obtain ⟨tky,rfl⟩:=re;simpa [deq] using SeqAt.RcNeAt.int_str x tkx y tky
  |tup y=>
   obtain ⟨py,itsy,rfl,ty,ry⟩:=re;simpa [deq] using SeqAt.RcNeAt.int_tuple x tkx ty hu0
  |lst y=>
   obtain ⟨py,itsy,rfl,ty,ry⟩:=re;simpa [deq] using SeqAt.RcNeAt.int_list x tkx ty hu0
  |_=>exact (show False from re).elim
 |str x=>
  obtain ⟨tkx,rfl⟩:=rd;cases e with
  |non=>
   cases re;simpa [deq] using SeqAt.RcNeAt.str_none x tkx
  |bl y=>
   cases re;simpa [deq] using SeqAt.RcNeAt.str_bool x tkx y
  |int y=>
   obtain ⟨tky,rfl⟩:=re;simpa [deq] using SeqAt.RcNeAt.str_int x tkx y tky
  |str y=>
   obtain ⟨tky,rfl⟩:=re;simpa [deq,Bool.beq_eq_decide_eq] using SeqAt.RcNeAt.str_str x tkx y tky
  |tup y=>
   obtain ⟨py,itsy,rfl,ty,ry⟩:=re;simpa [deq] using SeqAt.RcNeAt.str_tuple x tkx ty hu0
  |lst y=>
   obtain ⟨py,itsy,rfl,ty,ry⟩:=re;simpa [deq] using SeqAt.RcNeAt.str_list x tkx ty hu0
  |_=>exact (show False from re).elim
 |tup x=>
  obtain ⟨px,itsx,rfl,tx,rx⟩:=rd;cases e with
  |non=>
   cases re;simpa [deq] using SeqAt.RcNeAt.tuple_none tx hu0
  |bl y=>
   cases re;simpa [deq] using SeqAt.RcNeAt.tuple_bool y tx hu0
  |int y=>
   obtain ⟨tky,rfl⟩:=re;simpa [deq] using SeqAt.RcNeAt.tuple_int y tky tx hu0
  |str y=>
   obtain ⟨tky,rfl⟩:=re;simpa [deq] using SeqAt.RcNeAt.tuple_str y tky tx hu0
  |tup y=>
   obtain ⟨py,itsy,rfl,ty,ry⟩:=re;exact rcne_tup tx ty rx ry fd fe hu
  |lst y=>
   obtain ⟨py,itsy,rfl,ty,ry⟩:=re;simpa [deq] using SeqAt.RcNeAt.tuple_list tx ty hu0
  |_=>exact (show False from re).elim
 |lst x=>
  obtain ⟨px,itsx,rfl,tx,rx⟩:=rd;cases e with
  |non=>
   cases re;simpa [deq] using SeqAt.RcNeAt.list_none tx hu0
  |bl y=>
   cases re;simpa [deq] using SeqAt.RcNeAt.list_bool y tx hu0
  |int y=>
   obtain ⟨tky,rfl⟩:=re;simpa [deq] using SeqAt.RcNeAt.list_int y tky tx hu0
  |str y=>
   obtain ⟨tky,rfl⟩:=re;simpa [deq] using SeqAt.RcNeAt.list_str y tky tx hu0
  |tup y=>
   obtain ⟨py,itsy,rfl,ty,ry⟩:=re;simpa [deq] using SeqAt.RcNeAt.list_tuple tx ty hu0
  |lst y=>
   obtain ⟨py,itsy,rfl,ty,ry⟩:=re;exact rcne_lst tx ty rx ry fd fe hu
  |_=>exact (show False from re).elim
 |_=>exact (show False from rd).elim
section
variable {X:Cx}{B:Mem}{pins:List (Addr×Obj)}{σ:L2.St}{H:Hp}{s:Shared}{M:Mem}
mutual
theorem hr_of(I:Inv X pins σ H s):∀{n:Nat} {d:D} {v:V} {u:Value},fit n d=true->Rp X.K H d v->RelV v u->Hr s.heap d u
 |_,.non,v,u,_,r,q=>by cases r;exact q
 |_,.bl _,v,u,_,r,q=>by cases r;exact q
 |_,.int _,v,u,_,r,q=>by cases r;exact q
 |_,.str _,v,u,_,r,q=>by cases r;exact q
 |n+1,.tup xs,v,u,f,r,q=>by
  obtain ⟨p,vs,rfl,t,r⟩:=r;cases q;obtain ⟨its,rv,ht,_⟩:=I.tuple t.sq;exact ⟨p,its,rfl,ht,hrs_of I (n:=n) f r rv⟩
 |n+1,.lst xs,v,u,f,r,q=>by
  obtain ⟨p,vs,rfl,t,r⟩:=r;cases q;obtain ⟨its,rv,ht,_⟩:=I.list t.sq;exact ⟨p,its,rfl,ht.isList,hrs_of I (n:=n) f r rv⟩
 |0,.tup _,_,_,f,_,_=>by simp [fit] at f
 |0,.lst _,_,_,f,_,_=>by simp [fit] at f
 |_,.ty _,_,_,f,_,_=>by simp [fit] at f
 |_,.ref _,_,_,f,_,_=>by simp [fit] at f
 |_,.mt _,_,_,f,_,_=>by simp [fit] at f
 |_,.ml _,_,_,f,_,_=>by simp [fit] at f
theorem hrs_of(I:Inv X pins σ H s):∀{n:Nat} {ds:List D} {vs:List V} {us:List Value},fits n ds=true->Rps X.K H ds vs->Vals vs us->Hrs s.heap ds us
 |_,[],vs,us,_,r,q=>by cases r;cases q;rfl
 |n,d::ds,vs,us,f,r,q=>by
  obtain ⟨v,r',rfl,a,b⟩:=r;rw [fits,Bool.and_eq_true] at f;cases q with
  |cons q1 q2=>exact ⟨_,_,rfl,hr_of I f.1 a q1,hrs_of I f.2 b q2⟩
end
noncomputable def dv(M:Mem):D->D
 |.ref a=>match M a with
  |some (.lst xs)=>.lst xs
  |_=>.ref a
 |d=>d
theorem hr_dv(I:Inv X pins σ H s){n:Nat}{d:D}{v:V}{u:Value}(rh:RepH X.K H M)(f:fit n (dv M d)=true)(r:Rp X.K H d v)(q:RelV v u):Hr s.heap (dv M d) u:=by
 cases d with
 |ref a=>
  cases r;simp only [dv] at f ⊢
  split at f
  ·rename_i xs e
   obtain ⟨vs,h1,h2⟩:=rh _ _ e;obtain ⟨its,rv,ht,_⟩:=I.list (SqL.of h1);cases q;cases n with
   |zero=>simp [fit] at f
   |succ n=>exact ⟨a,its,rfl,ht.isList,hrs_of I (n:=n) f h2 rv⟩
  ·simp [fit] at f
 |_=>exact hr_of I f r q
noncomputable def oEq:dR2:=fun x y M Q=>fit 60 (dv M x)=true/\fit 60 (dv M y)=true/\Q (.bl (deq (dv M x) (dv M y))) M
noncomputable def oNe:dR2:=fun x y M Q=>fit 60 (dv M x)=true/\fit 60 (dv M y)=true/\Q (.bl (!deq (dv M x) (dv M y))) M
theorem op_eq'(hu:X.A.units+64<cLine):OpR X (compareOp .Eq) (liftR2 X oEq):=by
 intro pins s σ H x y v u Q I rx ry h;obtain ⟨d1,d2,M,QQ,rh,r1,r2,⟨f1,f2,h⟩,up⟩:=h;exact rc_at (hr_dv I rh f1 r1 rx) (hr_dv I rh f2 r2 ry) f1 f2 (by lia) _ _ _ _ ⟨.bl _,H,I,rfl,up _ M h _ H rh Frm.refl rfl⟩
theorem op_ne'(hu:X.A.units+64<cLine):OpR X (compareOp .NotEq) (liftR2 X oNe):=by
 intro pins s σ H x y v u Q I rx ry h;obtain ⟨d1,d2,M,QQ,rh,r1,r2,⟨f1,f2,h⟩,up⟩:=h;exact rcne_at (hr_dv I rh f1 r1 rx) (hr_dv I rh f2 r2 ry) f1 f2 (by lia) _ _ _ _ ⟨.bl _,H,I,rfl,up _ M h _ H rh Frm.refl rfl⟩
open Classical in
noncomputable def eqC(h:Heap)(x:D)(u:Value):Bool:=if q:∃d,Hr h d u then deq q.choose x else false
theorem eqC_of{h:Heap}{x d:D}{u:Value}(r:Hr h d u):eqC h x u=deq d x:=by
 have q:∃d,Hr h d u:=⟨d,r⟩;unfold eqC;rw [dif_pos q,hr_inj q.choose_spec r]
theorem any_eqC{h:Heap}{x:D}:∀{ds:List D} {us:List Value},Hrs h ds us->us.any (eqC h x)=ds.any fun d=>deq d x
 |[],_,r=>by cases r;rfl
 |d::ds,_,r=>by
  obtain ⟨v,r',rfl,a,b⟩:=r;rw [List.any_cons,List.any_cons,eqC_of a,any_eqC b]
theorem mem_eqC{A:Around}{n:Nat}{x:D}{w:Value}(rx:Hr s.heap x w)(fx:fit n x=true)(hu:A.units+n<cLine):∀{ds:List D} {us:List Value},Hrs s.heap ds us->fits n ds=true->∀u∈us,SeqAt.EqAt A s u w (eqC s.heap x u)
 |[],_,r,_,u,hu=>by cases r;cases hu
 |d::ds,_,r,f,u,h=>by
  obtain ⟨v,r',rfl,a,b⟩:=r;rw [fits,Bool.and_eq_true] at f;rcases List.mem_cons.mp h with rfl|h
  ·rw [eqC_of a];exact eq_at n a rx f.1 fx hu
  ·exact mem_eqC rx fx hu b f.2 u h
noncomputable def isIn(M:Mem)(x y:D):Option Bool:=match seqD M y with
 |some xs=>if fit 60 (dv M x)=true/\fits 60 xs=true then some (xs.any fun d=>deq d (dv M x)) else none
 |none=>match y with
  |.ref a=>match dget M a x with
   |some o=>some o.isSome
   |none=>none
  |_=>none
noncomputable def oIn:dR2:=fun x y M Q=>match isIn M x y with
 |some k=>Q (.bl k) M
 |none=>False
noncomputable def oNotIn:dR2:=fun x y M Q=>match isIn M x y with
 |some k=>Q (.bl (!k)) M
 |none=>False
theorem op_in'(hu:X.A.units+64<cLine):OpR X (compareOp .In) (liftR2 X oIn):=by
 intro pins s σ H x y v u Q I rx ry h;obtain ⟨d1,d2,M,QQ,rh,r1,r2,h,up⟩:=h;unfold oIn at h
 split at h
 ·rename_i k e
  have fin:=up _ M h _ H rh Frm.refl rfl;unfold isIn at e
  split at e
  ·rename_i xs ex
   split at e
   ·rename_i f
    cases e;obtain ⟨p,vs,rfl,hq,r⟩:=seqD_of rh r2 ex;cases ry;have hx:=hr_dv I rh f.1 r1 rx;rcases hq with hq|hq
    ·obtain ⟨its,rv,pl,_⟩:=I.list hq
     have hs:=hrs_of I f.2 r rv;refine SeqAt.in_listAt (eqC s.heap (dv M d1)) pl.isList (fun w hw=>mem_eqC hx f.1 (by show X.A.units+1+60<cLine;lia) hs f.2 w (by simpa using hw)) ⟨.bl _,H,I,rfl,?_⟩
     rw [show its.toArray.any (eqC s.heap (dv M d1))=its.any (eqC s.heap (dv M d1)) by simp,any_eqC hs]
     exact fin
    ·obtain ⟨its,rv,pl,_⟩:=I.tuple hq
     have hs:=hrs_of I f.2 r rv;refine SeqAt.in_tupleAt (eqC s.heap (dv M d1)) pl (fun w hw=>mem_eqC hx f.1 (by show X.A.units+1+60<cLine;lia) hs f.2 w (by simpa using hw)) ⟨.bl _,H,I,rfl,?_⟩
     rw [show its.toArray.any (eqC s.heap (dv M d1))=its.any (eqC s.heap (dv M d1)) by simp,any_eqC hs]
     exact fin
   ·cases e
  ·split at e
   ·split at e
    ·rename_i o eo
     cases e;cases r2;cases ry;rcases dget_of rh r1 eo with ⟨rfl,g⟩|⟨d,w,rfl,g,_⟩
     ·exact d_in (by lia) I g rx fun s' I'=>⟨.bl _,H,I',rfl,fin⟩
     ·exact d_in (by lia) I g rx fun s' I'=>⟨.bl _,H,I',rfl,fin⟩
    ·cases e
   ·cases e
 ·exact h.elim
theorem op_notIn'(hu:X.A.units+64<cLine):OpR X (compareOp .NotIn) (liftR2 X oNotIn):=by
 intro pins s σ H x y v u Q I rx ry h;obtain ⟨d1,d2,M,QQ,rh,r1,r2,h,up⟩:=h;unfold oNotIn at h
 split at h
 ·rename_i k e
  have fin:=up _ M h _ H rh Frm.refl rfl;unfold isIn at e
  split at e
  ·rename_i xs ex
   split at e
   ·rename_i f
    cases e;obtain ⟨p,vs,rfl,hq,r⟩:=seqD_of rh r2 ex;cases ry;have hx:=hr_dv I rh f.1 r1 rx;rcases hq with hq|hq
    ·obtain ⟨its,rv,pl,_⟩:=I.list hq
     have hs:=hrs_of I f.2 r rv;refine SeqAt.notIn_listAt (eqC s.heap (dv M d1)) pl.isList (fun w hw=>mem_eqC hx f.1 (by show X.A.units+1+60<cLine;lia) hs f.2 w (by simpa using hw)) ⟨.bl _,H,I,rfl,?_⟩
     rw [show its.toArray.any (eqC s.heap (dv M d1))=its.any (eqC s.heap (dv M d1)) by simp,any_eqC hs]
     exact fin
    ·obtain ⟨its,rv,pl,_⟩:=I.tuple hq
     have hs:=hrs_of I f.2 r rv;refine SeqAt.notIn_tupleAt (eqC s.heap (dv M d1)) pl (fun w hw=>mem_eqC hx f.1 (by show X.A.units+1+60<cLine;lia) hs f.2 w (by simpa using hw)) ⟨.bl _,H,I,rfl,?_⟩
     rw [show its.toArray.any (eqC s.heap (dv M d1))=its.any (eqC s.heap (dv M d1)) by simp,any_eqC hs]
     exact fin
   ·cases e
  ·split at e
   ·split at e
    ·rename_i o eo
     cases e;cases r2;cases ry;rcases dget_of rh r1 eo with ⟨rfl,g⟩|⟨d,w,rfl,g,_⟩
     ·exact d_notIn (by lia) I g rx fun s' I'=>⟨.bl _,H,I',rfl,fin⟩
     ·exact d_notIn (by lia) I g rx fun s' I'=>⟨.bl _,H,I',rfl,fin⟩
    ·cases e
   ·cases e
 ·exact h.elim
end
end L3
namespace L3
open PySem L2
structure DEnds where
 nx:Dl->Mem->Prop
 rt:DK
 bk:Dl->Mem->Prop:=fun _ _=>False
 ct:Dl->Mem->Prop:=fun _ _=>False
noncomputable abbrev dTS:=DEnds->Dl->Mem->Prop
noncomputable def UpN(X:Cx)(B M:Mem)(H:Hp)(QQ:Dl->Mem->Prop)(Q:L2.St->Hp->Prop):Prop:=∀δ M',QQ δ M'->∀σ H',Frm M H M' H'->SR X B δ M' σ H'->Q σ H'
theorem UpN.go{X:Cx}{B M M1:Mem}{H H1:Hp}{QQ:Dl->Mem->Prop}{Q:L2.St->Hp->Prop}(u:UpN X B M H QQ Q)(i:Frm M H M1 H1):UpN X B M1 H1 QQ Q:=fun δ M q σ H' a b=>u δ M q σ H' (i.trans a) b
structure UpD(X:Cx)(B M:Mem)(H:Hp)(DD:DEnds)(D:Ends):Prop where
 nx:UpN X B M H DD.nx D.nx
 rt:Up X.K M H DD.rt D.rt
 bk:UpN X B M H DD.bk D.bk
 ct:UpN X B M H DD.ct D.ct
theorem UpD.go{X:Cx}{B M M1:Mem}{H H1:Hp}{DD:DEnds}{D:Ends}(u:UpD X B M H DD D)(i:Frm M H M1 H1):UpD X B M1 H1 DD D:=⟨u.nx.go i,u.rt.go i,u.bk.go i,u.ct.go i⟩
inductive liftS(X:Cx)(B:Mem)(T:dTS)(D:Ends)(σ:St)(H:Hp):Prop
 |mk (δ:Dl) (M:Mem) (DD:DEnds) (s:SR X B δ M σ H) (h:T DD δ M) (u:UpD X B M H DD D):liftS X B T D σ H
noncomputable def DS(X:Cx)(B:Mem)(st:Stmt)(T:dTS):Prop:=PS X st (liftS X B T)
noncomputable def DSs(X:Cx)(B:Mem)(st:List Stmt)(T:dTS):Prop:=PSs X st (liftS X B T)
section
variable {X:Cx}{B:Mem}{st:Stmt}{rest:List Stmt}{t u:dTS}{e:Expr}{te:dTE}{pos:Pos}
noncomputable def dNext:dTS:=fun D δ M=>D.nx δ M
noncomputable def dSeq(t u:dTS):dTS:=fun D δ M=>t { D with nx:=u D } δ M
theorem dss_nil:DSs X B [] dNext:=pss_weak pss_nil fun D σ H ⟨δ,M,DD,s,h,up⟩=>up.nx δ M h σ H Frm.refl s
theorem dss_cons(h1:DS X B st t)(h2:DSs X B rest u):DSs X B (st::rest) (dSeq t u):=by
 refine pss_weak (pss_cons h1 h2) ?_
 rintro D σ H ⟨δ,M,DD,s,h,up⟩
 exact ⟨δ,M,{ DD with nx:=u DD },s,h,⟨fun δ' M' q σ' H' i s'=>⟨δ',M',DD,s',q,up.go i⟩,up.rt,up.bk,up.ct⟩⟩
theorem dss_one(h1:DS X B st t):DSs X B [st] t:=pss_one h1
noncomputable def dDrop(te:dTE):dTS:=fun D δ M=>te δ M fun _ M1=>D.nx δ M1
theorem ds_expr(he:DE X B e te)(hs:swapsWith e none pos.line X.env=pure false:=by rfl):DS X B (.Expr e pos) (dDrop te):=by
 refine ps_weak (ps_expr he hs) ?_
 rintro D σ H ⟨δ,M,DD,s,h,up⟩
 exact ⟨δ,M,_,s,h,fun d M' q v H' rh i r=>up.nx δ M' q σ H' i (s.go rh i)⟩
noncomputable def dRet(te:dTE):dTS:=fun D δ M=>te δ M D.rt
theorem ds_ret(he:DE X B e te):DS X B (.Return (some e) pos) (dRet te):=by
 refine ps_weak (ps_ret he) ?_
 rintro D σ H ⟨δ,M,DD,s,h,up⟩
 exact ⟨δ,M,_,s,h,up.rt⟩
noncomputable def dIfS(c:dTT)(t u:dTS):dTS:=fun D δ M=>c δ M fun b M1=>if b=true then t D δ M1 else u D δ M1
theorem ds_if{c:Expr}{a b:List Stmt}{tc:dTT}(hc:DT X B c tc)(ha:DSs X B a t)(hb:DSs X B b u):DS X B (.If c a b pos) (dIfS tc t u):=by
 refine ps_weak (ps_if hc ha hb) ?_
 rintro D σ H ⟨δ,M,DD,s,h,up⟩
 refine ⟨δ,M,_,s,h,fun c M' q H' rh i=>?_⟩;cases c with
 |true=>rw [if_pos rfl] at q ⊢;exact ⟨δ,M',DD,s.go rh i,q,up.go i⟩
 |false=>rw [if_neg Bool.false_ne_true] at q ⊢;exact ⟨δ,M',DD,s.go rh i,q,up.go i⟩
noncomputable abbrev dTG:=D->Dl->Mem->(Dl->Mem->Prop)->Prop
noncomputable abbrev dTGs:=List D->Dl->Mem->(Dl->Mem->Prop)->Prop
inductive liftG(X:Cx)(B:Mem)(g:dTG)(v:V)(σ:St)(H:Hp)(Q:St->Hp->Prop):Prop
 |mk (d:L3.D) (δ:Dl) (M:Mem) (QQ:Dl->Mem->Prop) (s:SR X B δ M σ H) (r:Rp X.K H d v) (h:g d δ M QQ) (u:UpN X B M H QQ Q):liftG X B g v σ H Q
inductive liftGs(X:Cx)(B:Mem)(g:dTGs)(vs:List V)(σ:St)(H:Hp)(Q:St->Hp->Prop):Prop
 |mk (ds:List L3.D) (δ:Dl) (M:Mem) (QQ:Dl->Mem->Prop) (s:SR X B δ M σ H) (r:Rps X.K H ds vs) (h:g ds δ M QQ) (u:UpN X B M H QQ Q):liftGs X B g vs σ H Q
noncomputable def DG(X:Cx)(B:Mem)(tg:Expr)(g:dTG):Prop:=PG X tg (liftG X B g)
noncomputable def DGs(X:Cx)(B:Mem)(tgs:List Expr)(g:dTGs):Prop:=PGs X tgs (liftGs X B g)
theorem pg_weak{tg:Expr}{t t':TG}(h:PG X tg t)(w:∀v σ H Q,t' v σ H Q->t v σ H Q):PG X tg t':=fun pins s σ H v u Q I r q=>h pins s σ H v u Q I r (w v σ H Q q)
theorem pgs_weak{tg:List Expr}{t t':TGs}(h:PGs X tg t)(w:∀v σ H Q,t' v σ H Q->t v σ H Q):PGs X tg t':=fun pins s σ H v u Q I r q=>h pins s σ H v u Q I r (w v σ H Q q)
theorem SR.set{δ:Dl}{M:Mem}{σ:L2.St}{H:Hp}{i:Nat}{d:D}{v:V}(s:SR X B δ M σ H)(r:Rp X.K H d v):SR X B (δ.set i (some d)) M (σ.set i (some v)) H:=⟨s.i0,s.rh,s.rs.set r⟩
noncomputable def hName(i:Nat):dTG:=fun d δ M Q=>Q (δ.set i (some d)) M
theorem dg_name{i:Nat}{x:Str}(hN:X.N.Nodup)(hi:X.N[i]?=some x)(hx:Loc X.env.scope x)(hf:X.fn x=true\/X.env.scope.names.lookup x=some .local:=by first|exact .inl rfl|exact .inr rfl|assumption):DG X B (.Name x pos) (hName i):=by
 refine pg_weak (pg_name hN hi hx hf) ?_
 rintro v σ H Q ⟨d,δ,M,QQ,s,r,h,u⟩
 exact u _ M h _ H Frm.refl (s.set r)
noncomputable def hNil:dTGs:=fun ds δ M Q=>match ds with
 |[]=>Q δ M
 |_=>False
noncomputable def hCons(t:dTG)(u:dTGs):dTGs:=fun ds δ M Q=>match ds with
 |d::r=>t d δ M fun δ' M'=>u r δ' M' Q
 |[]=>False
theorem dgs_nil:DGs X B [] hNil:=by
 refine pgs_weak pgs_nil ?_
 rintro v σ H Q ⟨ds,δ,M,QQ,s,r,h,u⟩
 cases ds with
 |nil=>exact ⟨r,u δ M h σ H Frm.refl s⟩
 |cons _ _=>exact (show False from h).elim
theorem dgs_cons{e:Expr}{es:List Expr}{t:dTG}{u:dTGs}(h1:DG X B e t)(h2:DGs X B es u)
  (hs:(assignEach (e::es) X.env).map (·.2)=assign e X.env::(assignEach es X.env).map (·.2):=by rfl):DGs X B (e::es) (hCons t u):=by
 refine pgs_weak (pgs_cons h1 h2 hs) ?_
 rintro v σ H Q ⟨ds,δ,M,QQ,s,r,h,up⟩
 cases ds with
 |nil=>exact (show False from h).elim
 |cons d ds=>
  obtain ⟨v1,vr,rfl,r1,r2⟩:=r;refine ⟨v1,vr,rfl,d,δ,M,_,s,r1,h,fun δ' M' q σ' H' i s'=>?_⟩;exact ⟨ds,δ',M',QQ,s',r2.mf s.rh i,q,up.go i⟩
noncomputable def hTup(n:Nat)(t:dTGs):dTG:=fun d δ M Q=>match d with
 |.tup xs=>xs.length=n/\t xs δ M Q
 |_=>False
theorem dg_tup{es:List Expr}{k:Nat}{t:dTGs}{n:Nat}(hc:X.calm=true)(h:DGs X B es t)
  (hn:(assignEach es X.env).length=n:=by rfl) (hst:(assignEach es X.env).findIdx? (·.1)=none:=by rfl):DG X B (.Tuple es k pos) (hTup n t):=by
 refine pg_weak (pg_tup hc h hn hst) ?_
 rintro v σ H Q ⟨d,δ,M,QQ,s,r,h,up⟩
 cases d with
 |tup xs=>
  obtain ⟨p,vs,rfl,ht,r⟩:=r;exact ⟨p,vs,rfl,ht.sq,by rw [<- r.length];exact h.1,xs,δ,M,QQ,s,r,h.2,up⟩
 |_=>exact (show False from h).elim
noncomputable def dAsg(te:dTE)(g:dTG):dTS:=fun D δ M=>te δ M fun x M1=>g x δ M1 D.nx
theorem ds_asg{tg e:Expr}{te:dTE}{g:dTG}(he:DE X B e te)(hg:DG X B tg g)(hs:swapsWithSole [tg] e pos.line X.env=pure false:=by rfl)(hw:swappedStores [tg] e X.env=pure none:=by rfl)
  (h1:(assignEach [tg] X.env).map (·.2)=[assign tg X.env]:=by rfl):DS X B (.Assign [tg] e pos) (dAsg te g):=by
 refine ps_weak (ps_asg he hg hs hw h1) ?_
 rintro D σ H ⟨δ,M,DD,s,h,up⟩
 refine ⟨δ,M,_,s,h,fun d M' q v H' rh i r=>?_⟩;exact ⟨d,δ,M',DD.nx,s.go rh i,r,q,up.nx.go i⟩
theorem ds_set{i:Nat}{x:Str}{e:Expr}{te:dTE}{pos':Pos}(hN:X.N.Nodup)(hi:X.N[i]?=some x)(hx:Loc X.env.scope x)(he:DE X B e te)(hs:swapsWith e (some (.Name x pos')) pos.line X.env=pure false:=by rfl)(hf:X.fn x=true\/X.env.scope.names.lookup x=some .local:=by first|exact .inl rfl|exact .inr rfl|assumption):
  DS X B (.Assign [.Name x pos'] e pos) (dAsg te (hName i)):=by
 refine ps_weak (ps_set hN hi hx he hs hf) ?_
 rintro D σ H ⟨δ,M,DD,s,h,up⟩
 refine ⟨δ,M,_,s,h,fun d M' q v H' rh i r=>?_⟩;exact up.nx _ M' q _ H' i ((s.go rh i).set r)
noncomputable def dAug(i:Nat)(te:dTE)(r:dR2):dTS:=fun D δ M=>match δ[i]? with
 |some (some x)=>te δ M fun y M1=>r x y M1 fun z M2=>D.nx (δ.set i (some z)) M2
 |_=>False
noncomputable def sSet(o i v:D)(M:Mem)(Q:Mem->Prop):Prop:=match o with
 |.ref a=>match M a,i with
  |some (.lst xs),.int k=>match ixN xs.length k with
   |some j=>Q (M.upd a (.lst (xs.set j v)))
   |none=>False
  |some (.dK kvs),y=>match keyOf y with
   |some k=>kvs.length<sizeLine/\Q (M.upd a (.dK (putD kvs k v)))
   |none=>False
  |some (.dT kvs),y=>match keyT y with
   |some k=>kvs.length<sizeLine/\Q (M.upd a (.dT (putD kvs k v)))
   |none=>False
  |_,_=>False
 |_=>False
inductive liftSet(X:Cx)(o i v:V)(H:Hp)(Q:Hp->Prop):Prop
 |mk (d1 d2 d3:L3.D) (M:Mem) (QQ:Mem->Prop) (rh:RepH X.K H M) (r1:Rp X.K H d1 o) (r2:Rp X.K H d2 i) (r3:Rp X.K H d3 v) (h:sSet d1 d2 d3 M QQ) (u:∀M',QQ M'->∀H',RepH X.K H' M'->Frm M H M' H'->Q H'):liftSet X o i v H Q
theorem set_all(hu:X.A.units+1<cLine):PSet X (liftSet X):=by
 intro pins s σ H o i v ov iv u Q I ro ri rv h;obtain ⟨d1,d2,d3,M,QQ,rh,r1,r2,r3,h,up⟩:=h;unfold sSet at h
 split at h
 ·rename_i a
  cases r1;cases ro
  split at h
  ·rename_i xs k hM
   cases r2;obtain ⟨vs,h1,h2⟩:=rh _ _ hM
   split at h
   ·rename_i j ej
    refine set_list pins s σ H (.ref a) _ v _ iv u Q I rfl ri rv ⟨a,vs,k,j,rfl,rfl,h1,by rw [<- h2.length];exact ej,?_⟩
    have i2:Imm H (upd H a (.lst (vs.set j v))):=Imm.upd (by rw [h1];trivial)
    exact up _ h _ (rh.put (by rw [h1];trivial) ⟨_,upd_same,(h2.set r3 j).mono i2⟩) (Frm.put (.inr ⟨_,hM⟩))
   ·exact h.elim
  ·rename_i kvs hM
   obtain ⟨ws,h1,h2⟩:=rh _ _ hM
   split at h
   ·rename_i k ek
    have ev:=key_rel r2 ek;subst ev;have i2:Imm H (upd H a (.dK (putK ws k v))):=Imm.upd (by rw [h1];trivial)
    refine d_setItem hu I (DPut.k h1 (by rw [<- h2.length];exact h.1)) ri rv fun s' I'=>⟨_,I',?_⟩
    exact up _ h.2 _ (rh.put (by rw [h1];trivial) ⟨_,upd_same,(h2.put k r3).mono i2⟩) (Frm.put (.inr ⟨_,hM⟩))
   ·exact h.elim
  ·rename_i kvs hM
   obtain ⟨ws,h1,h2⟩:=rh _ _ hM
   split at h
   ·rename_i k ek
    obtain ⟨b,rfl,hb⟩:=keyT_rel r2 ek;have i2:Imm H (upd H a (.dT (putK ws k v))):=Imm.upd (by rw [h1];trivial)
    refine d_setItem hu I (DPut.t h1 hb (by rw [<- h2.length];exact h.1)) ri rv fun s' I'=>⟨_,I',?_⟩
    exact up _ h.2 _ (rh.put (by rw [h1];trivial) ⟨_,upd_same,(h2.put k r3).mono i2⟩) (Frm.put (.inr ⟨_,hM⟩))
   ·exact h.elim
  ·exact h.elim
 ·exact h.elim
noncomputable def hSub(to ti:dTE):dTG:=fun v δ M Q=>to δ M fun o M1=>ti δ M1 fun i M2=>sSet o i v M2 fun M3=>Q δ M3
theorem dg_sub{o i:Expr}{to ti:dTE}(hu:X.A.units+1<cLine)(ho:DE X B o to)(hi:DE X B i ti)
  (ha:∀v,assign (.Subscript o i pos) X.env v=(do
   let ov <- holding [v] (eval o X.env)
   let iv <- holding [v,ov] (eval i X.env)
   standAt pos
   holding [v,ov,iv] (setItem ov iv v)
   release [v,ov,iv] []):=by intro _;rfl):DG X B (.Subscript o i pos) (hSub to ti):=by
 refine pg_weak (pg_sub ho hi (set_all hu) ha) ?_
 rintro v σ H Q ⟨d,δ,M,QQ,s,r,h,up⟩
 refine ⟨δ,M,_,s,h,fun x M1 h1 v1 H1 rh1 i1 r1=>?_⟩;refine ⟨δ,M1,_,s.go rh1 i1,h1,fun y M2 h2 v2 H2 rh2 i2 r2=>?_⟩;exact ⟨x,y,d,M2,_,rh2,r1.mf rh1 i2,r2,r.mf s.rh (i1.trans i2),h2,fun M3 h3 H3 rh3 i3=>up δ M3 h3 σ H3 ((i1.trans i2).trans i3) (s.go rh3 ((i1.trans i2).trans i3))⟩
end
end L3
namespace L3
open PySem L2
section
variable {X:Cx}{B:Mem}{o e value:Expr}{f:Str}{pos pos' tpos:Pos}{ta tv te:dTE}{C:Addr}
noncomputable def dputF(f:Str)(v:D):List (Str×D)->List (Str×D)
 |[]=>[(f,v)]
 |(g,w)::r=>if g=f then (g,v)::r else (g,w)::dputF f v r
theorem Rkv.lookup{K:PySem.W.Frag}{H:Hp}{fs:List (Str×D)}{ws:List (Str×V)}(h:Rkv K H fs ws)(f:Str):(fs.lookup f=none/\ws.lookup f=none)\/∃d v,fs.lookup f=some d/\ws.lookup f=some v/\Rp K H d v:=by
 induction h with
 |nil=>exact .inl ⟨rfl,rfl⟩
 |@cons p q ps qs r t ih=>
  obtain ⟨k1,d⟩:=p;obtain ⟨k2,v⟩:=q;obtain ⟨e,r⟩:=r;dsimp only at e r;subst e;rw [List.lookup_cons,List.lookup_cons];cases hk:f==k1 with
  |true=>exact .inr ⟨d,v,rfl,rfl,r⟩
  |false=>exact ih
theorem putF_eq(f:Str)(v:V):∀ws:List (Str×V),putF f v ws=(match ws with|[]=>[(f,v)]|(g,w)::r=>if g=f then (g,v)::r else (g,w)::putF f v r)
 |[]=>rfl
 |(g,w)::r=>by rw [putF]
theorem Rkv.putF{K:PySem.W.Frag}{H:Hp}{f:Str}{d:D}{v:V}(rd:Rp K H d v):∀{fs:List (Str×D)} {ws:List (Str×V)},Rkv K H fs ws->Rkv K H (dputF f d fs) (L2.putF f v ws)
 |_,_,.nil=>.cons ⟨rfl,rd⟩ .nil
 |(k1,d1)::fs,(k2,v1)::ws,.cons r t=>by
  obtain ⟨e,r⟩:=r;dsimp only at e r;subst e;rw [putF_eq];show Rkv K H (if k1=f then (k1,d)::fs else (k1,d1)::dputF f d fs) (if k1=f then (k1,v)::ws else (k1,v1)::L2.putF f v ws)
  split
  ·exact .cons ⟨rfl,rd⟩ t
  ·exact .cons ⟨rfl,r⟩ (Rkv.putF rd t)
noncomputable def dFld(C:Addr)(ta:dTE)(f:Str):dTE:=fun δ M Q=>ta δ M fun x M1=>match x with
 |.ref a=>match M1 a with
  |some (.ins C' fs)=>C'=C/\match fs.lookup f with
   |some d=>Q d M1
   |none=>False
  |_=>False
 |_=>False
theorem de_fld(c:Cls X.K C)(n:NoAttr X.K C f)(he:DE X B e ta)(hb:attributeBase e f X.env (eval e X.env)=eval e X.env:=by rfl):DE X B (.Attribute e f pos) (dFld C ta f):=by
 refine pe_weak (pe_fld he hb) ?_
 rintro σ H Q ⟨δ,M,QQ,s,h,u⟩
 refine ⟨δ,M,_,s,h,fun x M1 h1 v1 H1 rh1 i1 r1=>?_⟩
 split at h1
 ·rename_i a
  cases r1
  split at h1
  ·rename_i C' fs hM
   obtain ⟨rfl,h1⟩:=h1;obtain ⟨dx,ws,e1,e2⟩:=rh1 _ _ hM
   split at h1
   ·rename_i d ed
    rcases e2.lookup f with ⟨z,_⟩|⟨d',v,z1,z2,z3⟩
    ·rw [ed] at z;cases z
    ·rw [ed] at z1;cases z1
     exact ⟨a,_,dx,ws,v,rfl,e1,c,n,z2,u _ M1 h1 _ H1 rh1 i1 z3⟩
   ·exact h1.elim
  ·exact h1.elim
 ·exact h1.elim
noncomputable def dFldS(C:Addr)(ta tv:dTE)(f:Str):dTS:=fun D δ M=>tv δ M fun y M1=>ta δ M1 fun x M2=>match x with
 |.ref a=>match M2 a with
  |some (.ins C' fs)=>C'=C/\fs.length<1000/\D.nx δ (M2.upd a (.ins C (dputF f y fs)))
  |_=>False
 |_=>False
theorem ds_fld(c:Cls X.K C)(n:NoAttr X.K C f)(ha:DE X B o ta)(hv:DE X B value tv)(hs:swapsWith value (some (.Attribute o f pos')) pos.line X.env=pure false:=by rfl):DS X B (.Assign [.Attribute o f pos'] value pos) (dFldS C ta tv f):=by
 refine ps_weak (ps_fld ha hv hs) ?_
 rintro D σ H ⟨δ,M,DD,s,h,up⟩
 refine ⟨δ,M,_,s,h,fun y M1 h1 v1 H1 rh1 i1 r1=>?_⟩;refine ⟨δ,M1,_,s.go rh1 i1,h1,fun x M2 h2 v2 H2 rh2 i2 r2=>?_⟩
 split at h2
 ·rename_i a
  cases r2
  split at h2
  ·rename_i C' fs hM
   obtain ⟨rfl,hl,h2⟩:=h2;obtain ⟨dx,ws,e1,e2⟩:=rh2 _ _ hM;have i3:Frm M2 H2 (M2.upd a (.ins C' (dputF f y fs))) (upd H2 a (.ins C' dx (L2.putF f v1 ws))):=Frm.put (.inr ⟨_,hM⟩);refine ⟨a,C',dx,ws,rfl,e1,c,n,by rw [<- e2.length];exact hl,up.nx _ _ h2 σ _ ((i1.trans i2).trans i3) (s.go (rh2.put (by rw [e1];trivial) ⟨dx,_,upd_same,?_⟩) ((i1.trans i2).trans i3))⟩
   exact (Rkv.putF (r1.mf rh1 i2) e2).mono (i3.imm rh2)
  ·exact h2.elim
 ·exact h2.elim
structure BxF(g:dTG)(tb:dTS)(D:DEnds)(ok:Mem->Prop):Type
structure DIt where
 items:List D
 src:List (Addr×List D)
noncomputable def DIt.ok(I:DIt)(M:Mem):Prop:=∀p∈I.src,M p.1=some (.lst p.2)
noncomputable abbrev dTI:=Dl->Mem->(DIt->Mem->Prop)->Prop
noncomputable def ItOk(K:PySem.W.Frag)(H0:Hp)(it:DIt)(J:It):Prop:=∀(i:Nat) (H:Hp) (M:Mem),Imm H0 H->RepH K H M->it.ok M->
 (∀d,it.items[i]?=some d->J.go i H/\∀x H',J.yld i H x H'->Frm M H M H'/\RepH K H' M/\Rp K H' d x)/\(it.items.length<=i->J.stop i H)
inductive liftI(X:Cx)(B:Mem)(T:dTI)(σ:St)(H:Hp)(R:It->Hp->Prop):Prop
 |mk (δ:Dl) (M:Mem) (RR:DIt->Mem->Prop) (s:SR X B δ M σ H) (h:T δ M RR) (u:∀it M',RR it M'->∀J H',RepH X.K H' M'->Frm M H M' H'->ItOk X.K H' it J->R J H'):liftI X B T σ H R
noncomputable def DI(X:Cx)(B:Mem)(tg iter:Expr)(T:dTI):Prop:=PI X tg iter (liftI X B T)
theorem pi_weak{tg iter:Expr}{t t':TI}(h:PI X tg iter t)(w:∀σ H Q,t' σ H Q->t σ H Q):PI X tg iter t':=fun pins s σ H Q I q=>h pins s σ H Q I (w σ H Q q)
noncomputable def forD(g:dTG)(tb:dTS)(DD:DEnds)(ok:Mem->Prop)(b:BxF g tb DD ok):List D->Dl->Mem->Prop
 |[],δ,M=>ok M/\DD.nx δ M
 |x::xs,δ,M=>ok M/\g x δ M fun δ2 M2=>tb { DD with nx:=forD g tb DD ok b xs,ct:=forD g tb DD ok b xs,bk:=DD.nx } δ2 M2
noncomputable def dFor(wi:dTI)(g:dTG)(tb:dTS):dTS:=fun D δ M=>wi δ M fun it M1=>forD g tb D it.ok ⟨⟩ it.items δ M1
theorem forD_ok{g:dTG}{tb:dTS}{DD:DEnds}{ok:Mem->Prop}{b:BxF g tb DD ok}{xs:List D}{δ:Dl}{M:Mem}(h:forD g tb DD ok b xs δ M):ok M:=by
 cases xs with
 |nil=>exact h.1
 |cons _ _=>exact h.1
theorem ds_for{tg iter:Expr}{body:List Stmt}{wi:dTI}{g:dTG}{tb:dTS}(hp:PassesOwn (model X.prog X.w) X.A X.env X.xe)(hc:X.calm=true)(hi:DI X B tg iter wi)(hg:DG X B tg g)(hb:DSs X B body tb)
  (hs:∀x,foldedSetIterable iter X.env x=pure x:=by intro _;rfl):DS X B (.For tg iter body [] pos) (dFor wi g tb):=by
 refine ps_weak (ps_for hp hc hi hg hb hs) ?_
 rintro D σ H ⟨δ,M,DD,s,h,up⟩
 refine ⟨δ,M,_,s,h,fun it M1 h1 J H1 rh1 i1 hJ=>?_⟩;refine ⟨fun i m σ' H'=>m=it.items.length-i/\i<=it.items.length/\∃δ' M',SR X B δ' M' σ' H'/\Frm M1 H1 M' H'/\forD g tb DD it.ok ⟨⟩ (it.items.drop i) δ' M',⟨_,rfl,Nat.zero_le _,δ,M1,s.go rh1 i1,Frm.refl,h1⟩,?_⟩
 rintro i m σ2 H2 ⟨rfl,hi',δ2,M2,s2,i2,h2⟩
 have hok:=forD_ok h2;obtain ⟨hgo,hstop⟩:=hJ i H2 M2 (i2.imm rh1) s2.rh hok
 by_cases hlt:i<it.items.length
 ·rw [List.drop_eq_getElem_cons hlt] at h2
  obtain ⟨go,hy⟩:=hgo _ (List.getElem?_eq_getElem hlt);refine .inr ⟨go,fun σ' H'=>∃δ' M',SR X B δ' M' σ' H'/\Frm M1 H1 M' H'/\forD g tb DD it.ok ⟨⟩ (it.items.drop (i+1)) δ' M',fun σ' H' z=>⟨it.items.length-(i+1),by omega,rfl,hlt,z⟩,fun x H3 hx=>?_⟩
  obtain ⟨i3,rh3,rx⟩:=hy x H3 hx;refine ⟨_,δ2,M2,_,s2.go rh3 i3,rx,h2.2,fun δ4 M4 h4 σ4 H4 i4 s4=>?_⟩;have i14:=(i2.trans i3).trans i4;refine ⟨δ4,M4,_,s4,h4,⟨?_,(up.go (i1.trans i14)).rt,(up.go (i1.trans i14)).nx,?_⟩⟩
  ·exact fun δ5 M5 q5 σ5 H5 i5 s5=>⟨δ5,M5,s5,i14.trans i5,q5⟩
  ·exact fun δ5 M5 q5 σ5 H5 i5 s5=>⟨δ5,M5,s5,i14.trans i5,q5⟩
 ·rw [List.drop_eq_nil_of_le (by omega)] at h2
  exact .inl ⟨hstop (by omega),up.nx _ _ h2.2 σ2 H2 (i1.trans i2) s2⟩
end
end L3
namespace L2
open PySem PySem.Spec PyProof.Rows
section
variable {X:Cx}{B:Mem}{tg:Expr}
noncomputable def iSeqA(K:PySem.W.Frag)(tl:TE):TI:=fun σ H R=>tl σ H fun x H1=>∃a b xs,x=.ref a/\SqB K b H1 a xs/\R (if b=true then Itl K a else Itt K a) H1
theorem pi_seqA{l:Expr}{tl:TE}(hl:PE X l tl):PI X tg l (iSeqA X.K tl):=by
 intro pins s σ H R I h;refine thn (hl pins s σ H _ I h) fun v s1 ⟨x,H1,I1,r1,q1⟩=>?_;obtain ⟨a,b,xs,e,hq,q⟩:=q1;subst e;cases r1;cases b with
 |true=>
  obtain ⟨its,rv,p,hz⟩:=I1.list (show SqL X.K H1 a xs from hq);refine wpAny_pyIter_list p.isList ?_;refine ⟨s1.heap.objs.size,[s1.heap.objs.size],_,_,H1,rfl,I1.kept (t':=s1.toks) fun b o e=>Heap.get?_push_of_some _ e,turn_list a _,⟨_,Heap.get?_push_size _ rfl,rfl,rfl⟩,fun b hb=>?_,q⟩;have e:b=s1.heap.objs.size:=by simpa using hb
  subst e;exact I1.fpOk (Nat.le_refl _) (I1.hok.fresh (Nat.le_refl _))
 |false=>
  obtain ⟨its,rv,p,hz⟩:=I1.tuple (show SqT X.K H1 a xs from hq);refine wpAny_pyIter_tuple (show s1.heap.IsTuple a its.toArray from p) ?_;refine ⟨s1.heap.objs.size,[s1.heap.objs.size],_,_,H1,rfl,I1.kept (t':=s1.toks) fun b o e=>Heap.get?_push_of_some _ e,turn_tuple a _,⟨_,Heap.get?_push_size _ rfl,rfl,rfl⟩,fun b hb=>?_,q⟩;have e:b=s1.heap.objs.size:=by simpa using hb
  subst e;exact I1.fpOk (Nat.le_refl _) (I1.hok.fresh (Nat.le_refl _))
noncomputable def iZipA(K:PySem.W.Frag)(t:TA):TI:=fun σ H R=>t σ H fun vs H1=>∃b1 b2 l1 l2 xs ys,vs=[.ref l1,.ref l2]/\SqB K b1 H1 l1 xs/\SqB K b2 H1 l2 ys/\R (Itz K b1 b2 l1 l2) H1
theorem pi_zipA{a b:Expr}{elts:List Expr}{x1:Nat}{tp:Pos}{ta:TA}{p pos:Pos}(hg:Gl X "zip")(hm:X.mg "zip"=none)(ha:PA X [a,b] ta)
  (hs:starEach [a,b] X.env=[(false,eval a X.env),(false,eval b X.env)]:=by rfl) (hs2:starEach [b] X.env=[(false,eval b X.env)]:=by rfl):
  PI X (.Tuple elts x1 tp) (.Call (.Name "zip" p) [a,b] [] pos) (iZipA X.K ta):=by
 intro pins s σ H R I h;refine Call_ (ld_blt I hg hm (by decide +kernel:bootBuiltins "zip"=some (.type "zip")) (PyProof.Rows.callWith_type1 (thn (ha pos pins s σ H _ I h) fun us s1 ⟨vs,H1,I1,r1,q1⟩=>?_) (by rw [hs,hs2]) (by rw [hs2];rfl)))
 obtain ⟨b1,b2,l1,l2,xs,ys,e,q1,q2,q⟩:=q1;subst e;obtain ⟨u1,u2,rfl,ru1,ru2⟩:=r1.two;cases ru1;cases ru2;obtain ⟨its1,rv1,sq1,z1⟩:=I1.src q1;obtain ⟨its2,rv2,sq2,z2⟩:=I1.src q2;refine call_zip sq1 sq2 fun h' hz hTI hTO h1 h2 hsz hk=>?_;have I2:Inv X pins σ H1 { s1 with heap:=h' }:=I1.kept (t':=s1.toks) hk;refine wpAny_pyIter_zip (s:={ s1 with heap:=h' }) hz ?_;have D:ZApart (s1.heap.objs.size+4) (s1.heap.objs.size+2) (s1.heap.objs.size+3) s1.heap.objs.size (s1.heap.objs.size+1):=by constructor<;>exact (show (_:Nat)≠(_:Nat) by lia)
 refine ⟨s1.heap.objs.size+4,[s1.heap.objs.size+4,s1.heap.objs.size+2,s1.heap.objs.size+3,s1.heap.objs.size,s1.heap.objs.size+1],_,_,H1,rfl,I2,turn_zip b1 b2 l1 l2 _ _ _ _ _ D,⟨hz,hTI,⟨_,_,hTO⟩,h1,h2⟩,fun b hb=>?_,q⟩;have hb':s1.heap.objs.size<=b:=by
  have hb2:b=s1.heap.objs.size+4\/b=s1.heap.objs.size+2\/b=s1.heap.objs.size+3\/b=s1.heap.objs.size\/b=s1.heap.objs.size+1:=by simpa using hb
  rcases hb2 with e|e|e|e|e<;>rw [e]<;>first|exact Nat.le_add_right _ _|exact Nat.le_refl _
 exact I1.fpOk (H':=H1) hb' (I1.hok.fresh hb')
noncomputable def iEnumA(K:PySem.W.Frag)(t:TA):TI:=fun σ H R=>t σ H fun vs H1=>∃b l xs,vs=[.ref l]/\SqB K b H1 l xs/\R (Ite K b l) H1
theorem pi_enumA{a:Expr}{elts:List Expr}{x1:Nat}{tp:Pos}{ta:TA}{p pos:Pos}(hg:Gl X "enumerate")(hm:X.mg "enumerate"=none)(ha:PA X [a] ta)(hs:starEach [a] X.env=[(false,eval a X.env)]:=by rfl):
  PI X (.Tuple elts x1 tp) (.Call (.Name "enumerate" p) [a] [] pos) (iEnumA X.K ta):=by
 intro pins s σ H R I h;refine Call_ (ld_blt I hg hm (by decide +kernel:bootBuiltins "enumerate"=some (.type "enumerate")) (PyProof.Rows.callWith_type1 (thn (ha pos pins s σ H _ I h) fun us s1 ⟨vs,H1,I1,r1,q1⟩=>?_) hs rfl))
 obtain ⟨b,l,xs,e,q1,q⟩:=q1;subst e;obtain ⟨u1,rfl,ru1⟩:=r1.one;cases ru1;obtain ⟨its,rv,sq,z⟩:=I1.src q1;refine call_enum sq fun h' he h1 hsz hk=>?_;have I2:Inv X pins σ H1 { s1 with heap:=h' }:=I1.kept (t':=s1.toks) hk;refine wpAny_pyIter_enum (s:={ s1 with heap:=h' }) he ?_;refine ⟨s1.heap.objs.size+1,[s1.heap.objs.size+1,s1.heap.objs.size],_,_,H1,rfl,I2,turn_enum b l _ _ (show (_:Nat)≠(_:Nat) by lia),⟨⟨_,he⟩,h1⟩,fun c hc=>?_,q⟩
 have hc':s1.heap.objs.size<=c:=by
  have hc2:c=s1.heap.objs.size+1\/c=s1.heap.objs.size:=by simpa using hc
  rcases hc2 with e|e<;>rw [e]<;>first|exact Nat.le_add_right _ _|exact Nat.le_refl _
 exact I1.fpOk (H':=H1) hc' (I1.hok.fresh hc')
end
end L2
namespace L3
open PySem L2
section
variable {X:Cx}{B:Mem}{tg:Expr}{K:PySem.W.Frag}{H:Hp}{M:Mem}
noncomputable def srcOf(d:D)(xs:List D):List (Addr×List D):=match d with
 |.ref a=>[(a,xs)]
 |_=>[]
theorem src_of{d:D}{v:V}{xs:List D}(rh:RepH K H M)(r:Rp K H d v)(e:seqD M d=some xs):∃p b,v=.ref p/\∀H' M',Imm H H'->RepH K H' M'->(∀q∈srcOf d xs,M' q.1=some (.lst q.2))->∃vs,SqB K b H' p vs/\Rps K H' xs vs:=by
 cases d with
 |tup ys=>
  cases e;obtain ⟨p,vs,rfl,h,r⟩:=r;exact ⟨p,false,rfl,fun H' M' i _ _=>⟨vs,(h.mono i).sq,r.mono i⟩⟩
 |lst ys=>
  cases e;obtain ⟨p,vs,rfl,h,r⟩:=r;exact ⟨p,true,rfl,fun H' M' i _ _=>⟨vs,(h.mono i).sq,r.mono i⟩⟩
 |mt ys=>
  cases e;obtain ⟨p,vs,rfl,h,r⟩:=r;exact ⟨p,false,rfl,fun H' M' i _ _=>⟨vs,h.sq,r.mono i⟩⟩
 |ml ys=>
  cases e;obtain ⟨p,vs,rfl,h,r⟩:=r;exact ⟨p,true,rfl,fun H' M' i _ _=>⟨vs,(h.mono i).sq,r.mono i⟩⟩
 |ref a=>
  refine ⟨a,true,r,fun H' M' i rh' hs=>?_⟩;obtain ⟨vs,h1,h2⟩:=rh' _ _ (hs (a,xs) (by simp [srcOf]))
  exact ⟨vs,SqL.of h1,h2⟩
 |_=>cases e
theorem src_ok{d:D}{xs:List D}(e:seqD M d=some xs):∀q∈srcOf d xs,M q.1=some (.lst q.2):=by
 cases d with
 |ref a=>
  intro q hq;have:q=(a,xs):=by simpa [srcOf] using hq
  subst this;simp only [seqD] at e
  split at e
  ·rename_i ys h;cases e;exact h
  ·cases e
 |_=>intro q hq;simp [srcOf] at hq
noncomputable def wSeq(te:dTE):dTI:=fun δ M R=>te δ M fun d M1=>match seqD M1 d with
 |some xs=>R ⟨xs,srcOf d xs⟩ M1
 |none=>False
theorem di_seq{l:Expr}{tl:dTE}(hl:DE X B l tl):DI X B tg l (wSeq tl):=by
 refine pi_weak (pi_seqA hl) ?_
 rintro σ H R ⟨δ,M,RR,s,h,up⟩
 refine ⟨δ,M,_,s,h,fun d M1 h1 v H1 rh1 i1 r1=>?_⟩
 split at h1
 ·rename_i xs e
  obtain ⟨p,b,rfl,hsrc⟩:=src_of rh1 r1 e;obtain ⟨vs,hq,_⟩:=hsrc H1 M1 Imm.refl rh1 (src_ok e);refine ⟨p,b,vs,rfl,hq,up _ M1 h1 _ H1 rh1 i1 fun i H2 M2 i2 rh2 ok2=>?_⟩;obtain ⟨vs2,hq2,r2⟩:=hsrc H2 M2 i2 rh2 ok2;have hl:=r2.length;cases b with
  |true=>
   refine ⟨fun d hd=>?_,fun hle=>⟨vs2,hq2,by rw [<- hl];exact hle⟩⟩
   obtain ⟨w,hw,rw'⟩:=r2.get hd;refine ⟨⟨vs2,w,hq2,hw⟩,?_⟩
   rintro x H3 ⟨rfl,hx⟩
   have:=hx vs2 hq2;rw [hw] at this;cases this;exact ⟨Frm.refl,rh2,rw'⟩
  |false=>
   refine ⟨fun d hd=>?_,fun hle=>⟨vs2,hq2,by rw [<- hl];exact hle⟩⟩
   obtain ⟨w,hw,rw'⟩:=r2.get hd;refine ⟨⟨vs2,w,hq2,hw⟩,?_⟩
   rintro x H3 ⟨rfl,hx⟩
   have:=hx vs2 hq2;rw [hw] at this;cases this;exact ⟨Frm.refl,rh2,rw'⟩
 ·exact h1.elim
noncomputable def rngD(lo:Int)(n:Nat):List D:=(List.range n).map fun (i:Nat)=>D.int (lo+i)
noncomputable def wRng1(t:dTA):dTI:=fun δ M R=>t δ M fun ds M1=>match ds with
 |[.int j]=>-(2 ^ 62)<=j/\j<2 ^ 62/\R ⟨rngD 0 j.toNat,[]⟩ M1
 |_=>False
theorem rng_ok{lo:Int}{n:Nat}:ItOk K H ⟨rngD lo n,[]⟩ (Itr lo n):=fun i H2 M2 i2 rh2 _=>by
 have hlen:(rngD lo n).length=n:=by simp [rngD]
 refine ⟨fun d hd=>?_,fun hle=>by rw [hlen] at hle;exact hle⟩
 have hi:i<n:=by
  rcases Nat.lt_or_ge i n with h|h
  ·exact h
  ·rw [List.getElem?_eq_none (by rw [hlen];exact h)] at hd;cases hd
 have ed:d=.int (lo+i):=by
  simp only [rngD,List.getElem?_map,List.getElem?_range hi] at hd;exact (Option.some.inj hd).symm
 subst ed;refine ⟨hi,?_⟩
 rintro x H3 ⟨rfl,rfl⟩
 exact ⟨Frm.refl,rh2,rfl⟩
theorem di_range1{a:Expr}{ta:dTA}{p pos:Pos}(hg:Gl X "range")(hm:X.mg "range"=none)(ha:DA X B [a] ta)(hs:starEach [a] X.env=[(false,eval a X.env)]:=by rfl):DI X B tg (.Call (.Name "range" p) [a] [] pos) (wRng1 ta):=by
 refine pi_weak (pi_range1 hg hm ha hs) ?_
 rintro σ H R ⟨δ,M,RR,s,h,up⟩
 refine ⟨δ,M,_,s,h,fun ds M1 h1 vs H1 rh1 i1 r1=>?_⟩
 split at h1
 ·obtain ⟨v,rfl,rv⟩:=rps1 (ds:=[]) r1
  cases rv;exact ⟨_,rfl,h1.1,h1.2.1,up _ M1 h1.2.2 _ H1 rh1 i1 rng_ok⟩
 ·exact h1.elim
noncomputable def enumD(xs:List D):List D:=(xs.zipIdx).map fun p=>D.tup [.int (p.2:Nat),p.1]
theorem enumD_get{xs:List D}{i:Nat}:(enumD xs)[i]?=(xs[i]?).map fun d=>D.tup [.int (i:Nat),d]:=by
 simp [enumD,List.getElem?_map,List.getElem?_zipIdx];cases xs[i]?<;>simp
noncomputable def wEnum(t:dTA):dTI:=fun δ M R=>t δ M fun ds M1=>match ds with
 |[d]=>match seqD M1 d with
  |some xs=>R ⟨enumD xs,srcOf d xs⟩ M1
  |none=>False
 |_=>False
theorem di_enum{a:Expr}{elts:List Expr}{x1:Nat}{tp:Pos}{ta:dTA}{p pos:Pos}(hg:Gl X "enumerate")(hm:X.mg "enumerate"=none)(ha:DA X B [a] ta)(hs:starEach [a] X.env=[(false,eval a X.env)]:=by rfl):
  DI X B (.Tuple elts x1 tp) (.Call (.Name "enumerate" p) [a] [] pos) (wEnum ta):=by
 refine pi_weak (pi_enumA hg hm ha hs) ?_
 rintro σ H R ⟨δ,M,RR,s,h,up⟩
 refine ⟨δ,M,_,s,h,fun ds M1 h1 vs H1 rh1 i1 r1=>?_⟩
 split at h1
 ·obtain ⟨v,rfl,rv⟩:=rps1 (ds:=[]) r1
  split at h1
  ·rename_i xs e
   obtain ⟨p,b,rfl,hsrc⟩:=src_of rh1 rv e;obtain ⟨vs,hq,_⟩:=hsrc H1 M1 Imm.refl rh1 (src_ok e);refine ⟨b,p,vs,rfl,hq,up _ M1 h1 _ H1 rh1 i1 fun i H2 M2 i2 rh2 ok2=>?_⟩;obtain ⟨vs2,hq2,r2⟩:=hsrc H2 M2 i2 rh2 ok2;have hl:=r2.length;refine ⟨fun d hd=>?_,fun hle=>⟨vs2,hq2,by rw [<- hl];simpa [enumD] using hle⟩⟩
   rw [enumD_get] at hd;obtain ⟨d0,hd0,rfl⟩:=Option.map_eq_some_iff.mp hd;obtain ⟨w,hw,rw'⟩:=r2.get hd0;refine ⟨⟨vs2,w,hq2,hw⟩,?_⟩
   rintro x H3 ⟨T,x',hT,rfl,rfl,hx⟩
   have:=hx vs2 hq2;rw [hw] at this;cases this;have i3:Imm H2 (upd H2 T (.tup [.int i,w])):=Imm.new hT;exact ⟨Frm.new hT,rh2.new hT,T,_,rfl,upd_same,.cons rfl (.cons (rw'.mono i3) .nil)⟩
  ·exact h1.elim
 ·exact h1.elim
noncomputable def zipD(xs ys:List D):List D:=(xs.zip ys).map fun p=>D.tup [p.1,p.2]
theorem zipD_get{xs ys:List D}{i:Nat}{d:D}(h:(zipD xs ys)[i]?=some d):∃x y,xs[i]?=some x/\ys[i]?=some y/\d=.tup [x,y]:=by
 simp only [zipD,List.getElem?_map,Option.map_eq_some_iff] at h;obtain ⟨⟨x,y⟩,h1,rfl⟩:=h;rw [List.getElem?_zip_eq_some] at h1;exact ⟨x,y,h1.1,h1.2,rfl⟩
noncomputable def wZip(t:dTA):dTI:=fun δ M R=>t δ M fun ds M1=>match ds with
 |[d,e]=>match seqD M1 d,seqD M1 e with
  |some xs,some ys=>R ⟨zipD xs ys,srcOf d xs++srcOf e ys⟩ M1
  |_,_=>False
 |_=>False
theorem di_zip{a b:Expr}{elts:List Expr}{x1:Nat}{tp:Pos}{ta:dTA}{p pos:Pos}(hg:Gl X "zip")(hm:X.mg "zip"=none)(ha:DA X B [a,b] ta)
  (hs:starEach [a,b] X.env=[(false,eval a X.env),(false,eval b X.env)]:=by rfl) (hs2:starEach [b] X.env=[(false,eval b X.env)]:=by rfl):
  DI X B (.Tuple elts x1 tp) (.Call (.Name "zip" p) [a,b] [] pos) (wZip ta):=by
 refine pi_weak (pi_zipA hg hm ha hs hs2) ?_
 rintro σ H R ⟨δ,M,RR,s,h,up⟩
 refine ⟨δ,M,_,s,h,fun ds M1 h1 vs H1 rh1 i1 r1=>?_⟩
 split at h1
 ·obtain ⟨v,w,rfl,rv,rw'⟩:=rps2 r1
  split at h1
  ·rename_i xs ys e1 e2
   obtain ⟨p,b,rfl,hsrc⟩:=src_of rh1 rv e1;obtain ⟨p',b',rfl,hsrc'⟩:=src_of rh1 rw' e2;obtain ⟨vs,hq,_⟩:=hsrc H1 M1 Imm.refl rh1 (src_ok e1);obtain ⟨vs',hq',_⟩:=hsrc' H1 M1 Imm.refl rh1 (src_ok e2);refine ⟨b,b',p,p',vs,vs',rfl,hq,hq',up _ M1 h1 _ H1 rh1 i1 fun i H2 M2 i2 rh2 ok2=>?_⟩;obtain ⟨vs2,hq2,r2⟩:=hsrc H2 M2 i2 rh2 fun q hq=>ok2 q (List.mem_append_left _ hq);obtain ⟨vs2',hq2',r2'⟩:=hsrc' H2 M2 i2 rh2 fun q hq=>ok2 q (List.mem_append_right _ hq);have hl:=r2.length;have hl':=r2'.length;refine ⟨fun d hd=>?_,fun hle=>⟨vs2,vs2',hq2,hq2',?_⟩⟩
   ·obtain ⟨x,y,hx,hy,rfl⟩:=zipD_get hd
    obtain ⟨w1,hw1,rw1⟩:=r2.get hx;obtain ⟨w2,hw2,rw2⟩:=r2'.get hy;refine ⟨⟨vs2,vs2',w1,w2,hq2,hq2',hw1,hw2⟩,?_⟩
    rintro x H3 ⟨T,x',y',hT,rfl,rfl,hx1,hx2⟩
    have q1:=hx1 vs2 hq2;have q2:=hx2 vs2' hq2';rw [hw1] at q1;rw [hw2] at q2;cases q1;cases q2;have i3:Imm H2 (upd H2 T (.tup [w1,w2])):=Imm.new hT;exact ⟨Frm.new hT,rh2.new hT,T,_,rfl,upd_same,.cons (rw1.mono i3) (.cons (rw2.mono i3) .nil)⟩
   ·have:(zipD xs ys).length=min xs.length ys.length:=by simp [zipD]
    rw [this] at hle;lia
  ·exact h1.elim
 ·exact h1.elim
end
end L3
namespace L3
open PySem L2
noncomputable def Top:Mem:=fun _=>some (.lst [])
theorem Frm.top{H H':Hp}{M:Mem}:Frm Top H M H':=⟨fun _ _ _ n=>by cases n⟩
section
variable {X:Cx}{B:Mem}{K:PySem.W.Frag}{H H':Hp}{M M':Mem}
inductive liftE0(K:PySem.W.Frag)(T:dTE)(σ:L2.St)(H:Hp)(Q:VK):Prop
 |mk (δ:Dl) (M:Mem) (QQ:DK) (rh:RepH K H M) (rs:RepS K H δ σ) (h:T δ M QQ) (u:Up K M H QQ Q):liftE0 K T σ H Q
inductive liftT0(K:PySem.W.Frag)(T:dTT)(σ:L2.St)(H:Hp)(Q:Bool->Hp->Prop):Prop
 |mk (δ:Dl) (M:Mem) (QQ:Bool->Mem->Prop) (rh:RepH K H M) (rs:RepS K H δ σ) (h:T δ M QQ) (u:UpT K M H QQ Q):liftT0 K T σ H Q
inductive liftG0(K:PySem.W.Frag)(g:dTG)(v:V)(σ:L2.St)(H:Hp)(Q:L2.St->Hp->Prop):Prop
 |mk (d:D) (δ:Dl) (M:Mem) (QQ:Dl->Mem->Prop) (rh:RepH K H M) (rs:RepS K H δ σ) (r:Rp K H d v) (h:g d δ M QQ) (u:∀δ' M',QQ δ' M'->∀σ' H',Frm M H M' H'->RepH K H' M'->RepS K H' δ' σ'->Q σ' H'):liftG0 K g v σ H Q
theorem pe_top{e:Expr}{T:dTE}(h:DE X Top e T):PE X e (liftE0 X.K T):=pe_weak h fun σ H Q ⟨δ,M,QQ,rh,rs,h,u⟩=>⟨δ,M,QQ,⟨Frm.top,rh,rs⟩,h,u⟩
theorem pt_top{e:Expr}{T:dTT}(h:DT X Top e T):PT X e (liftT0 X.K T):=pt_weak h fun σ H Q ⟨δ,M,QQ,rh,rs,h,u⟩=>⟨δ,M,QQ,⟨Frm.top,rh,rs⟩,h,u⟩
theorem pg_top{e:Expr}{g:dTG}(h:DG X Top e g):PG X e (liftG0 X.K g):=pg_weak h fun v σ H Q ⟨d,δ,M,QQ,rh,rs,r,h,u⟩=>⟨d,δ,M,QQ,⟨Frm.top,rh,rs⟩,r,h,fun δ' M' q σ' H' f s=>u δ' M' q σ' H' f s.rh s.rs⟩
theorem RepH.add{a:Addr}{o:MO}(r:RepH K H M)(n:RepO K H a o):RepH K H (M.upd a o):=fun b p e=>by
 by_cases hb:b=a
 ·subst hb;rw [Mem.upd_same] at e;cases e;exact n
 ·rw [Mem.upd_ne hb] at e;exact r b p e
noncomputable def startD(ls:List Str)(js:List Nat)(δ:Dl):Dl:=ls.map (fun _=>none)++js.map fun j=>(δ[j]?).join
theorem RepS.start{δ:Dl}{σ:L2.St}(r:RepS K H δ σ)(ls:List Str)(js:List Nat):RepS K H (startD ls js δ) (start0 ls js σ):=by
 refine ⟨by simp [startD,start0],fun i d e=>?_⟩
 unfold startD at e;unfold start0
 by_cases hi:i<ls.length
 ·rw [List.getElem?_append_left (by simpa using hi),List.getElem?_map,List.getElem?_eq_getElem hi] at e
  cases e
 ·rw [List.getElem?_append_right (by simpa using hi),List.length_map,List.getElem?_map] at e
  rw [List.getElem?_append_right (by simpa using hi),List.length_map,List.getElem?_map]
  cases hj:js[i-ls.length]? with
  |none=>rw [hj] at e;cases e
  |some j=>
   rw [hj] at e;have q:(δ[j]?).join=some d:=by simpa using e
   have q2:δ[j]?=some (some d):=by
    cases z:δ[j]? with
    |none=>rw [z] at q;cases q
    |some o=>rw [z] at q;have q':o=some d:=q;rw [q']
   obtain ⟨v,h1,h2⟩:=r.get j d q2;exact ⟨v,by simp [h1],h2⟩
structure BxC(g:dTG)(tt:dTT)(te:dTE)(ok:Mem->Prop)(Q:List D->Mem->Prop):Type
noncomputable def compD(g:dTG)(tt:dTT)(te:dTE)(ok:Mem->Prop)(Q:List D->Mem->Prop)(b:BxC g tt te ok Q):List D->List D->Dl->Mem->Prop
 |[],acc,_,M=>ok M/\Q acc M
 |x::xs,acc,δ,M=>ok M/\g x δ M fun δ2 M2=>tt δ2 M2 fun c M3=>if c=true then te δ2 M3 fun y M4=>acc.length<sizeLine/\compD g tt te ok Q b xs (acc++[y]) δ2 M4 else compD g tt te ok Q b xs acc δ2 M3
noncomputable def dComp(wi:dTI)(ls:List Str)(js:List Nat)(g:dTG)(tt:dTT)(te:dTE):dTE:=fun δ M Q=>wi δ M fun it M1=>compD g tt te it.ok (fun acc M'=>∀p,M' p=none->Q (.ref p) (M'.upd p (.lst acc))) ⟨⟩ it.items [] (startD ls js δ) M1
theorem compD_ok{g:dTG}{tt:dTT}{te:dTE}{ok:Mem->Prop}{xs acc:List D}{δ:Dl}{Q:List D->Mem->Prop}{b:BxC g tt te ok Q}(h:compD g tt te ok Q b xs acc δ M):ok M:=by
 cases xs with
 |nil=>exact h.1
 |cons _ _=>exact h.1
variable {tg iter elt:Expr}{ifs:List Expr}{scope:Scope}{cl:List (Str×Addr)}{pos:Pos}{ls fs:List Str}{js:List Nat}{wi:dTI}{g:dTG}{tt:dTT}{te:dTE}
theorem lift_comp{σ:L2.St}{Q:VK}(h:liftE X B (dComp wi ls js g tt te) σ H Q):tComp (liftI X B wi) ls js (liftG0 X.K g) (liftT0 X.K tt) (liftE0 X.K te) σ H Q:=by
 obtain ⟨δ,M,QQ,s,h,u⟩:=h;refine ⟨δ,M,_,s,h,fun it M1 h1 J H1 rh1 f1 hJ p hp=>?_⟩;have hMp:M1 p=none:=rh1.fresh hp
 refine ⟨fun i m σ' H'=>m=it.items.length-i/\i<=it.items.length/\∃δ' M' acc ys,RepH X.K H' M'/\RepS X.K H' δ' σ'/\H' p=some (.lst ys)/\Rps X.K H' acc ys/\M' p=none/\Frm M1 H1 M' H'/\
   compD g tt te it.ok (fun acc M'=>∀p,M' p=none->QQ (.ref p) (M'.upd p (.lst acc))) ⟨⟩ (it.items.drop i) acc δ' M',
  ⟨_,rfl,Nat.zero_le _,startD ls js δ,M1,[],[],rh1.new hp,((s.rs.mono (f1.imm s.rh)).mono (Imm.new hp)).start ls js,upd_same,.nil,hMp,Frm.new hp,h1⟩,?_⟩
 rintro i m σ2 H2 ⟨rfl,hi,δ2,M2,acc,ys,rh2,rs2,hp2,ra2,hm2,f2,h2⟩
 have hok:=compD_ok h2;obtain ⟨hgo,hstop⟩:=hJ i H2 M2 (f2.imm rh1) rh2 hok
 by_cases hlt:i<it.items.length
 ·rw [List.drop_eq_getElem_cons hlt] at h2
  obtain ⟨go,hy⟩:=hgo _ (List.getElem?_eq_getElem hlt)
  refine .inr ⟨go,fun σ' H'=>∃δ' M' acc ys,RepH X.K H' M'/\RepS X.K H' δ' σ'/\H' p=some (.lst ys)/\Rps X.K H' acc ys/\M' p=none/\Frm M1 H1 M' H'/\
   compD g tt te it.ok (fun acc M'=>∀p,M' p=none->QQ (.ref p) (M'.upd p (.lst acc))) ⟨⟩ (it.items.drop (i+1)) acc δ' M',fun σ' H' z=>⟨it.items.length-(i+1),by omega,rfl,hlt,z⟩,fun x H3 hx=>?_⟩
  obtain ⟨f3,rh3,rx⟩:=hy x H3 hx;refine ⟨_,δ2,M2,_,rh3,rs2.mono (f3.imm rh2),rx,h2.2,fun δ4 M4 h4 σ4 H4 f4 rh4 rs4=>?_⟩;refine ⟨δ4,M4,_,rh4,rs4,h4,fun c M5 h5 H5 rh5 f5=>?_⟩;have f35:=(f3.trans f4).trans f5;obtain ⟨hp5,hm5⟩:=f35.keep p _ hp2 hm2;cases c with
  |false=>
   try dsimp only
   rw [if_neg Bool.false_ne_true] at h5 ⊢;exact ⟨δ4,M5,acc,ys,rh5,rs4.mono (f5.imm rh4),hp5,ra2.mf rh2 f35,hm5,f2.trans f35,h5⟩
  |true=>
   try dsimp only
   rw [if_pos rfl] at h5 ⊢;refine ⟨δ4,M5,_,rh5,rs4.mono (f5.imm rh4),h5,fun y M6 h6 v6 H6 rh6 f6 r6=>?_⟩;obtain ⟨hp6,hm6⟩:=f6.keep p _ hp5 hm5;have f26:=f35.trans f6;have ra6:=ra2.mf rh2 f26;refine ⟨ys,hp6,by rw [<- ra6.length];exact h6.1,?_⟩
   have im:Imm H6 (upd H6 p (.lst (ys++[v6]))):=Imm.upd (by rw [hp6];trivial)
   refine ⟨δ4,M6,acc++[y],ys++[v6],rh6.keep im fun b o hb=>upd_ne (Mem.ne hb hm6),((rs4.mono (f5.imm rh4)).mono (f6.imm rh5)).mono im,upd_same,(ra6.append (.cons r6 .nil)).mono im,hm6,?_,h6.2⟩;refine ⟨fun b w e n=>?_⟩;obtain ⟨e2,n2⟩:=(f2.trans f26).keep b w e n;exact ⟨by rw [upd_ne (ne_of_none e hp)];exact e2,n2⟩
 ·rw [List.drop_eq_nil_of_le (by omega)] at h2
  refine .inl ⟨hstop (by omega),u _ _ (h2.2 p hm2) _ H2 (rh2.add ⟨ys,hp2,ra2⟩) ?_ rfl⟩
  refine ⟨fun b w e n=>?_⟩;obtain ⟨e1,n1⟩:=f1.keep b w e n;obtain ⟨e2,n2⟩:=f2.keep b w e1 n1;exact ⟨e2,by rw [Mem.upd_ne (ne_of_none e1 hp)];exact n2⟩
noncomputable def DTs(X:Cx)(B:Mem)(ifs:List Expr)(T:dTT):Prop:=PTs X ifs (liftT X B T)
noncomputable def dAll:dTT:=fun _ M Q=>Q true M
theorem dts_nil:DTs X B [] dAll:=fun pins s σ H Q I zz=>by obtain ⟨δ,M,QQ,sr,h,u⟩:=zz;exact pts_nil pins s σ H Q I (u true M h H sr.rh Frm.refl)
theorem pts_top{es:List Expr}{T:dTT}(h:DTs X Top es T):PTs X es (liftT0 X.K T):=fun pins s σ H Q I zz=>by obtain ⟨δ,M,QQ,rh,rs,hT,u⟩:=zz;exact h pins s σ H Q I ⟨δ,M,QQ,⟨Frm.top,rh,rs⟩,hT,u⟩
theorem de_comp(hc:X.calm=true)(co:CompOk X scope cl ls fs js)(hi:DI X B tg iter wi)
  (hY:∀(C:Addr) (s₀:Shared) (H₀:Hp) (fp:List Addr) (pl:List (Addr×Obj)),DG (cxComp X (ls++fs) scope cl C s₀ H₀ fp pl) Top tg g/\DTs (cxComp X (ls++fs) scope cl C s₀ H₀ fp pl) Top ifs tt/\DE (cxComp X (ls++fs) scope cl C s₀ H₀ fp pl) Top elt te)
  (hs:∀x,foldedSetIterable iter X.env x=pure x:=by intro _;rfl):DE X B (.ListComp elt [⟨tg,iter,ifs,0⟩] scope pos) (dComp wi ls js g tt te):=
 pe_weak (pe_comp (g:=liftG0 X.K g) (tt:=liftT0 X.K tt) (te:=liftE0 X.K te) hc co hi (fun C s₀ H₀ fp pl=>⟨pg_top (hY C s₀ H₀ fp pl).1,pts_top (hY C s₀ H₀ fp pl).2.1,pe_top (hY C s₀ H₀ fp pl).2.2⟩) hs) fun _ _ _ h=>lift_comp h
end
end L3
namespace L3
open PySem L2
noncomputable abbrev DX:=Addr->Mem->Prop
noncomputable abbrev Sd:=List D->Mem->DK->DX->Prop
noncomputable def CXG(P:Program)(w:World):CXT:=fun outer H s E e s'=>∃C,CXD P w C outer H s E e s'
noncomputable def UpX(K:PySem.W.Frag)(M:Mem)(H:Hp)(EE:DX)(E:XK):Prop:=∀C M',EE C M'->∀H',RepH K H' M'->Frm M H M' H'->E (.ref C) none H'
theorem UpX.go{K:PySem.W.Frag}{M M1:Mem}{H H1:Hp}{EE:DX}{E:XK}(u:UpX K M H EE E)(i:Frm M H M1 H1):UpX K M1 H1 EE E:=fun C M' q H' a b=>u C M' q H' a (i.trans b)
noncomputable def liftSp(K:PySem.W.Frag)(n:Nat)(T:Sd):Sp:=fun vs H Q E=>vs.length=n/\∃ds M QQ EE,RepH K H M/\Rps K H ds vs/\T ds M QQ EE/\Up K M H QQ Q/\UpX K M H EE E
noncomputable def startN(N:List Str)(ds:List D):Dl:=ds.map some++List.replicate (N.length-ds.length) none
theorem RepS.startN{K:PySem.W.Frag}{H:Hp}{ds:List D}{vs:List V}(N:List Str)(r:Rps K H ds vs):RepS K H (L3.startN N ds) (L2.start N vs):=by
 have hl:=r.length;refine ⟨by simp [L3.startN,L2.start,hl],fun i d e=>?_⟩
 unfold L3.startN at e;unfold L2.start
 by_cases hi:i<ds.length
 ·rw [List.getElem?_append_left (by simpa using hi),List.getElem?_map,List.getElem?_eq_getElem hi] at e
  have e':ds[i]=d:=by simpa using e
  obtain ⟨v,h1,h2⟩:=r.get (i:=i) (d:=d) (by rw [List.getElem?_eq_getElem hi,e'])
  refine ⟨v,?_,h2⟩;rw [List.getElem?_append_left (by simp;lia),List.getElem?_map,h1]
  rfl
 ·rw [List.getElem?_append_right (by simpa using hi),List.getElem?_replicate] at e
  split at e<;>cases e
section
variable {P:Program}{w:World}{K:PySem.W.Frag}{mg:Str->Option Value}{base:Heap}{f:Addr}{fd:FuncData}
noncomputable def drp(Q:DK)(d:D)(M':Mem):Prop:=∃M'',(∀b o,M'' b=some o->M' b=some o)/\Q d M''
noncomputable def drpX(EE:DX)(C:Addr)(M':Mem):Prop:=∃M'',(∀b o,M'' b=some o->M' b=some o)/\EE C M''
theorem drp_id{Q:DK}{d:D}{M':Mem}(h:Q d M'):drp Q d M':=⟨M',fun _ _ e=>e,h⟩
theorem Frm.less{M M' M'':Mem}{H H':Hp}(f:Frm M H M' H')(s:∀b o,M'' b=some o->M' b=some o):Frm M H M'' H':=⟨fun b u e n=>by
 obtain ⟨e',n'⟩:=f.keep b u e n;refine ⟨e',?_⟩;cases q:M'' b with
 |none=>rfl
 |some o=>rw [s b o q] at n';cases n'⟩
theorem Up.drp{M:Mem}{H:Hp}{Q:DK}{QV:VK}(u:Up K M H Q QV):Up K M H (L3.drp Q) QV:=fun d M' ⟨M'',s,q⟩ v H' rh f r=>u d M'' q v H' (fun b o e=>rh b o (s b o e)) (f.less s) r
theorem UpX.drp{M:Mem}{H:Hp}{EE:DX}{E:XK}(u:UpX K M H EE E):UpX K M H (drpX EE) E:=fun C M' ⟨M'',s,q⟩ H' rh f=>u C M'' q H' (fun b o e=>rh b o (s b o e)) (f.less s)
noncomputable def bodyD(N:List Str)(T:DX->dTS):Sd:=fun ds M Q EE=>T (drpX EE) { nx:=fun _ M'=>drp Q .non M',rt:=drp Q } (startN N ds) M
theorem fnD{x qual:Str}{st:Stmt}{N ps:List Str}{k:Nat}{T:DX->dTS}(F:Fun K x qual st f fd)(S:FnScope N ps (defScope st))
  (hb:∀(cdv:Value) (A:Around) (outer:List Env) (s:Shared) (H:Hp) (E:XK) (B:Mem) (EE:DX),Room k (A.deeper (PyProof.Rows.envOfC qual (defScope st) s.heap.objs.size f cdv))->UpX K B H EE E->
   DSs (cxOf (CXG P w) P w K mg base N qual (defScope st) f cdv A outer s H E) B (defBody st) (T EE)):
  FnOk P w K mg base (CXG P w) (k+1) f fd ps (liftSp K ps.length (bodyD N T)):=by
 obtain ⟨oc,od,kV,doc,pm,an,cdv,ct,osl,rfl,lk,hcd⟩:=F.ex;refine fn_of lk hcd S (fun vs H Q E h=>h.1) fun A outer s H vs Q E hr hsp=>?_;obtain ⟨hl,ds,M,QQ,EE,rh,r,hT,u,ux⟩:=hsp;refine ⟨_,hb cdv A outer s H E M (drpX EE) hr ux.drp,startN N ds,M,{ nx:=fun _ M'=>drp QQ .non M',rt:=drp QQ },⟨Frm.refl,rh,.startN N r⟩,hT,⟨?_,u.drp,?_,?_⟩⟩
 ·exact fun δ M' q σ H' f s'=>u.drp _ M' q _ H' s'.rh f rfl
 ·exact fun δ M' q=>(show False from q).elim
 ·exact fun δ M' q=>(show False from q).elim
theorem fnNone{ps:List Str}{k n:Nat}{CX:CXT}:FnOk P w K mg base CX k f fd ps (liftSp K n fun _ _ _ _=>False):=
 ⟨fun vs H Q E h=>(by obtain ⟨_,_,_,_,_,_,_,h,_⟩:=h;exact h.elim),fun A outer s H args us vs Q E _ _ _ _ h=>(by obtain ⟨_,_,_,_,_,_,_,h,_⟩:=h;exact h.elim)⟩
theorem passG{N:List Str}{qual:Str}{scope:Scope}{cd:Value}{A:Around}{outer:List Env}{s0:Shared}{H0:Hp}{E:XK}:Passes (CXG P w) (cxOf (CXG P w) P w K mg base N qual scope f cd A outer s0 H0 E) E:=by
 intro pins σ H s e s' I ⟨C,hx⟩;have I':Inv (cxOf (CXD P w C) P w K mg base N qual scope f cd A outer s0 H0 E) pins σ H s:=I.wish _;have:=passD pins σ H s e s' I' hx;exact wpAny_mono this (fun _ _ z=>⟨C,z⟩) fun _ _ z=>⟨C,z⟩
theorem pass00{X:Cx}:Passes (CXG P w) X E0:=fun pins σ H s e s' I ⟨C,hx⟩=>by
 obtain ⟨_,_,_,_,_,_,_,_,_,_,_,_,hE⟩:=hx;exact (show False from hE).elim
end
noncomputable def Sub(M1 M:Mem):Prop:=∀b o,M1 b=some o->M b=some o
noncomputable def Dis(M1 M M':Mem):Prop:=∀b o,M b=some o->M1 b=none->M' b=none
noncomputable def plus(M' M1 M:Mem):Mem:=fun b=>match M' b with
 |some o=>some o
 |none=>match M1 b with
  |some _=>none
  |none=>M b
theorem plus_self{M' M:Mem}:plus M' M M=M':=by
 funext b;simp only [plus];cases h:M' b with
 |some o=>rfl
 |none=>cases h2:M b<;>rfl
structure BxQ(EE:DX)(Q:DK):Type
structure calls(T:Sd)(EE:DX)(ds:List D)(M:Mem)(Q:DK)(_:BxQ EE Q):Prop where
 go:∃M1,Sub M1 M/\T ds M1 (fun d M'=>Dis M1 M M'->Q d (plus M' M1 M)) (fun C M'=>Dis M1 M M'->EE C (plus M' M1 M))
section
variable {X:Cx}{B:Mem}{K:PySem.W.Frag}{H H':Hp}{M M1 M':Mem}
theorem RepH.sub(r:RepH K H M)(s:Sub M1 M):RepH K H M1:=fun b o e=>r b o (s b o e)
theorem RepH.dis(r:RepH K H M)(f:Frm M1 H M' H'):Dis M1 M M':=fun b o e n=>by
 obtain ⟨u,q⟩:=(r b o e).obj;exact (f.keep b u q n).2
theorem RepH.plus(r:RepH K H M)(s:Sub M1 M)(r':RepH K H' M')(f:Frm M1 H M' H'):RepH K H' (plus M' M1 M):=fun b o e=>by
 simp only [L3.plus] at e
 split at e
 ·rename_i o' q;cases e;exact r' b _ q
 ·split at e
  ·cases e
  ·rename_i q n
   obtain ⟨u,hu⟩:=(r b o e).obj;exact (r b o e).keep (f.imm (r.sub s)) ((f.keep b u hu n).1.trans hu.symm)
theorem Frm.plus(s:Sub M1 M)(f:Frm M1 H M' H'):Frm M H (plus M' M1 M) H':=⟨fun b u e n=>by
 have n1:M1 b=none:=by
  cases q:M1 b with
  |none=>rfl
  |some o=>rw [s b o q] at n;cases n
 obtain ⟨e',n'⟩:=f.keep b u e n1;exact ⟨e',by simp only [L3.plus,n',n1,n]⟩⟩
theorem lift_calls{T:Sd}{EE:DX}{ds:List D}{vs:List V}{Q:DK}{n:Nat}{QV:VK}{E:XK}{b:BxQ EE Q}(h:calls T EE ds M Q b)(rh:RepH K H M)(r:Rps K H ds vs)(hl:vs.length=n)(u:Up K M H Q QV)(ux:UpX K M H EE E):liftSp K n T vs H QV E:=by
 obtain ⟨M1,s,h⟩:=h.go;refine ⟨hl,ds,M1,_,_,rh.sub s,r,h,fun d M' q v H' rh' f r'=>?_,fun C M' q H' rh' f=>?_⟩
 ·exact u d _ (q (rh.dis f)) v H' (rh.plus s rh' f) (f.plus s) r'
 ·exact ux C _ (q (rh.dis f)) H' (rh.plus s rh' f) (f.plus s)
theorem calls_of{T:Sd}{EE:DX}{ds:List D}{Q:DK}{b:BxQ EE Q}(hm:∀Q' E',(∀d M,Q d M->Q' d M)->(∀C M,EE C M->E' C M)->T ds M Q' E'):calls T EE ds M Q b:=
 ⟨M,fun _ _ e=>e,hm _ _ (fun d M' q _=>by rw [plus_self];exact q) fun C M' q _=>by rw [plus_self];exact q⟩
variable {CX:CXT}{k n:Nat}{f C:Addr}{fd:FuncData}{ps:List Str}{T:Sd}{EE:DX}{E:XK}{x m:Str}{p pos apos:Pos}{e o:Expr}{es:List Expr}{ta:dTE}{t:dTA}
noncomputable def dCall(T:Sd)(EE:DX)(n:Nat)(t:dTA):dTE:=fun δ M Q=>t δ M fun ds M1=>ds.length=n/\calls T EE ds M1 Q ⟨⟩
theorem SR.ux{δ:Dl}{σ:L2.St}(s:SR X B δ M σ H)(ux:UpX X.K B X.H₀ EE E):UpX X.K M H EE E:=ux.go s.i0
theorem de_call(F:FnOk X.prog X.w X.K X.mg X.base CX k f fd ps (liftSp X.K n T))(hr:Room k X.A)(hg:Gl X x)(hm:X.mg x=some (.ref f))(hk:PySem.W.keepIn X.K (.ref f)=true)(hb:Binds X.K fd ps [])(hx:Passes CX X E)(ux:UpX X.K B X.H₀ EE E)
  (ha:DA X B (e::es) t) (hdb:(x==("__debug__":Str))=false:=by decide) (he:starEach (e::es) X.env=(false,eval e X.env)::starEach es X.env:=by rfl) (hpl:(backTo pos (starEach es X.env)).any (·.1)=false:=by rfl):
  DE X B (.Call (.Name x p) (e::es) [] pos) (dCall T EE n t):=by
 refine pe_weak (pe_call F hr hg hm hk hb .nil hx ha hdb he hpl) ?_
 rintro σ H Q ⟨δ,M,QQ,s,h,u⟩
 refine ⟨δ,M,_,s,h,fun ds M1 h1 vs H1 rh1 i1 r1=>?_⟩
 try dsimp only
 rw [List.append_nil];exact lift_calls h1.2 rh1 r1 (by rw [<- r1.length];exact h1.1) (u.go i1) ((s.ux ux).go i1)
noncomputable def dMeth(C:Addr)(m:Str)(T:Sd)(EE:DX)(n:Nat)(ta:dTE)(t:dTA):dTE:=fun δ M Q=>ta δ M fun x M1=>match x with
 |.ref a=>match M1 a with
  |some (.ins C' fs)=>C'=C/\fs.lookup m=none/\t δ M1 fun ds M2=>ds.length+1=n/\calls T EE (.ref a::ds) M2 Q ⟨⟩
  |_=>False
 |_=>False
theorem de_meth{pl:Sem Bool}(he:DE X B o ta)(c:Cls X.K C)(hm:Meth X.K C m f)(F:FnOk X.prog X.w X.K X.mg X.base CX k f fd ps (liftSp X.K n T))(hr:Room k X.A)(hb:Binds X.K fd ps [])(hx:Passes CX X E)(ux:UpX X.K B X.H₀ EE E)(ha:DA X B (e::es) t)
  (hst:starEach (e::es) X.env=(false,eval e X.env)::starEach es X.env:=by rfl) (hpl:(backTo pos (starEach es X.env)).any (·.1)=false:=by rfl)
  (ht:eval (.Call (.Attribute o m apos) (e::es) [] pos) X.env=(do
   let ov <- eval o X.env
   standAt apos.atName
   let (f,first) <- holding [ov] (getMethod ov m pl)
   callWith pos f first (backTo pos (starEach (e::es) X.env)) (backToKw pos (keywordEach [] X.env))):=by rfl):
  DE X B (.Call (.Attribute o m apos) (e::es) [] pos) (dMeth C m T EE n ta t):=by
 refine pe_weak (pe_meth he c hm F hr hb .nil hx ha hst hpl ht) ?_
 rintro σ H Q ⟨δ,M,QQ,s,h,u⟩
 refine ⟨δ,M,_,s,h,fun x M1 h1 v H1 rh1 i1 r1=>?_⟩
 split at h1
 ·rename_i a
  cases r1
  split at h1
  ·rename_i C' fs hM
   obtain ⟨rfl,hl,h1⟩:=h1;obtain ⟨dx,ws,e1,e2⟩:=rh1 _ _ hM;have hl':ws.lookup m=none:=by
    rcases e2.lookup m with ⟨_,z⟩|⟨d,v,z,_⟩
    ·exact z
    ·rw [hl] at z;cases z
   refine ⟨a,dx,ws,rfl,e1,hl',δ,M1,_,s.go rh1 i1,h1,fun ds M2 h2 vs H2 rh2 i2 r2=>?_⟩
   try dsimp only
   rw [List.append_nil];exact lift_calls (ds:=.ref a::ds) h2.2 rh2 (.cons rfl r2) (by rw [List.length_cons,<- r2.length];exact h2.1) (u.go (i1.trans i2)) ((s.ux ux).go (i1.trans i2))
  ·exact h1.elim
 ·exact h1.elim
theorem de_meth0{pl:Sem Bool}(he:DE X B o ta)(c:Cls X.K C)(hm:Meth X.K C m f)(F:FnOk X.prog X.w X.K X.mg X.base CX k f fd ps (liftSp X.K n T))(hr:Room k X.A)(hb:Binds X.K fd ps [])(hx:Passes CX X E)(ux:UpX X.K B X.H₀ EE E)
  (ht:eval (.Call (.Attribute o m apos) [] [] pos) X.env=(do
   let ov <- eval o X.env
   standAt apos.atName
   let (f,first) <- holding [ov] (getMethod ov m pl)
   callWith pos f first (backTo pos (starEach [] X.env)) (backToKw pos (keywordEach [] X.env))):=by rfl):
  DE X B (.Call (.Attribute o m apos) [] [] pos) (dMeth C m T EE n ta dNil):=by
 refine pe_weak (pe_meth0 he c hm F hr hb .nil hx ht) ?_
 rintro σ H Q ⟨δ,M,QQ,s,h,u⟩
 refine ⟨δ,M,_,s,h,fun x M1 h1 v H1 rh1 i1 r1=>?_⟩
 split at h1
 ·rename_i a
  cases r1
  split at h1
  ·rename_i C' fs hM
   obtain ⟨rfl,hl,h1⟩:=h1;obtain ⟨dx,ws,e1,e2⟩:=rh1 _ _ hM;have hl':ws.lookup m=none:=by
    rcases e2.lookup m with ⟨_,z⟩|⟨d,v,z,_⟩
    ·exact z
    ·rw [hl] at z;cases z
   refine ⟨a,dx,ws,rfl,e1,hl',?_⟩;exact lift_calls (ds:=[.ref a]) h1.2 rh1 (.cons rfl .nil) h1.1 (u.go i1) ((s.ux ux).go i1)
  ·exact h1.elim
 ·exact h1.elim
noncomputable def dMake(C:Addr)(T:Sd)(EE:DX)(n:Nat)(t:dTA):dTE:=fun δ M Q=>t δ M fun ds M1=>ds.length+1=n/\∀a,M1 a=none->calls T EE (.ref a::ds) (M1.upd a (.ins C [])) (fun d M2=>match d with
 |.non=>Q (.ref a) M2
 |_=>False) ⟨⟩
theorem de_make(Mk':Mk X.K C f)(F:FnOk X.prog X.w X.K X.mg X.base CX k f fd ps (liftSp X.K n T))(hr:Room (k+1) X.A)(hg:Gl X x)(hm:X.mg x=some (.ref C))(hb:Binds X.K fd ps [])(hx:Passes CX X E)(ux:UpX X.K B X.H₀ EE E)
  (ha:DA X B (e::es) t) (hdb:(x==("__debug__":Str))=false:=by decide) (he:starEach (e::es) X.env=(false,eval e X.env)::starEach es X.env:=by rfl) (hpl:(backTo pos (starEach es X.env)).any (·.1)=false:=by rfl):
  DE X B (.Call (.Name x p) (e::es) [] pos) (dMake C T EE n t):=by
 refine pe_weak (pe_make Mk' F hr hg hm hb .nil hx ha hdb he hpl) ?_
 rintro σ H Q ⟨δ,M,QQ,s,h,u⟩
 refine ⟨δ,M,_,s,h,fun ds M1 h1 vs H1 rh1 i1 r1 a dx na ndx nex=>?_⟩;rw [List.append_nil];have nx1:upd H1 dx (.own a) a=none:=by rw [upd_ne (Ne.symm nex)];exact na
 have im1:Imm H1 (upd H1 dx (.own a)):=Imm.new ndx;have im2:Imm (upd H1 dx (.own a)) (upd (upd H1 dx (.own a)) a (.ins C dx [])):=Imm.new nx1;have rh2:RepH X.K (upd (upd H1 dx (.own a)) a (.ins C dx [])) (M1.upd a (.ins C [])):=(rh1.new ndx).put (by rw [nx1];trivial) ⟨dx,[],upd_same,.nil⟩
 have f2:Frm M1 H1 (M1.upd a (.ins C [])) (upd (upd H1 dx (.own a)) a (.ins C dx [])):=(Frm.new ndx).trans (Frm.put (.inl nx1));refine lift_calls (h1.2 a (rh1.fresh na)) rh2 (.cons rfl ((r1.mono im1).mono im2)) (by rw [List.length_cons,<- r1.length];exact h1.1) (fun d M2 h2 v H2 rh f r=>?_) ((s.ux ux).go (i1.trans f2))
 cases d with
 |non=>exact ⟨r,u _ M2 h2 _ H2 rh ((i1.trans f2).trans f) rfl⟩
 |_=>exact (show False from h2).elim
end
end L3
namespace L3
open PySem L2
section
variable {X:Cx}{B:Mem}{K:PySem.W.Frag}{H H':Hp}{M M1 M':Mem}{o e:Expr}{es:List Expr}{to:dTE}{t:dTA}{name:Str}{apos cpos:Pos}{Ty id:String}
noncomputable abbrev dRM:=D->List D->Mem->DK->Prop
inductive liftM(X:Cx)(r:dRM)(x:V)(xs:List V)(H:Hp)(Q:VK):Prop
 |mk (d:D) (ds:List D) (M:Mem) (QQ:DK) (rh:RepH X.K H M) (rx:Rp X.K H d x) (rs:Rps X.K H ds xs) (h:r d ds M QQ) (u:Up X.K M H QQ Q):liftM X r x xs H Q
noncomputable def dBM(Ty:String)(r:dRM)(to:dTE)(t:dTA):dTE:=fun δ M Q=>to δ M fun x M1=>tyName M1 x=some Ty/\t δ M1 fun ds M2=>r x ds M2 Q
theorem tyV_of{d:D}{v:V}(rh:RepH K H M)(r:Rp K H d v)(e:tyName M d=some Ty)(h:Ty="list"\/Ty="str"\/Ty="int"\/Ty="dict"):tyV K Ty v H:=by
 cases d with
 |non=>cases e;rcases h with h|h|h|h<;>exact absurd h (by decide)
 |bl b=>cases e;rcases h with h|h|h|h<;>exact absurd h (by decide)
 |int i=>cases r;cases e;rfl
 |str x=>cases r;cases e;rfl
 |tup xs=>cases e;rcases h with h|h|h|h<;>exact absurd h (by decide)
 |lst xs=>
  cases e;obtain ⟨p,vs,rfl,hf,r⟩:=r;exact .inl ⟨rfl,vs,hf.sq⟩
 |ref a=>
  cases r;simp only [tyName] at e
  split at e
  ·rename_i q;cases e;obtain ⟨ws,h1,h2⟩:=rh _ _ q;exact .inl ⟨rfl,ws,SqL.of h1⟩
  ·rename_i q;cases e;obtain ⟨ws,h1,h2⟩:=rh _ _ q;exact .inr (.inr (.inl ⟨rfl,.inl ⟨ws,h1⟩⟩))
  ·rename_i q;cases e;obtain ⟨ws,h1,h2⟩:=rh _ _ q;exact .inr (.inr (.inl ⟨rfl,.inr ⟨ws,h1⟩⟩))
  ·cases e
 |_=>cases e
theorem de_bm{r:dRM}(hT:Ty="list"\/Ty="str"\/Ty="int"\/Ty="dict")(pa:PlainAttrs Ty)(slot:Slot Ty name id)(hty:typeOf (.builtin id)=pure (.type "method_descriptor"))(hm:MtR X id (liftM X r))(ho:DE X B o to)(ha:DA X B (e::es) t)
  (hbase:attributeBase o name X.env (eval o X.env)=eval o X.env:=by rfl)
  (hfew:((backTo cpos (starEach (e::es) X.env)).all (fun x=>!x.1)&&(backToKw cpos (keywordEach [] X.env)).all (fun x=>x.1.isSome)
   && decide ((e::es).length+([]:List Keyword).length+(if ([]:List Keyword).isEmpty then 0 else 1)<30))=true:=by rfl)
  (hline:(apos.endLine==cpos.line)=true:=by rfl) (hs:starEach (e::es) X.env=(false,eval e X.env)::starEach es X.env:=by rfl) (hplain:(backTo cpos (starEach es X.env)).any (·.1)=false:=by rfl):
  DE X B (.Call (.Attribute o name apos) (e::es) [] cpos) (dBM Ty r to t):=by
 refine pe_weak (pe_bm pa slot hty hm ho ha hbase hfew hline hs hplain) ?_
 rintro σ H Q ⟨δ,M,QQ,s,h,u⟩
 refine ⟨δ,M,_,s,h,fun x M1 h1 v H1 rh1 i1 r1=>⟨tyV_of rh1 r1 h1.1 hT,δ,M1,_,s.go rh1 i1,h1.2,fun ds M2 h2 vs H2 rh2 i2 r2=>?_⟩⟩;exact ⟨x,ds,M2,QQ,rh2,r1.mf rh1 i2,r2,h2,u.go (i1.trans i2)⟩
theorem de_bm0{r:dRM}(hT:Ty="list"\/Ty="str"\/Ty="int"\/Ty="dict")(pa:PlainAttrs Ty)(slot:Slot Ty name id)(hty:typeOf (.builtin id)=pure (.type "method_descriptor"))(hm:MtR X id (liftM X r))(ho:DE X B o to)
  (hbase:attributeBase o name X.env (eval o X.env)=eval o X.env:=by rfl) (hline:(apos.endLine==cpos.line)=true:=by rfl):DE X B (.Call (.Attribute o name apos) [] [] cpos) (dBM Ty r to dNil):=by
 refine pe_weak (pe_bm0 pa slot hty hm ho hbase hline) ?_
 rintro σ H Q ⟨δ,M,QQ,s,h,u⟩
 refine ⟨δ,M,_,s,h,fun x M1 h1 v H1 rh1 i1 r1=>⟨tyV_of rh1 r1 h1.1 hT,?_⟩⟩;exact ⟨x,[],M1,QQ,rh1,r1,.nil,h1.2,u.go i1⟩
noncomputable def mAppend:dRM:=fun x ds M Q=>match x,ds with
 |.ref a,[y]=>match M a with
  |some (.lst xs)=>xs.length<sizeLine/\Q .non (M.upd a (.lst (xs++[y])))
  |_=>False
 |_,_=>False
theorem mt_append':MtR X "list.append" (liftM X mAppend):=by
 intro pins s σ H x vs v us Q I rx rv h;obtain ⟨d,ds,M,QQ,rh,r,rs,h,up⟩:=h;unfold mAppend at h
 split at h
 ·rename_i a y
  cases r;obtain ⟨w,rfl,rw'⟩:=rps1 (ds:=[]) rs
  split at h
  ·rename_i xs hM
   obtain ⟨ws,h1,h2⟩:=rh _ _ hM;have im:Imm H (upd H a (.lst (ws++[w]))):=Imm.upd (by rw [h1];trivial)
   exact mt_append pins s σ H _ _ v us Q I rx rv ⟨a,ws,w,rfl,rfl,h1,by rw [<- h2.length];exact h.1,up _ _ h.2 _ _ (rh.put (by rw [h1];trivial) ⟨_,upd_same,(h2.append (.cons rw' .nil)).mono im⟩) (Frm.put (.inr ⟨_,hM⟩)) rfl⟩
  ·exact h.elim
 ·exact h.elim
noncomputable def rExtendR:V->List V->Hp->VK->Prop:=fun x vs H Q=>∃l b xs zs,x=.ref l/\vs=[.ref b]/\H l=some (.lst xs)/\Rd H b (.lst zs)/\xs.length+zs.length<=sizeLine/\Q .non (upd H l (.lst (xs++zs)))
theorem mt_extendR:MtM X "list.extend" rExtendR:=by
 intro pins s σ H x vs v us Q I rx rv h;obtain ⟨l,b,xs,zs,rfl,rfl,hH,hB,hz,q⟩:=h;cases rx;obtain ⟨u,rfl,ru⟩:=rv.one;cases ru;obtain ⟨z,its,n,r,hl,e⟩:=I.lstM hH;obtain ⟨z2,its2,n2,r2,e2⟩:=hB.ok I.hok;have hl2:=r2.length;have hsz:its.toArray.size+its2.toArray.size<=sizeLine:=by rw [List.size_toArray,List.size_toArray];lia
 have hlong:¬(!its.toArray.isEmpty&&Builtin.List.listTooLong (its.toArray.size+its2.toArray.size))=true:=by
  rw [notLongL hsz,Bool.and_false];exact Bool.false_ne_true
 refine call_meets F.slot_list_extend ⟨_,e,rfl⟩ F.entry_list_extend (F.args_list_extend_2 _ _)
  (AutoSeq1.list_extend_list_list_0 l its.toArray n b its2.toArray n2 hlong (by rw [List.size_toArray];lia) (by lia)) ⟨e,e2,?_⟩
 refine ⟨.non,_,I.lset (its':=its++its2) hH e (by simp) (r.append r2) ?_,rfl,q⟩
 rw [List.length_append];lia
noncomputable def mExtend:dRM:=fun x ds M Q=>match x,ds with
 |.ref a,[y]=>match M a,seqL M y with
  |some (.lst xs),some ys=>xs.length+ys.length<=sizeLine/\Q .non (M.upd a (.lst (xs++ys)))
  |_,_=>False
 |_,_=>False
theorem mt_extend':MtR X "list.extend" (liftM X mExtend):=by
 intro pins s σ H x vs v us Q I rx rv h;obtain ⟨d,ds,M,QQ,rh,r,rs,h,up⟩:=h;unfold mExtend at h
 split at h
 ·rename_i a y
  cases r;obtain ⟨w,rfl,rw'⟩:=rps1 (ds:=[]) rs
  split at h
  ·rename_i xs ys hM hy
   obtain ⟨ws,h1,h2⟩:=rh _ _ hM;obtain ⟨p,zs,rfl,hq,r2⟩:=seqL_of rh rw' hy;have l1:=h2.length;have l2:=r2.length;have im:Imm H (upd H a (.lst (ws++zs))):=Imm.upd (by rw [h1];trivial)
   exact mt_extendR pins s σ H _ _ v us Q I rx rv ⟨a,p,ws,zs,rfl,rfl,h1,hq,by lia,up _ _ h.2 _ _ (rh.put (by rw [h1];trivial) ⟨_,upd_same,(h2.append r2).mono im⟩) (Frm.put (.inr ⟨_,hM⟩)) rfl⟩
  ·exact h.elim
 ·exact h.elim
noncomputable def mPop:dRM:=fun x ds M Q=>match x,ds with
 |.ref a,[]=>match M a with
  |some (.lst xs)=>match xs[xs.length-1]? with
   |some y=>Q y (M.upd a (.lst xs.dropLast))
   |none=>False
  |_=>False
 |.ref a,[.int i]=>match M a with
  |some (.lst xs)=>match ixN xs.length i with
   |some k=>match xs[k]? with
    |some y=>Q y (M.upd a (.lst (xs.eraseIdx k)))
    |none=>False
   |none=>False
  |_=>False
 |_,_=>False
theorem mt_pop':MtR X "list.pop" (liftM X mPop):=by
 intro pins s σ H x vs v us Q I rx rv h;obtain ⟨d,ds,M,QQ,rh,r,rs,h,up⟩:=h;unfold mPop at h
 split at h
 ·rename_i a
  cases r;cases rs
  split at h
  ·rename_i xs hM
   split at h
   ·rename_i y ey
    obtain ⟨ws,h1,h2⟩:=rh _ _ hM;obtain ⟨w,hw,rw'⟩:=h2.get ey;have im:Imm H (upd H a (.lst ws.dropLast)):=Imm.upd (by rw [h1];trivial)
    exact mt_pop pins s σ H _ _ v us Q I rx rv ⟨a,ws,w,rfl,rfl,h1,by rw [<- h2.length];exact hw,up _ _ h _ _ (rh.put (by rw [h1];trivial) ⟨_,upd_same,h2.dropLast.mono im⟩) (Frm.put (.inr ⟨_,hM⟩)) (rw'.mono im)⟩
   ·exact h.elim
  ·exact h.elim
 ·rename_i a i
  cases r;obtain ⟨w0,rfl,rw0⟩:=rps1 (ds:=[]) rs;cases rw0
  split at h
  ·rename_i xs hM
   split at h
   ·rename_i k ek
    split at h
    ·rename_i y ey
     obtain ⟨ws,h1,h2⟩:=rh _ _ hM;obtain ⟨w,hw,rw'⟩:=h2.get ey;obtain ⟨j1,j2,j3,j4⟩:=ixN_seq ek;have hz:ws.length<=sizeLine:=(I.lstM h1).1;have hs:sizeLine=16777216:=rfl;have hl:=h2.length;have im:Imm H (upd H a (.lst (ws.eraseIdx k))):=Imm.upd (by rw [h1];trivial)
     exact mt_popAt pins s σ H _ _ v us Q I rx rv ⟨a,ws,i,k,w,rfl,rfl,h1,by lia,by lia,by rw [<- hl];exact j1,hw,up _ _ h _ _ (rh.put (by rw [h1];trivial) ⟨_,upd_same,(h2.eraseIdx k).mono im⟩) (Frm.put (.inr ⟨_,hM⟩)) (rw'.mono im)⟩
    ·exact h.elim
   ·exact h.elim
  ·exact h.elim
 ·exact h.elim
noncomputable def strsOf:List D->Option (List Str)
 |[]=>some []
 |.str x::ds=>match strsOf ds with
  |some xs=>some (x::xs)
  |none=>none
 |_=>none
theorem strs_rel:∀{ds:List D} {vs:List V} {xs:List Str},Rps K H ds vs->strsOf ds=some xs->vs=xs.map V.str
 |[],vs,xs,r,e=>by cases e;exact r
 |d::ds,vs,xs,r,e=>by
  obtain ⟨v,r',rfl,a,b⟩:=r;cases d with
  |str c=>
   simp only [strsOf] at e
   split at e
   ·rename_i xs' e2
    cases e;cases a;rw [strs_rel b e2];rfl
   ·cases e
  |_=>cases e
noncomputable def dNewK:dTE:=fun _ M Q=>∀p,M p=none->Q (.ref p) (M.upd p (.dK []))
theorem de_newK{pos:Pos}:DE X B (.Dict [] [] pos) dNewK:=by
 refine pe_weak pe_dnewK ?_
 rintro σ H Q ⟨δ,M,QQ,s,h,u⟩ p hp
 exact u _ _ (h p (s.rh.fresh hp)) _ _ (s.rh.put (by rw [hp];trivial) ⟨[],upd_same,.nil⟩) (Frm.put (.inl hp)) rfl
noncomputable def foldK(ks:List Key)(ys:List D):List (Key×D):=(ks.zip ys).foldl (fun a p=>putD a p.1 p.2) []
theorem Rkv.fold:∀{ks:List Key} {ds:List D} {vs:List V} {a:List (Key×D)} {b:List (Key×V)},Rps K H ds vs->Rkv K H a b->
  Rkv K H ((ks.zip ds).foldl (fun a p=>putD a p.1 p.2) a) ((ks.zip vs).foldl (fun a p=>putK a p.1 p.2) b)
 |[],_,_,_,_,_,r=>r
 |_::_,[],_,_,_,h,r=>by cases h;exact r
 |k::ks,d::ds,_,_,_,h,r=>by
  obtain ⟨v,vs,rfl,a,b⟩:=h;exact Rkv.fold (ks:=ks) b (r.put k a)
end
section
variable {P:Program}{w:World}{K:PySem.W.Frag}{mg:Str->Option Value}{base:Heap}{N:List Str}{qual:Str}{scope:Scope}{f C:Addr}{cd:Value}{A:Around}{outer:List Env}{s0:Shared}{H0:Hp}{E:XK}{B:Mem}
end
section
variable {X:Cx}{B:Mem}
end
end L3
namespace L2
open PySem PySem.Spec PyProof.Rows
theorem relabel_namesD{scope:Scope}{env:Env}{x:Str}{k:NameKind}(h:(relabel scope env).names.lookup x=some k):∃k',(x,k')∈scope.names/\(k=k'\/(k'=.free/\k=.cell)):=by
 have hm:=PySem.mem_of_lookup h;obtain ⟨⟨n,kk⟩,h1,h2⟩:=List.mem_map.mp hm
 by_cases hc:(kk==NameKind.free&&env.scope.kind==.function&&env.kindOf n==some .cell)=true
 ·have h2':(n,NameKind.cell)=(x,k):=by rw [<- h2];show _=(if _ then _ else _);rw [if_pos hc]
  cases h2';have hf:kk=.free:=by
   simp only [Bool.and_eq_true] at hc;exact beq_iff_eq.mp hc.1.1
  exact ⟨kk,h1,.inr ⟨hf,rfl⟩⟩
 ·have h2':(n,kk)=(x,k):=by rw [<- h2];show _=(if _ then _ else _);rw [if_neg hc]
  cases h2';exact ⟨_,h1,.inl rfl⟩
theorem lookup_zipD{x:Str}:∀{fs:List Str} {cs:List Addr},fs.length=cs.length->x∈fs->∃c,(fs.zip cs).lookup x=some c
 |[],_,_,h=>by cases h
 |_::_,[],h,_=>by simp at h
 |y::fs,c::cs,hl,h=>by
  rw [List.zip_cons_cons,List.lookup_cons];cases e:x==y with
  |true=>exact ⟨c,rfl⟩
  |false=>
   have ne:¬x=y:=fun z=>by rw [z] at e;simp at e
   rcases List.mem_cons.mp h with z|z
   ·exact absurd z ne
   ·exact lookup_zipD (by simpa using hl) z
theorem compOkZ{X:Cx}{scope:Scope}{ls:List Str}(hk:scope.kind=.function)(hn:∀y∈scope.names,y.2≠.cell/\y.2≠.free)(hl:∀x∈scope.names,x.2=.local->scope.names.lookup x.1=some .local):CompOk X scope [] ls [] [] where
 kind:=hk
 nocell:=fun y hy=>(hn y hy).1
 locs:=hl
 clos:=closureFor_none fun x hx=>(hn x hx).2
 cells:=fun x c h=>by cases h
 has:=fun x h=>by
  rcases h with h|h
  ·obtain ⟨k',h1,h2|⟨h2,_⟩⟩:=relabel_namesD h
   ·exact absurd h2.symm (hn _ h1).1
   ·exact absurd h2 (hn _ h1).2
  ·obtain ⟨k',h1,h2|⟨h2,_⟩⟩:=relabel_namesD h
   ·exact absurd h2.symm (hn _ h1).2
   ·exact absurd h2 (hn _ h1).2
 frees:=.nil
theorem compOkF{X:Cx}{scope:Scope}{ls fs:List Str}{cs:List Addr}{js:List Nat}(hk:scope.kind=.function)(hn:∀y∈scope.names,y.2≠.cell/\(y.2=.free->y.1∈fs))(hl:∀x∈scope.names,x.2=.local->scope.names.lookup x.1=some .local)
  (hlen:fs.length=cs.length) (hcl:closureFor scope X.env=pure (fs.zip cs)) (hc:∀p∈fs.zip cs,X.env.cells.lookup p.1=some p.2) (hf:Frees X scope fs js):CompOk X scope (fs.zip cs) ls fs js where
 kind:=hk
 nocell:=fun y hy=>(hn y hy).1
 locs:=hl
 clos:=hcl
 cells:=fun y d h=>hc (y,d) (PySem.mem_of_lookup h)
 has:=fun y h=>by
  have hy:y∈fs:=by
   rcases h with h|h
   ·obtain ⟨k',h1,h2|⟨h2,_⟩⟩:=relabel_namesD h
    ·exact absurd h2.symm (hn _ h1).1
    ·exact (hn _ h1).2 h2
   ·obtain ⟨k',h1,h2|⟨h2,_⟩⟩:=relabel_namesD h
    ·exact (hn _ h1).2 h2.symm
    ·exact (hn _ h1).2 h2
  exact lookup_zipD hlen hy
 frees:=hf
theorem memZ{α:Type}{C:α->Prop}:∀p∈([]:List α),C p:=fun _ h=>by cases h
theorem memC{α:Type}{C:α->Prop}{a:α}{l:List α}(ha:C a)(hl:∀p∈l,C p):∀p∈a::l,C p:=fun p hp=>by
 rcases List.mem_cons.mp hp with rfl|z
 ·exact ha
 ·exact hl p z
end L2
namespace L3
open PySem L2
section
variable {X:Cx}{B:Mem}{pos:Pos}
theorem dnm(i:Nat){x:Str}{pos:Pos}(hN:X.N[i]?=some x:=by rfl)(hv:Vis X.env.scope x:=by first|exact Or.inl rfl|exact Or.inr (Or.inl rfl)|exact Or.inr (Or.inr rfl))(hd:(x==("__debug__":Str))=false:=by decide)
  (hcd:(x==("__classdict__":Str))=false:=by decide):DE X B (.Name x pos) (dVar i):=de_var hN hv hd hcd
noncomputable def NoX:DX:=fun _ _=>False
theorem uxN{K:PySem.W.Frag}{H:Hp}{E:XK}:UpX K B H NoX E:=fun _ _ z=>z.elim
theorem bt_list':bootBuiltins "list"=some (.type "list"):=by decide +kernel
theorem bt_tuple':bootBuiltins "tuple"=some (.type "tuple"):=by decide +kernel
theorem bt_all':bootBuiltins "all"=some (.builtin "all"):=by decide +kernel
theorem bt_isinstance':bootBuiltins "isinstance"=some (.builtin "isinstance"):=by decide +kernel
theorem bt_bool':bootBuiltins "bool"=some (.type "bool"):=by decide +kernel
theorem bt_int':bootBuiltins "int"=some (.type "int"):=by decide +kernel
theorem bt_str':bootBuiltins "str"=some (.type "str"):=by decide +kernel
theorem bt_min':bootBuiltins "min"=some (.builtin "min"):=by decide +kernel
theorem bt_len':bootBuiltins "len"=some (.builtin "len"):=by decide +kernel
theorem de_ty{x:Str}{T:String}(hg:Gl X x)(hm:X.mg x=none)(hv:bootBuiltins x=some (.type T))(hn:x≠"__name__":=by decide)(hd:(x==("__debug__":Str))=false:=by decide):DE X B (.Name x pos) (dC (.ty T)):=
 de_C (pe_bltn (v:=.ty T) hg hm hv rfl hn hd) fun _=>rfl
noncomputable def oNeg(t:dTE):dTE:=fun δ M Q=>t δ M fun x M1=>match x with
 |.int i=>Q (.int (-i)) M1
 |_=>False
theorem de_neg{a:Expr}{ta:dTE}(ha:DE X B a ta):DE X B (.UnaryOp .USub a pos) (oNeg ta):=by
 refine pe_weak (pe_un un_neg ha) ?_
 rintro σ H Q ⟨δ,M,QQ,s,h,u⟩
 refine ⟨δ,M,_,s,h,fun d M' q v H' rh i r=>?_⟩;cases d with
 |int j=>exact ⟨j,r,u _ M' q _ H' rh i rfl⟩
 |_=>exact (show False from q).elim
theorem de_chain{a b c:Expr}{ta tb tc:dTE}{op op':CmpOp}{r r':dR2}(ho:OpR X (compareOp op) (liftR2 X r))(ho':OpR X (compareOp op') (liftR2 X r'))(ha:DE X B a ta)(hb:DE X B b tb)(hc:DE X B c tc)(hm:lastMarks [op,op'] [b,c]=false:=by with_unfolding_all rfl):
  DE X B (.Compare a [op,op'] [b,c] pos) (dChain r r' ta tb tc):=by
 refine pe_weak (pe_chain ho ho' ha hb hc hm) ?_
 rintro σ H Q ⟨δ,M,QQ,s,h,u⟩
 refine ⟨δ,M,_,s,h,fun x M1 h1 v1 H1 rh1 i1 r1=>?_⟩;refine ⟨δ,M1,_,s.go rh1 i1,h1,fun y M2 h2 v2 H2 rh2 i2 r2=>?_⟩;refine ⟨x,y,M2,_,rh2,r1.mf rh1 i2,r2,h2,fun z M3 h3 v3 H3 rh3 i3 r3=>?_⟩;cases z with
 |bl k=>
  cases r3;cases k with
  |true=>
   refine ⟨true,rfl,?_⟩;rw [if_pos rfl];refine ⟨δ,M3,_,s.go rh3 ((i1.trans i2).trans i3),h3,fun w M4 h4 v4 H4 rh4 i4 r4=>?_⟩;exact ⟨y,w,M4,QQ,rh4,(r2.mf rh2 (i3.trans i4)),r4,h4,u.go (((i1.trans i2).trans i3).trans i4)⟩
  |false=>
   refine ⟨false,rfl,?_⟩;rw [if_neg Bool.false_ne_true];exact u _ M3 h3 _ H3 rh3 ((i1.trans i2).trans i3) rfl
 |_=>exact (show False from h3).elim
noncomputable def frzs:List D->Mem->(List D->Mem->Prop)->Prop
 |[],M,Q=>Q [] M
 |d::ds,M,Q=>match d with
  |.ref a=>match M a with
   |some (.lst xs)=>frzs ds (M.del a) fun es M'=>Q (.lst xs::es) M'
   |_=>frzs ds M fun es M'=>Q (d::es) M'
  |_=>frzs ds M fun es M'=>Q (d::es) M'
theorem fn_top{P:Program}{w:World}{K:PySem.W.Frag}{mg:Str->Option Value}{base:Heap}{k n:Nat}{f:Addr}{fd:FuncData}{ps:List Str}{T:Sd}(F:FnOk P w K mg base (CXG P w) k f fd ps (liftSp K n T)):
  FnOk P w K mg base CX0 k f fd ps (fun vs H Q _=>liftSp K n T vs H Q E0):=
 ⟨fun vs H Q E h=>F.len _ _ _ _ h,fun A outer s H args us vs Q E hr he hb hv hs=>codeAny_mono (F.run A outer s H args us vs Q E0 hr he hb hv hs) fun r s' h=>by
  cases r with
  |ok fl=>cases fl<;>exact h
  |error e=>
   obtain ⟨C',ea,H',B,a0,e1,e2,e3,e4,e5,e6,e7,e8,e9⟩:=h;exact (show False from e9).elim⟩
theorem law_of2{K:PySem.W.Frag}{T:Sd}{H:Hp}{a:Addr}{ns:List Int}{Q:VK}(hO:Only H)(hS:SqL K H a (ns.map V.int))(h:T [.ml (ns.map D.int)] (fun _=>none) (fun d _=>d=.bl true) NoX)(k:∀H',Q (.bl true) H'):liftSp K 1 T [.ref a] H Q E0:=by
 refine ⟨rfl,[.ml (ns.map D.int)],fun _=>none,_,_,fun b o e=>(by cases e),.cons ⟨a,_,rfl,?_,Rps.ints rfl⟩ .nil,h,fun d M' q v H' rh f r=>?_,uxN⟩
 ·rcases hS with (z|z)|z
  ·rcases hO a with e|⟨o,xs,e⟩
   ·rw [e] at z;cases z
   ·rw [e] at z;cases z
  ·exact .inl z
  ·exact .inr z
 ·subst q;cases r;exact k H'
end
end L3
namespace L2
open PySem
end L2
namespace L3
open PySem L2
noncomputable def plainE:Expr->Bool
 |.Starred ..=>false
 |_=>true
theorem star_cons{e:Expr}{es:List Expr}{env:Env}(h:plainE e=true):starEach (e::es) env=(false,eval e env)::starEach es env:=by
 cases e<;>first|rfl|exact Bool.noConfusion h
section
variable {X:Cx}{B:Mem}
theorem da_c{e:Expr}{es:List Expr}{te:dTE}{t:dTA}(ha:DE X B e te)(hr:DA X B es t)(hp:plainE e=true:=by rfl):DA X B (e::es) (dCons te t):=da_cons ha hr (star_cons hp)
noncomputable def cInt:dRC:=fun ds M Q=>match ds with
 |[.bl b]=>Q (.int (if b=true then 1 else 0)) M
 |_=>False
theorem call_int':CallR X (.type "int") (liftC X cInt):=by
 intro pins s σ H xs us Q I r h;obtain ⟨ds,M,QQ,rh,rp,h,up⟩:=h;unfold cInt at h
 split at h
 ·rename_i b
  obtain ⟨v,rfl,rv⟩:=rps1 (ds:=[]) rp;cases rv;obtain ⟨u,rfl,ru⟩:=vals1 r;cases ru;exact call_int_bool ⟨.int _,H,I.tok _,⟨_,rfl⟩,up _ M h _ H rh Frm.refl rfl⟩
 ·exact h.elim
end
end L3
namespace L3
open PySem L2
section
variable {X:Cx}{B:Mem}
end
end L3
namespace L3
open PySem L2
section
variable {X:Cx}{B:Mem}
end
end L3
namespace L3
open PySem L2
section
variable {X:Cx}{B:Mem}
end
end L3
namespace LS
open PySem
noncomputable def Rs(xs:Array Nat):Prop:=xs.toList.Pairwise (· < ·)
theorem Rs.lt{xs:Array Nat}(r:Rs xs){i j:Nat}(h:i<j)(hj:j<xs.size):xs[i]'(by lia)<xs[j]:=by
 have:=List.pairwise_iff_getElem.mp r i j (by simpa using (by lia:i<xs.size)) (by simpa using hj) h
 simpa using this
structure Lb(xs:Array Nat)(j p:Nat):Prop where
 le:p<=xs.size
 lo:∀i (h:i<xs.size),i<p->xs[i]<j
 hi:∀i (h:i<xs.size),p<=i->j<=xs[i]
theorem below_go{xs:Array Nat}(r:Rs xs)(j:Nat):∀(f lo hi:Nat),lo<=hi->hi<=xs.size->hi-lo<=f->(∀i (h:i<xs.size),i<lo->xs[i]<j)->(∀i (h:i<xs.size),hi<=i->j<=xs[i])->Lb xs j (SetTable.below.go xs j f lo hi)
 |0,lo,hi,h1,h2,h3,a,b=>by
  have:lo=hi:=by lia
  subst this;exact ⟨by simp only [SetTable.below.go];exact h2,a,b⟩
 |f+1,lo,hi,h1,h2,h3,a,b=>by
  simp only [SetTable.below.go]
  by_cases c:lo<hi
  ·rw [if_pos c]
   have hm:(lo+hi) / 2<xs.size:=by lia
   have hg:xs.getD ((lo+hi) / 2) j=xs[(lo+hi) / 2]:=by simp [Array.getD,hm]
   rw [hg]
   by_cases d:xs[(lo+hi) / 2]<j
   ·rw [if_pos d]
    refine below_go r j f _ _ (by lia) h2 (by lia) (fun i h q=>?_) b
    rcases Nat.lt_or_ge i ((lo+hi) / 2) with z|z
    ·exact Nat.lt_trans (r.lt z hm) d
    ·have:i=(lo+hi) / 2:=by lia
     subst this;exact d
   ·rw [if_neg d]
    refine below_go r j f _ _ (by lia) (by lia) (by lia) a (fun i h q=>?_)
    rcases Nat.lt_or_ge ((lo+hi) / 2) i with z|z
    ·have:=r.lt z h;lia
    ·have:i=(lo+hi) / 2:=by lia
     subst this;lia
  ·rw [if_neg c]
   have:lo=hi:=by lia
   subst this;exact ⟨h2,a,b⟩
theorem below_lb{xs:Array Nat}(r:Rs xs)(j:Nat):Lb xs j (SetTable.below xs j):=
 below_go r j xs.size 0 xs.size (Nat.zero_le _) (Nat.le_refl _) (Nat.le_refl _) (fun i _ h=>by lia) (fun i h q=>by lia)
theorem put_rs{xs:Array Nat}(r:Rs xs){j:Nat}(hj:xs[SetTable.below xs j]?≠some j):Rs (SetTable.insertAt xs (SetTable.below xs j) j):=by
 have b:=below_lb r j;generalize SetTable.below xs j=p at b hj;unfold Rs at r ⊢;have e:(SetTable.insertAt xs p j).toList=xs.toList.take p++j::xs.toList.drop p:=by
  unfold SetTable.insertAt;simp [List.take_of_length_le]
 have m:∀y∈xs.toList.drop p,j<y:=fun y hy=>by
  obtain ⟨k,hk⟩:=List.mem_iff_getElem?.mp hy;rw [List.getElem?_drop,Array.getElem?_toList] at hk;obtain ⟨h1,h2⟩:=Array.getElem?_eq_some_iff.mp hk;have:=b.hi _ h1 (by lia)
  rcases Nat.lt_or_ge j y with z|z
  ·exact z
  ·have ey:xs[p+k]=j:=by lia
   cases k with
   |zero=>exact absurd (by rw [<- ey];simpa using h1) hj
   |succ k=>
    have hp:p<xs.size:=by lia
    have:=b.hi p hp (Nat.le_refl _);have:xs[p]<xs[p+(k+1)]:=by
     have:=List.pairwise_iff_getElem.mp r p (p+(k+1)) (by simpa using hp) (by simpa using h1) (by lia)
     simpa using this
    lia
 rw [e,List.pairwise_append];refine ⟨r.sublist (List.take_sublist ..),List.pairwise_cons.mpr ⟨m,r.sublist (List.drop_sublist ..)⟩,fun x hx y hy=>?_⟩;obtain ⟨k,hk⟩:=List.mem_iff_getElem?.mp hx;have hkp:k<p:=by
  rcases Nat.lt_or_ge k p with z|z
  ·exact z
  ·rw [List.getElem?_take,if_neg (by lia)] at hk;cases hk
 rw [List.getElem?_take_of_lt hkp,Array.getElem?_toList] at hk;obtain ⟨h1,h2⟩:=Array.getElem?_eq_some_iff.mp hk;have:=b.lo _ h1 hkp;rcases List.mem_cons.mp hy with rfl|hy
 ·lia
 ·have:=m y hy;lia
theorem laid_rs{mask f mv:Nat}{led pl:Bool}{hs:Array Int}{t:SetTable}{o:Array Nat}(e:SetTable.laid mask f mv led pl hs=some (t,o)):Rs t.place/\t.dummies=#[]:=by
 unfold SetTable.laid at e;cases hq:SetTable.layClean mask hs with
 |none=>rw [hq] at e;cases e
 |some q=>
  rw [hq] at e;cases e;refine ⟨?_,rfl⟩;unfold Rs;rw [List.toList_toArray];rw [List.pairwise_map,List.pairwise_filterMap];refine List.Pairwise.imp ?_ List.pairwise_lt_range;intro a b hab x hx y hy;obtain ⟨_,_,rfl⟩:=Option.map_eq_some_iff.mp hx;obtain ⟨_,_,rfl⟩:=Option.map_eq_some_iff.mp hy;exact hab
theorem probe_go{t:SetTable}{f:Nat->Int}{h:Int}(hd:t.dummies=#[]):∀(n:Nat) (p:SetTable.Probe) (j:Nat) (d:Option Nat),p.dummy=none->SetTable.probe.go t f h n p=some (.empty j d)->t.place[SetTable.below t.place j]?≠some j/\d=none
 |0,p,j,d,hp,e=>by simp [SetTable.probe.go] at e
 |n+1,p,j,d,hp,e=>by
  have adv:∀q:SetTable.Probe,q.dummy=none->(t.advance q).dummy=none:=fun q hq=>by
   unfold SetTable.advance
   split
   ·exact hq
   ·exact hq
  simp only [SetTable.probe.go] at e;cases hs:t.slot p.j with
  |empty=>
   rw [hs] at e;simp only [Option.some.injEq,SetTable.Met.empty.injEq] at e;obtain ⟨rfl,rfl⟩:=e;refine ⟨fun z=>?_,hp⟩;unfold SetTable.slot at hs;simp [z] at hs
  |dummy=>
   unfold SetTable.slot at hs;rw [hd] at hs;have:SetTable.has #[] p.j=false:=by simp [SetTable.has]
   rw [this] at hs;dsimp only at hs
   split at hs<;>simp at hs
  |live i=>
   rw [hs] at e;dsimp only at e
   split at e
   ·cases e
   ·exact probe_go hd n _ j d (adv p hp) e
theorem free_rs{t:SetTable}{h:Int}{q:Nat×Bool}(r:Rs t.place)(hd:t.dummies=#[])(e:t.freeSlot h=some q):Rs (t.put q.1).1.place/\(t.put q.1).1.dummies=#[]:=by
 unfold SetTable.freeSlot at e
 split at e
 ·rename_i j d hm
  cases e;obtain ⟨h1,h2⟩:=probe_go hd _ _ _ _ rfl hm;subst h2;refine ⟨put_rs r h1,?_⟩;show (if SetTable.has t.dummies j=true then _ else t.dummies)=#[]
  rw [hd,if_neg (by simp [SetTable.has])]
 ·cases e
end LS
namespace LS
open PySem
section
variable {prog:Program}{w:World}{K:Type}[DecidableEq K]{A:Around}{E:Value->Shared->Prop}{s:Shared}
noncomputable def Pl(t:SetTable):Prop:=t.plain=true->Rs t.place/\t.dummies=#[]
theorem standIn_led(t:SetTable)(n:Nat):(t.orStandIn n).led=t.led/\(Pl t->Pl (t.orStandIn n)):=by
 unfold SetTable.orStandIn
 by_cases q:t.fits n=true
 ·rw [if_pos q];exact ⟨rfl,id⟩
 ·rw [if_neg q];exact ⟨rfl,fun _ e=>by cases e⟩
theorem layNew_led(t:SetTable)(es:Array (Int×Value))(h:Int)(x:Value):(layNew t es h x).2.1.led=t.led/\(Pl t->Pl (layNew t es h x).2.1):=by
 unfold layNew;cases hq:t.freeSlot h with
 |some q=>
  have s:=standIn_led (t.put q.1).1 (SetTable.insertAt es (t.put q.1).2 (h,x)).size;exact ⟨s.1,fun p=>s.2 fun e=>free_rs (p e).1 (p e).2 hq⟩
 |none=>exact ⟨rfl,fun _ e=>by cases e⟩
theorem relaid_led{t t':SetTable}{hs:Array Int}{n:Nat}{o:Array Nat}(e:t.relaid hs n=some (t',o)):t'.led=t.led/\Pl t':=by
 refine ⟨?_,fun _=>laid_rs e⟩;unfold SetTable.relaid SetTable.laid at e;cases hq:SetTable.layClean (SetTable.sizeAbove n-1) hs with
 |none=>rw [hq] at e;cases e
 |some q=>rw [hq] at e;cases e;rfl
theorem relayAll_led(t:SetTable)(es:Array (Int×Value))(n:Nat):(relayAll t es n).2.1.led=t.led/\Pl (relayAll t es n).2.1:=by
 unfold relayAll;cases hr:t.relaid (es.map (·.1)) n with
 |none=>exact ⟨rfl,fun z=>by cases z⟩
 |some q=>
  have hq:=relaid_led (t':=q.1) (o:=q.2) hr
  try dsimp only
  split
  ·exact hq
  ·exact ⟨rfl,fun z=>by cases z⟩
structure Holds(knd:KeyKind prog w K)(h:Heap)(a:Addr)(led:Bool)(l:List K):Prop where
 ex:∃(o:Obj) (es:Array (Int×Value)) (ep:Nat) (t:SetTable),h.get? a=some o/\o.ExactSet/\o.data=.set es ep t/\ElemsOf knd es.toList/\(∀k,k∈l↔∃e∈es.toList,knd.is k e.2=true)/\es.size=l.length/\t.fits es.size=true/\t.led=led/\Pl t
 nd:l.Nodup
 few:l.length<scanBound
variable {knd:KeyKind prog w K}
theorem stored{h:Heap}{a:Addr}{o:Obj}{es es1:Array (Int×Value)}{ep:Nat}{t t1:SetTable}{led:Bool}{l:List K}(ho:h.get? a=some o)(hx:o.ExactSet)(hd:o.data=.set es ep t)(q1:ElemsOf knd es1.toList)
  (q2:∀k,k∈l↔∃e∈es1.toList,knd.is k e.2=true) (q3:es1.size=l.length) (q4:t1.fits es1.size=true) (q5:t1.led=led) (q6:Pl t1) (nd:l.Nodup) (few:l.length<scanBound):
  (h.update a (Obj.putSet es1 t1)).get? a=some { o with data:=.set es1 (ep+1) t1 }/\Holds knd (h.update a (Obj.putSet es1 t1)) a led l:=by
 have e:=Heap.get?_update_self (Obj.putSet es1 t1) ho (by rw [putSet_of es1 t1 hd];rfl)
 rw [putSet_of es1 t1 hd] at e;exact ⟨e,⟨_,es1,ep+1,t1,e,hx,rfl,q1,q2,q3,q4,q5,q6⟩,nd,few⟩
theorem add_end{g:Bool->Sem Unit}(hg:∀(b:Bool) (s':Shared) (P:Unit->Shared->Prop),P () s'->wpAny (model prog w) A (g b) P E s'){a:Addr}{o:Obj}{es es1:Array (Int×Value)}{ep:Nat}{t t2:SetTable}{led wd:Bool}{l:List K}{R:Option Bool->Shared->Prop}
  (ho:s.heap.get? a=some o) (hx:o.ExactSet) (hd:o.data=.set es ep t) (q1:ElemsOf knd es1.toList) (q2:∀k,k∈l↔∃e∈es1.toList,knd.is k e.2=true) (q3:es1.size=l.length) (q4:t2.fits es1.size=true) (q5:t2.led=led)
  (q6:Pl t2) (nd:l.Nodup) (few:l.length<scanBound) (hR:∀h',Heap.SameBut a s.heap h'->Holds knd h' a led l->R (some true) { s with heap:=h' }):
  wpAny (model prog w) A (storeSet a es1 t2 >>= fun _=>if (!wd&&t2.tooFull)=true then g (relayAll t2 es1 (SetTable.grown es1.size)).2.2 >>= fun _=>storeSet a (relayAll t2 es1 (SetTable.grown es1.size)).1 (relayAll t2 es1 (SetTable.grown es1.size)).2.1 >>= fun _=>pure (some true) else pure (some true)) R E s:=by
 obtain ⟨e1,H1⟩:=stored (knd:=knd) ho hx hd q1 q2 q3 q4 q5 q6 nd few;have hb:es1.size<scanBound:=by rw [q3];exact few
 refine wpAny_bind (wpAny_storeSet_of ho hd ?_ (fits_of_scanBound hb))
 by_cases hq:(!wd&&t2.tooFull)=true
 ·rw [if_pos hq]
  have r1:=relayAll_perm t2 es1 (SetTable.grown es1.size);have r2:=relayAll_fits t2 es1 (SetTable.grown es1.size);have r3:=relayAll_led t2 es1 (SetTable.grown es1.size);generalize relayAll t2 es1 (SetTable.grown es1.size)=L at r1 r2 r3 ⊢;have r4:L.1.size=es1.size:=by rw [<- Array.length_toList,r1.length_eq,Array.length_toList]
  refine wpAny_bind (hg _ _ _ (wpAny_bind (wpAny_storeSet_of e1 rfl ?_ (by rw [r4];exact fits_of_scanBound hb))))
  obtain ⟨_,H2⟩:=stored (knd:=knd) (l:=l) (led:=led) (es1:=L.1) (t1:=L.2.1) e1 hx rfl (q1.perm r1) (fun k=>(q2 k).trans ⟨fun ⟨e,he,z⟩=>⟨e,r1.mem_iff.mpr he,z⟩,fun ⟨e,he,z⟩=>⟨e,r1.mem_iff.mp he,z⟩⟩) (by rw [r4];exact q3) r2 (r3.1.trans q5) r3.2 nd few
  exact wpAny_pure (hR _ ((Heap.SameBut.update s.heap a _).trans (Heap.SameBut.update _ a _)) H2)
 ·rw [if_neg hq]
  exact wpAny_pure (hR _ (Heap.SameBut.update s.heap a _) H1)
theorem add_key{a:Addr}{led:Bool}{l:List K}{k:K}{x:Value}{Q:Bool->Shared->Prop}(hkey:knd.is k x=true)(hsc:x.scannable=true)(H:Holds knd s.heap a led l)(room:l.length+1<scanBound)
  (h:∀h' b,Heap.SameBut a s.heap h'->Holds knd h' a led (if k∈l then l else l++[k])->Q b { s with heap:=h' }):wpAny (model prog w) A (setAddHashed a x (knd.hash k)) Q E s:=by
 obtain ⟨⟨o,es,ep,t,ho,hx,hd,hel,hm,hsz,hf,hle,hpl⟩,nd,few⟩:=H;have hb:es.size<scanBound:=by rw [hsz];exact few
 unfold setAddHashed setAddHashedIn;refine wpAny_holding (wpAny_bind (wpAny_setState_of ho hd hf ?_));simp only [byScan_of hsc hb hel,if_true];unfold setAddByScan;refine wpAny_bind (wpAny_bind (wpAny_rule (wpAny_bind (wpAny_setScan_of hkey ho hd hf hel ?_))))
 by_cases hk:k∈l
 ·obtain ⟨e,he,hp⟩:=(hm k).mp hk
  cases hr:es.toList.findIdx? (fun e=>knd.is k e.2) with
  |none=>have:=List.findIdx?_eq_none_iff.mp hr e he;rw [hp] at this;cases this
  |some j=>
   refine wpAny_pure (wpAny_pure ?_);have:=h s.heap false (Heap.SameBut.refl a s.heap) (by rw [if_pos hk];exact ⟨⟨o,es,ep,t,ho,hx,hd,hel,hm,hsz,hf,hle,hpl⟩,nd,few⟩)
   cases s;exact this
 ·have hr:es.toList.findIdx? (fun e=>knd.is k e.2)=none:=List.findIdx?_eq_none_iff.mpr fun e he=>by
   cases q:knd.is k e.2 with
   |false=>rfl
   |true=>exact absurd ((hm k).mpr ⟨e,he,q⟩) hk
  rw [hr];have p1:=layNew_perm t es (knd.hash k) x;have p2:=layNew_fits t es (knd.hash k) x;have p3:=layNew_led t es (knd.hash k) x;rw [Array.toList_push] at p1
  try dsimp only
  generalize layNew t es (knd.hash k) x=L at p1 p2 p3 ⊢;obtain ⟨es1,t1,wd,gv⟩:=L;dsimp only at p1 p2 p3 ⊢;have q1:ElemsOf knd es1.toList:=(hel.push hkey hsc).perm p1;have q2:∀k',k'∈l++[k]↔∃e∈es1.toList,knd.is k' e.2=true:=fun k'=>by
   constructor
   ·intro hk'
    rcases List.mem_append.mp hk' with z|z
    ·obtain ⟨e,he,hp⟩:=(hm k').mp z
     exact ⟨e,p1.mem_iff.mpr (List.mem_append_left _ he),hp⟩
    ·rw [List.mem_singleton] at z;subst z
     exact ⟨_,p1.mem_iff.mpr (List.mem_append_right _ (List.mem_singleton.mpr rfl)),hkey⟩
   ·rintro ⟨e,he,hp⟩
    rcases List.mem_append.mp (p1.mem_iff.mp he) with z|z
    ·exact List.mem_append_left _ ((hm k').mpr ⟨e,z,hp⟩)
    ·rw [List.mem_singleton] at z;subst z
     exact List.mem_append_right _ (List.mem_singleton.mpr (knd.inj x k' k hp hkey))
  have q3:es1.size=(l++[k]).length:=by rw [<- Array.length_toList,p1.length_eq];simp [hsz]
  have nd':(l++[k]).Nodup:=List.nodup_append.mpr ⟨nd,by simp,fun y hy z hz=>by rw [List.mem_singleton] at hz;subst hz;rintro rfl;exact hk hy⟩
  have few':(l++[k]).length<scanBound:=by simp;lia
  have q4:Pl t1:=p3.2 hpl;have hgw:∀(b:Bool) (s':Shared) (P:Unit->Shared->Prop),P () s'->wpAny (model prog w) A (match b with|true=>rule "set.scan.the-table-gave-way"|false=>pure ()) P E s':=fun b s' P z=>by
   cases b
   ·exact wpAny_pure z
   ·exact wpAny_rule z
  have last:∀h',Heap.SameBut a s.heap h'->Holds knd h' a led (l++[k])->wpAny (model prog w) A (pure true) Q E { s with heap:=h' }:=fun h' z H'=>wpAny_pure (h h' true z (by rw [if_neg hk];exact H'))
  refine wpAny_bind (hgw gv s _ ?_)
  by_cases hpn:t1.plain=true
  ·rw [if_pos hpn]
   refine wpAny_bind (wpAny_of_eq (hashByValue_scannable 8 hsc) ?_);cases hpk:plainKind x with
   |true=>exact add_end (knd:=knd) (g:=fun b=>match b with|true=>rule "set.scan.the-table-gave-way"|false=>pure ()) hgw ho hx hd q1 q2 q3 p2 (p3.1.trans hle) q4 nd' few' last
   |false=>exact add_end (knd:=knd) (g:=fun b=>match b with|true=>rule "set.scan.the-table-gave-way"|false=>pure ()) (t2:={ t1 with plain:=false }) hgw ho hx hd q1 q2 q3 (SetTable.fits_plain_off p2) (p3.1.trans hle) (fun z=>by cases z) nd' few' last
  ·rw [if_neg hpn]
   refine wpAny_bind (wpAny_pure ?_);exact add_end (knd:=knd) (g:=fun b=>match b with|true=>rule "set.scan.the-table-gave-way"|false=>pure ()) hgw ho hx hd q1 q2 q3 p2 (p3.1.trans hle) q4 nd' few' last
end
end LS
namespace LS
open PySem
section
variable {prog:Program}{w:World}{K:Type}[DecidableEq K]{A:Around}{E:Value->Shared->Prop}{s:Shared}{knd:KeyKind prog w K}
theorem Holds.keep{h h':Heap}{a:Addr}{led:Bool}{l:List K}(H:Holds knd h a led l)(k:∀o,h.get? a=some o->h'.get? a=some o):Holds knd h' a led l:=by
 obtain ⟨⟨o,es,ep,t,ho,r⟩,nd,few⟩:=H;exact ⟨⟨o,es,ep,t,k _ ho,r⟩,nd,few⟩
noncomputable def byText(w:World):Bool:=w.params.followText "set-order"
noncomputable def emptySet(led:Bool):Obj:={ cls:=.type "set",dict:=none,data:=.set #[] 0 (.fresh 0 0 led) }
theorem new_set(a:Value){Z:Value->Shared->Prop}(h:Z (.ref s.heap.objs.size) { s with heap:=s.heap.push (emptySet (!byText w)) }):
  codeAny (model prog w) A (.call (.builtin "set.__new__") ⟨[.type "set",a],[]⟩) (wants Z E) s:=by
 apply codeAny_of_tree;show wpAny _ A.in1 (checkBuiltinCall "set.__new__" ⟨[.type "set",a],[]⟩ >>= fun _=>again (.builtin "set.__new__" ⟨[.type "set",a],[]⟩)) _ _ s;apply wpAny_bind;refine wpAny_of_eq (F.newCall_set_1 a) (wpAny_pure ⟨plainId_quiet F.plain_set_new _,codeAny_builtin F.entry_set_new ?_⟩);rw [Around.under_plainId (F.plain_set_new) _];have sub:=sub_set_self;obtain ⟨hp,gg,dd,tt,oo⟩:=s;unfold Builtin.«set.__new__» Builtin.Frozenset.newClass;dsimp only;wp_walk;refine wpAny_askSetting (wpAny_pure ?_);simp only [newObj];exact wpAny_bind (wpAny_alloc (wpAny_pure (wpAny_pure h)))
noncomputable def adds(l:List K):List K->List K
 |[]=>l
 |k::r=>adds (if k∈l then l else l++[k]) r
theorem fills{P:Nat->Value->Prop}{St:Nat->Heap->Prop}{I S:Addr}{fp:List Addr}{ks:List K}{led:Bool}{R:Result->Shared->Prop}(W:Walks prog w A.in1 I fp [I] ks.length P St)(hS:S∉fp)(hI:S≠I)
  (hP:∀i v,P i v->∃k,ks[i]?=some k/\knd.is k v=true/\v.scannable=true) (few:ks.length+1<scanBound):
  ∀(r i:Nat) (s:Shared) (l:List K),i+r=ks.length->St i s.heap->Holds knd s.heap S led l->l.length<=i->
   (∀h' tk,(∀b o,b≠S->b≠I->s.heap.get? b=some o->h'.get? b=some o)->Holds knd h' S led (adds l (ks.drop i))->R (.ok (.ret .none)) { s with heap:=h',toks:=tk })->
   codeAny (model prog w) A (.builtin "set.update.loop" ⟨[.ref S,.ref I],[]⟩) R s
 |0,i,s,l,e,st,H,hl,hR=>by
  refine codeAny_builtin PyProof.Rows.F.entry_set_update_loop ?_;rw [Around.under_plainId (PyProof.Rows.F.plain_set_update_loop) _];show wpAny _ A.in1 (pyNext (.ref I) >>= _) _ _ s;obtain rfl:i=ks.length:=by lia
  refine wpAny_bind (W.done s _ _ st fun h' tk k=>?_);refine wpAny_pure (hR h' tk (fun b o _ hb q=>k b o (by simpa using hb) q) ?_)
  rw [List.drop_length];exact H.keep fun o q=>k S o (by simpa using hI) q
 |r+1,i,s,l,e,st,H,hl,hR=>by
  refine codeAny_builtin PyProof.Rows.F.entry_set_update_loop ?_;rw [Around.under_plainId (PyProof.Rows.F.plain_set_update_loop) _];show wpAny _ A.in1 (pyNext (.ref I) >>= _) _ _ s;refine wpAny_bind (W.item i s _ _ (by lia) st fun v h' tk pv st' k=>?_)
  obtain ⟨x,hx,ix,sx⟩:=hP i v pv;have H':Holds knd h' S led l:=H.keep fun o q=>k S o (by simpa using hI) q
  show wpAny _ A.in1 (holding [v] (setAdd S v) >>= _) _ _ _;refine wpAny_bind (wpAny_holding ?_);unfold setAdd;refine wpAny_holding (wpAny_bind (knd.pyHash ix ?_));refine add_key (s:={ s with heap:=h',toks:=tk+1 }) ix sx H' (by lia) fun h2 b2 sb H2=>?_
  refine wpAny_pure ⟨plainId_quiet PyProof.Rows.F.plain_set_update_loop _,?_⟩;have hd:ks.drop i=x::ks.drop (i+1):=by
   obtain ⟨hlt,hxe⟩:=List.getElem?_eq_some_iff.mp hx;rw [<- hxe];exact List.drop_eq_getElem_cons hlt
  have hl2:(if x∈l then l else l++[x]).length<=i+1:=by
   by_cases z:x∈l
   ·rw [if_pos z];lia
   ·rw [if_neg z,List.length_append,List.length_singleton];lia
  refine fills W hS hI hP few r (i+1) _ _ (by lia) (W.frame _ _ _ st' fun b hb o q=>?_) H2 hl2 fun h3 tk3 k3 H3=>?_
  ·rw [sb.2 b fun z=>hS (z▸hb)];exact q
  ·refine hR h3 tk3 (fun b o hb1 hb2 q=>k3 b o hb1 hb2 ?_) ?_
   ·show h2.get? b=some o
    rw [sb.2 b hb1];exact k b o (by simpa using hb2) q
   ·rw [hd];exact H3
theorem empty_holds{h:Heap}{a:Addr}{led:Bool}(e:h.get? a=some (emptySet led)):Holds knd h a led []:=by
 exact ⟨⟨_,#[],0,.fresh 0 0 led,e,⟨rfl,rfl,rfl⟩,rfl,fun _ q=>by simp at q,fun k=>by simp,rfl,by rfl,rfl,fun _=>⟨List.Pairwise.nil,rfl⟩⟩,List.nodup_nil,by simp [scanBound]⟩
end
end LS
namespace LS
open PySem
section
variable {M:Model}{A:Around}{E:Value->Shared->Prop}
end
end LS
namespace LS
open PySem
section
variable {prog:Program}{w:World}{A:Around}{E:Value->Shared->Prop}{s:Shared}{I a:Addr}{f:Value}{i n ep:Nat}{es:Array (Int×Value)}{t:SetTable}
end
end LS
namespace LS
open PySem
section
variable {prog:Program}{w:World}{A:Around}{E:Value->Shared->Prop}{s:Shared}{I a:Addr}{ep:Nat}{es:Array (Int×Value)}{t:SetTable}
end
end LS
namespace LS
open PySem PySem.W PySem.Calls PyProof.Rows PyProof.V PySem.Spec
section
variable {prog:Program}{w:World}{A:Around}{E:Value->Shared->Prop}{s:Shared}{a:Addr}{ep:Nat}{es:Array (Int×Value)}{t:SetTable}
end
end LS
namespace LS
open PySem
section
variable {prog:Program}{w:World}{A:Around}{E:Value->Shared->Prop}{s:Shared}{a:Addr}
end
end LS
namespace LS
open PySem
section
variable {K:Type}[DecidableEq K](o:Ord K)
end
end LS
namespace L3
open PySem L2 LS
theorem strs_are:∀{ss:List Str} {us:List Value},Vals (ss.map V.str) us->PyProof.Rows.StrsAre us ss
 |[],_,.nil=>.nil
 |_::_,_,.cons r t=>by obtain ⟨u,rfl⟩:=r;exact .cons _ _ (strs_are t)
theorem rps_strs{K:PySem.W.Frag}{H:Hp}:∀(ss:List Str),Rps K H (ss.map D.str) (ss.map V.str)
 |[]=>rfl
 |_::ss=>⟨_,_,rfl,rfl,rps_strs ss⟩
section
variable {X:Cx}{B:Mem}
theorem bt_set':bootBuiltins "set"=some (.type "set"):=by decide +kernel
theorem are_at:∀{us:List Value} {ss:List Str},PyProof.Rows.StrsAre us ss->∀(i:Nat) (v:Value),us[i]?=some v->∃x t,ss[i]?=some x/\v=.str x t
 |_,_,.nil,i,v,h=>by simp at h
 |_,_,.cons x t r,0,v,h=>⟨x,t,by simp,by simpa using h.symm⟩
 |_,_,.cons x t r,i+1,v,h=>by simpa using are_at r i v (by simpa using h)
end
end L3
namespace LS
open PySem
section
variable {prog:Program}{w:World}{A:Around}{E:Value->Shared->Prop}{s:Shared}{a:Addr}
end
end LS
namespace L3
open PySem L2 LS
section
variable {X:Cx}{B:Mem}
end
end L3
namespace L2
open PySem
section
variable {X:Cx}
end
end L2
namespace L3
open PySem L2 LS
section
variable {X:Cx}{B:Mem}
end
end L3
namespace L3
open PySem L2 LS
inductive TabR(w:World)(K:PySem.W.Frag):List DictEntry->List (Str×D)->Prop
 |nil:TabR w K [] []
 |cons {e:DictEntry} {x:Str} {d:D} {es:List DictEntry} {tab:List (Str×D)}:e.hash=hashStr w x->(∃t,e.key=.str x t)->(∃v,RelV v e.val/\∀H,Rp K H d v)->TabR w K es tab->TabR w K (e::es) ((x,d)::tab)
structure ModTab(w:World)(K:PySem.W.Frag)(mg:Str->Option Value)(name:Str)(a:Addr)(tab:List (Str×D)):Prop where
 at_:mg name=some (.ref a)
 sys:(a==sysModules)=false
 nd:(tab.map (·.1)).Nodup
 ex:∃es ep,K.lookup a=some { cls:=.type "dict",dict:=none,data:=.dict es ep,slots:=#[] }/\TabR w K es.toList tab
noncomputable def tabAt:List (Str×D)->Str->Option D
 |[],_=>none
 |(y,d)::t,x=>if y=x then some d else tabAt t x
theorem tab_rows{P:Program}{w:World}{K:PySem.W.Frag}:∀{es:List DictEntry} {tab:List (Str×D)},TabR w K es tab->∃kvs:List (Str×Value),(∀e∈es,∃k,(strKind P w).is k e.key=true/\e.hash=(strKind P w).hash k)/\Pairs (strKind P w) es kvs/\kvs.map (·.1)=tab.map (·.1)/\∀x,match tabAt tab x with
  |some d=>∃u v,valueAt kvs x=some u/\RelV v u/\∀H,Rp K H d v
  |none=>valueAt kvs x=none
 |_,_,.nil=>⟨[],(fun e h=>by cases h),Pairs.nil,rfl,fun x=>rfl⟩
 |_,_,.cons (e:=e) (x:=x) (d:=d) (tab:=tab) h1 h2 h3 r=>by
  obtain ⟨kvs,q1,q2,q3,q4⟩:=tab_rows (P:=P) r;obtain ⟨t,ht⟩:=h2;obtain ⟨v,hv,hr⟩:=h3;have hk:(strKind P w).is x e.key=true:=by rw [ht];simp [strKind,Value.isStrOf]
  refine ⟨(x,e.val)::kvs,fun e' he=>?_,.cons hk rfl q2,by simp [q3],fun y=>?_⟩
  ·rcases List.mem_cons.mp he with rfl|he
   ·exact ⟨x,hk,h1⟩
   ·exact q1 e' he
  ·unfold tabAt valueAt
   by_cases c:x=y
   ·rw [if_pos c]
    exact ⟨e.val,v,by simp [c],hv,hr⟩
   ·rw [if_neg c]
    have:=q4 y;unfold valueAt at this;simpa [c] using this
theorem ModTab.map{P:Program}{w:World}{K:PySem.W.Frag}{mg:Str->Option Value}{name:Str}{a:Addr}{tab:List (Str×D)}(T:ModTab w K mg name a tab){h:Heap}(kin:K.In h):∃kvs:List (Str×Value),h.DictOf (strKind P w) a kvs/\∀x,match tabAt tab x with
  |some d=>∃u v,valueAt kvs x=some u/\RelV v u/\∀H,Rp K H d v
  |none=>valueAt kvs x=none:=by
 obtain ⟨es,ep,h1,h2⟩:=T.ex;obtain ⟨kvs,q1,q2,q3,q4⟩:=tab_rows (P:=P) h2;exact ⟨kvs,⟨_,es,ep,kin _ _ h1,⟨rfl,rfl,rfl⟩,rfl,fun e he=>q1 e (by simpa using he),q2,by rw [q3];exact T.nd⟩,q4⟩
section
variable {X:Cx}{B:Mem}{name:Str}{a:Addr}{tab:List (Str×D)}
noncomputable def oInT(tab:List (Str×D))(a:Addr):dR2:=fun x y M Q=>match x,y with
 |.str x,.ref b=>b=a/\Q (.bl (tabAt tab x).isSome) M
 |_,_=>False
noncomputable def oIxT(tab:List (Str×D))(a:Addr):dR2:=fun x y M Q=>match x,y with
 |.ref b,.str x=>b=a/\match tabAt tab x with
  |some d=>Q d M
  |none=>False
 |_,_=>False
theorem tab_some{kvs:List (Str×Value)}(q:match tabAt tab name with
  |some d=>∃u v,valueAt kvs name=some u/\RelV v u/\∀H,Rp X.K H d v
  |none=>valueAt kvs name=none):(valueAt kvs name).isSome=(tabAt tab name).isSome:=by
 cases e:tabAt tab name with
 |some d=>rw [e] at q;obtain ⟨u,v,h,_⟩:=q;rw [h];rfl
 |none=>rw [e] at q;rw [show valueAt kvs name=none from q];rfl
theorem op_inT(T:ModTab X.w X.K X.mg name a tab):OpR X (compareOp .In) (liftR2 X (oInT tab a)):=by
 intro pins s σ H x y v u Q I rx ry h;obtain ⟨d1,d2,M,QQ,rh,r1,r2,h,up⟩:=h;unfold oInT at h
 split at h
 ·rename_i z b
  cases r1;cases r2;cases ry;obtain ⟨rfl,h⟩:=h;obtain ⟨t,rfl⟩:=rx;obtain ⟨kvs,dd,q⟩:=T.map (P:=X.prog) I.kIn;refine wpAny_in_of (knd:=strKind X.prog X.w) (k:=z) (by simp [strKind,Value.isStrOf]) T.sys dd.mapOf ?_
  rw [tab_some (X:=X) (q z)];exact ⟨.bl _,H,I.tok _,rfl,up _ M h _ H rh Frm.refl rfl⟩
 ·exact h.elim
theorem ix_T(T:ModTab X.w X.K X.mg name a tab):IxR X (liftR2 X (oIxT tab a)):=by
 intro value slice pins s σ H x y v u Q I rx ry h hs;obtain ⟨d1,d2,M,QQ,rh,r1,r2,h,up⟩:=h;unfold oIxT at h
 split at h
 ·rename_i b z
  cases r1;cases r2;cases rx;obtain ⟨rfl,h⟩:=h;obtain ⟨t,rfl⟩:=ry;obtain ⟨kvs,dd,q⟩:=T.map (P:=X.prog) I.kIn;have qz:=q z
  split at h
  ·rename_i d e
   rw [e] at qz;obtain ⟨u,v,h1,h2,h3⟩:=qz;refine PyProof.Rows.tail_any dd.typeIs PySem.F.slot_dict_getitem.lookup (wpAny_getItem_of (knd:=strKind X.prog X.w) (k:=z) (by simp [strKind,Value.isStrOf]) dd.mapOf h1 ⟨v,H,I.tok _,h2,up _ M h _ H rh Frm.refl (h3 H)⟩) hs
  ·exact h.elim
 ·exact h.elim
theorem de_glI{x:Str}{n:Int}{pos:Pos}(hg:Gl X x)(hm:∃t,X.mg x=some (.int n t))(hd:(x==("__debug__":Str))=false:=by decide):DE X B (.Name x pos) (dC (.int n)):=by
 obtain ⟨t,hm⟩:=hm;exact de_glob (v:=.int n) hg hm ⟨t,rfl⟩ (fun _=>rfl) hd
theorem de_glT{pos:Pos}(hg:Gl X name)(T:ModTab X.w X.K X.mg name a tab)(hd:(name==("__debug__":Str))=false:=by decide):DE X B (.Name name pos) (dC (.ref a)):=
 de_glob (v:=.ref a) hg T.at_ rfl (fun _=>rfl) hd
end
end L3
namespace LS
open PySem
section
variable {prog:Program}{w:World}{K:Type}[DecidableEq K]{A:Around}{E:Value->Shared->Prop}{s:Shared}{knd:KeyKind prog w K}
theorem call_setT{l:Addr}{items:Array Value}{ks:List K}{Q:Value->Shared->Prop}(hh:A.handled=none)(hl:s.heap.IsTuple l items)(hn:items.size=ks.length)
  (hk:∀(i:Nat) (v:Value),items[i]?=some v->∃k,ks[i]?=some k/\knd.is k v=true/\v.scannable=true) (few:ks.length+1<scanBound)
  (h:∀(h':Heap) (tk:Nat),Holds knd h' s.heap.objs.size (!byText w) (adds [] ks)->(∀b o,s.heap.get? b=some o->h'.get? b=some o)->Q (.ref s.heap.objs.size) { s with heap:=h',toks:=tk }):
  wpAny (model prog w) A (call (.type "set") [.ref l]) Q E s:=by
 have ft:=F.called_set;obtain ⟨cc,tl,m1⟩:=ft.mro;have m2:=ft.made;have m3:=ft.sub;apply wpAny_call;apply codeAny_of_tree;refine wpAny_pure ⟨Code.quiet_builtin _ (by decide +kernel),codeAny_builtin F.entry_type_call ?_⟩
 rw [Around.under_plain (weight_type_call_type "set" [.ref l] []) (rfl)];have m4:=ft.notType;have m5:=ft.canCreate;have m6:=F.typeCall_set_1 (.ref l)
 repeat (any_goals (first|(assumption)|wp_step))
 refine codeAny_mono (new_set (.ref l) (E:=E) (Z:=fun o s1=>o=.ref s.heap.objs.size/\s1={ s with heap:=s.heap.push (emptySet (!byText w)) }) ⟨rfl,rfl⟩) fun r s1 hr=>?_;cases r with
 |error e=>exact hr
 |ok fl=>
  cases fl with
  |ret obj=>
   obtain ⟨rfl,rfl⟩:=hr;have at0:(s.heap.push (emptySet (!byText w))).get? s.heap.objs.size=some (emptySet (!byText w)):=Heap.get?_push_size _ rfl;have ty0:Shared.TypeIs { s with heap:=s.heap.push (emptySet (!byText w)) } (.ref s.heap.objs.size) "set":=⟨_,at0,rfl⟩;have i1:=ft.init.lookup;have i2:=ft.init.bind (.ref s.heap.objs.size)
   repeat (any_goals (first|(assumption)|wp_step))
   refine codeAny_mono (codeAny_call_builtin (R:=wants (fun r s2=>r=.none/\∃h' tk,s2={ s with heap:=h',toks:=tk }/\Holds knd h' s.heap.objs.size (!byText w) (adds [] ks)/\∀b o,s.heap.get? b=some o->h'.get? b=some o) E) ft.init.plain F.entry_set_init (check_set_init_1 ty0 ?_)) fun r2 s2 hr2=>?_
   ·have hl1:(s.heap.push (emptySet (!byText w))).IsTuple l items:=hl.push _
    obtain ⟨ol,g1,g2,nl,g3⟩:=id hl1;have lt:l<s.heap.objs.size:=let ⟨_,q,_⟩:=hl;Heap.lt_size q;obtain ⟨oc,od,oz,os⟩:=ol;dsimp only at g2 g3;subst g2;subst g3;have n1:=F.sub_tuple_set;have n2:=F.sub_tuple_frozenset;have n3:(Value.type "tuple"==Value.type "dict")=false:=rfl;have at1:=at0;unfold emptySet at at1 g1 ⊢;unfold Builtin.«set.__init__» noKeywords Builtin.Frozenset.updateFrom;generalize ei:pyIter=it
    wp_walk
    subst ei;refine wpAny_pyIter_tuple hl1 (wpAny_bind (wpAny_runValue ?_));have hS:s.heap.objs.size∉[(s.heap.push (emptySet (!byText w))).objs.size,l]:=by
     rw [Heap.size_push];simp only [List.mem_cons,List.not_mem_nil,or_false,not_or];exact ⟨Nat.ne_of_lt (Nat.lt_succ_self _),Nat.ne_of_gt lt⟩
    have hI:l≠(s.heap.push (emptySet (!byText w))).objs.size:=by rw [Heap.size_push];exact Nat.ne_of_lt (Nat.lt_succ_of_lt lt)
    have at2:((s.heap.push (emptySet (!byText w))).push { cls:=.type "tuple_iterator",data:=.fields #[.ref l,.int 0 0] }).get? s.heap.objs.size=some (emptySet (!byText w)):=Heap.get?_push_of_some _ at0;have W:=Walks.tuple (prog:=prog) (w:=w) (A:=A.in1.in1.in1) (by simpa using hh) (s.heap.push (emptySet (!byText w))).objs.size l hI items
    rw [hn] at W;refine fills (knd:=knd) (led:=!byText w) (ks:=ks) W hS (fun z=>hS (by rw [<- z];simp)) hk few ks.length 0 _ [] (by lia) ⟨⟨_,Heap.get?_push_size _ rfl,rfl,rfl⟩,hl1.push _⟩ (empty_holds at2) (Nat.zero_le _) fun h' tk k H=>?_
    refine wpAny_pure (wpAny_pure ⟨rfl,h',tk,rfl,by rw [List.drop_zero] at H;exact H,fun b o q=>?_⟩)
    have lb:=Heap.lt_size q;exact k b o (Nat.ne_of_lt lb) (by rw [Heap.size_push];exact Nat.ne_of_lt (Nat.lt_succ_of_lt lb)) (Heap.get?_push_of_some _ (Heap.get?_push_of_some _ q))
   ·cases r2 with
    |error e=>exact hr2
    |ok f2=>
     cases f2 with
     |ret r=>
      obtain ⟨rfl,h',tk,rfl,H,k⟩:=hr2
      repeat (any_goals (first|(assumption)|wp_step))
      exact h _ _ H k
     |_=>exact hr2.elim
  |_=>exact hr.elim
end
end LS
namespace LS
open PySem
section
variable {prog:Program}{w:World}{K:Type}[DecidableEq K]{A:Around}{E:Value->Shared->Prop}{s:Shared}{knd:KeyKind prog w K}
theorem len_held{a:Addr}{led:Bool}{l:List K}{Q:Value->Shared->Prop}(H:Holds knd s.heap a led l)(hQ:∀t tk,Q (.int (l.length:Nat) t) { s with toks:=tk }):wpAny (model prog w) A (call (.builtin "len") [.ref a]) Q E s:=by
 obtain ⟨⟨o,es,ep,t,ho,hx,hd,_,_,hsz,hf,_⟩,_,few⟩:=H;refine call_len_set ho hx hd hf ?_ ?_
 ·have:es.size<scanBound:=by rw [hsz];exact few
  have:scanBound<=2 ^ 30:=by decide
  lia
 ·rw [hsz];exact hQ _ _
end
end LS
namespace L2
open PySem PySem.Spec
noncomputable def Its(x:Str):It:=⟨fun i _=>i<x.cps.size,fun i H v H'=>H'=H/\∃c,x.cps[i]?=some c/\v=.str ⟨#[c]⟩,fun i _=>x.cps.size<=i⟩
theorem turn_str{P:Program}{w:World}{K:PySem.W.Frag}{tg:Expr}(it:Addr)(x:Str)(t:Tok):Turn P w K tg (Its x) [it] it (fun i h=>h.IsStrIter it "str_ascii_iterator" x t i) where
 mem:=by simp
 obj:=fun i h st b hb=>by
  have e:b=it:=by simpa using hb
  subst e;obtain ⟨o,e,_,d⟩:=st;exact ⟨o,e,fun v z=>by rw [d] at z;cases z⟩
 keep:=fun i h h' st k=>by
  obtain ⟨o,e,r⟩:=st;exact ⟨o,k it (by simp) o e,r⟩
 item:=by
  intro X hP hw hK hc i pins s σ H E I hf st hg;subst hP hw hK;obtain ⟨f0,f1,f2,f3,f4,f5⟩:=hf it (by simp)
  have hi:i<x.cps.size:=hg;refine wpAny_pyNext_ascii_item st (c:=x.cps[i]) (by simp [hi]) fun h' st' sb=>?_
  have I1:Inv X pins σ H { s with heap:=h',toks:=s.toks+1 }:=I.turned (fun b o hb e=>(sb.2 b hb).trans e) f0 f1 f3 f4 f5;obtain ⟨o,e,c,d⟩:=id st';exact ⟨_,rfl,go_of (s:={ s with heap:=h',toks:=s.toks+1 }) e c d (by decide) ⟨.str ⟨#[x.cps[i]]⟩,H,I1,⟨_,rfl⟩,⟨rfl,_,by simp [hi],rfl⟩,st',fun b hb=>(hf b hb).1⟩⟩
 done:=by
  intro X hP hw hK hc i pins s σ H E I hf st hg;subst hP hw hK;obtain ⟨f0,f1,f2,f3,f4,f5⟩:=hf it (by simp)
  have hi:x.cps.size<=i:=hg;exact wpAny_pyNext_ascii_end (I.ok.hd hc) st (by simp [hi]) fun h' eb=>⟨rfl,I.turned (t':=s.toks) (fun b o hb e=>eb b o hb e) f0 f1 f3 f4 f5⟩
 self:=fun _ _ _ _ _ st h=>wpAny_pyIter_striter_ascii st h
section
variable {X:Cx}{tg:Expr}
noncomputable def iStr(tl:TE):TI:=fun σ H R=>tl σ H fun x H1=>∃z:Str,x=.str z/\z.cps.all (· < 128)=true/\R (Its z) H1
theorem pi_str{l:Expr}{tl:TE}(hl:PE X l tl):PI X tg l (iStr tl):=by
 intro pins s σ H R I h;refine thn (hl pins s σ H _ I h) fun v s1 ⟨x,H1,I1,r1,q1⟩=>?_;obtain ⟨z,rfl,ha,q⟩:=q1;obtain ⟨t,rfl⟩:=r1;refine wpAny_pyIter_ascii ha ?_;refine ⟨s1.heap.objs.size,[s1.heap.objs.size],_,_,H1,rfl,I1.kept (t':=s1.toks) fun b o e=>Heap.get?_push_of_some _ e,turn_str _ z t,⟨_,Heap.get?_push_size _ rfl,rfl,rfl⟩,fun b hb=>?_,q⟩;have e:b=s1.heap.objs.size:=by simpa using hb
 subst e;exact I1.fpOk (Nat.le_refl _) (I1.hok.fresh (Nat.le_refl _))
end
end L2
namespace L3
open PySem L2 LS
section
variable {X:Cx}{B:Mem}{tg:Expr}{K:PySem.W.Frag}{H:Hp}{M:Mem}
noncomputable def signsD(z:Str):List D:=z.cps.toList.map fun c=>D.str ⟨#[c]⟩
noncomputable def wStr(te:dTE):dTI:=fun δ M R=>te δ M fun d M1=>match d with
 |.str z=>z.cps.all (· < 128)=true/\R ⟨signsD z,[]⟩ M1
 |_=>False
theorem str_ok{z:Str}:ItOk K H ⟨signsD z,[]⟩ (Its z):=fun i H2 M2 i2 rh2 _=>by
 have hlen:(signsD z).length=z.cps.size:=by simp [signsD]
 refine ⟨fun d hd=>?_,fun hle=>by rw [hlen] at hle;exact hle⟩
 have hi:i<z.cps.size:=by
  rcases Nat.lt_or_ge i z.cps.size with h|h
  ·exact h
  ·rw [List.getElem?_eq_none (by rw [hlen];exact h)] at hd;cases hd
 refine ⟨hi,?_⟩
 rintro x H3 ⟨rfl,c,hc,rfl⟩
 have ed:d=.str ⟨#[c]⟩:=by
  simp only [signsD,List.getElem?_map,Array.getElem?_toList,hc] at hd;exact (Option.some.inj hd).symm
 subst ed;exact ⟨Frm.refl,rh2,rfl⟩
theorem di_str{l:Expr}{tl:dTE}(hl:DE X B l tl):DI X B tg l (wStr tl):=by
 refine pi_weak (pi_str hl) ?_
 rintro σ H R ⟨δ,M,RR,s,h,up⟩
 refine ⟨δ,M,_,s,h,fun d M1 h1 v H1 rh1 i1 r1=>?_⟩
 split at h1
 ·cases r1
  exact ⟨_,rfl,h1.1,up _ M1 h1.2 _ H1 rh1 i1 str_ok⟩
 ·exact h1.elim
noncomputable def oLeS:dR2:=fun x y M Q=>match x,y with
 |.str a,.str b=>Q (.bl (!decide (b.cps.toList<a.cps.toList))) M
 |_,_=>False
theorem op_leS:OpR X (compareOp .LtE) (liftR2 X oLeS):=by
 intro pins s σ H x y v u Q I rx ry h;obtain ⟨d1,d2,M,QQ,rh,r1,r2,h,up⟩:=h;unfold oLeS at h
 split at h
 ·cases r1;cases r2
  obtain ⟨t,rfl⟩:=rx;obtain ⟨t2,rfl⟩:=ry
  rename_i a b
  have g:=gives_str_le a b t t2;refine compareOp_gives (op:=.LtE) ?_ ?_ F.slot_str_le ?_ ?_ g (fun q=>by cases q) ⟨.bl _,H,I,rfl,up _ M h _ H rh Frm.refl rfl⟩
  ·exact typeIs_str ..
  ·exact typeIs_str ..
  ·exact F.entry_str_le
  ·exact F.args_str_le_2 ..
 ·exact h.elim
noncomputable def dLenSet(t:dTA):dTE:=fun δ M Q=>t δ M fun ds M1=>match ds with
 |[.tup xs]=>match strsOf xs with
  |some ss=>ss.length<64/\Q (.int ((adds [] ss).length:Nat)) M1
  |none=>False
 |_=>False
noncomputable def tLenSet(K:PySem.W.Frag)(t:TA):TE:=fun σ H Q=>t σ H fun vs H1=>∃(l:Addr) (ss:List Str),vs=[.ref l]/\SqT K H1 l (ss.map V.str)/\ss.length<64/\Q (.int ((adds [] ss).length:Nat)) H1
theorem bt_len2:bootBuiltins "len"=some (.builtin "len"):=by decide +kernel
theorem pe_lenSet{e:Expr}{t:TA}{p p2 pos pos2:Pos}(hc:X.calm=true)(hg:Gl X "set")(hm:X.mg "set"=none)(hg2:Gl X "len")(hm2:X.mg "len"=none)(ha:PA X [e] t)
  (hs:starEach [e] X.env=[(false,eval e X.env)]:=by rfl) (hs3:starEach [Expr.Call (.Name "set" p2) [e] [] pos2] X.env=[(false,eval (.Call (.Name "set" p2) [e] [] pos2) X.env)]:=by rfl):
  PE X (.Call (.Name "len" p) [.Call (.Name "set" p2) [e] [] pos2] [] pos) (tLenSet X.K t):=by
 intro pins s σ H Q I h;refine wpAny_Call_Name_kw (ld_blt I hg2 hm2 bt_len2 (PyProof.Rows.callWith_builtin1 ?_ hs3 rfl));rw [hs3];show wpAny _ _ (spliced ((false,_)::backTo pos [])) _ _ s;refine Calls.spliced_cons ?_;refine wpAny_Call_Name_kw (ld_blt I hg hm bt_set' (PyProof.Rows.callWith_type1 (thn (ha pos2 pins s σ H _ I h) fun us s1 ⟨vs,H1,I1,r1,q1⟩=>?_) hs rfl));obtain ⟨l,ss,rfl,hq,h64,q⟩:=q1;obtain ⟨u,rfl,ru⟩:=vals1 r1;cases ru;obtain ⟨its,rv,pl,hz⟩:=I1.tuple hq;have hlen:=rv.length;rw [List.length_map] at hlen;have sa:=strs_are rv;have hh:=I1.ok.hd hc;refine call_setT (knd:=strKind X.prog X.w) (ks:=ss) hh (show s1.heap.IsTuple l its.toArray from pl) (by simp;lia) (fun i v hv=>?_) (Nat.lt_of_le_of_lt (Nat.succ_le_of_lt h64) (by decide)) fun h2 tk H2 k2=>?_
 ·rw [List.getElem?_toArray] at hv
  obtain ⟨x,t',e1,e2⟩:=are_at sa i v hv;subst e2;exact ⟨x,e1,by simp [strKind,Value.isStrOf],rfl⟩
 refine Calls.spliced_nil ?_;refine len_held (s:={ s1 with heap:=h2,toks:=tk }) H2 fun t2 tk2=>?_;exact ⟨.int _,H1,I1.kept (t':=tk2) k2,⟨_,rfl⟩,q⟩
theorem de_lenSet{e:Expr}{t:dTA}{p p2 pos pos2:Pos}(hc:X.calm=true)(hg:Gl X "set")(hm:X.mg "set"=none)(hg2:Gl X "len")(hm2:X.mg "len"=none)(ha:DA X B [e] t)
  (hs:starEach [e] X.env=[(false,eval e X.env)]:=by rfl) (hs3:starEach [Expr.Call (.Name "set" p2) [e] [] pos2] X.env=[(false,eval (.Call (.Name "set" p2) [e] [] pos2) X.env)]:=by rfl):
  DE X B (.Call (.Name "len" p) [.Call (.Name "set" p2) [e] [] pos2] [] pos) (dLenSet t):=by
 refine pe_weak (pe_lenSet hc hg hm hg2 hm2 ha hs hs3) ?_
 rintro σ H Q ⟨δ,M,QQ,s,h,u⟩
 refine ⟨δ,M,_,s,h,fun ds M1 h1 vs H1 rh1 i1 r1=>?_⟩
 split at h1
 ·obtain ⟨v,rfl,p,vs,rfl,hq,rr⟩:=rps1 (ds:=[]) r1
  split at h1
  ·rename_i ss es
   have:=strs_rel rr es;subst this;exact ⟨p,ss,rfl,hq.sq,h1.1,u _ _ h1.2 _ H1 rh1 i1 rfl⟩
  ·exact h1.elim
 ·exact h1.elim
theorem tab_tup{a:Addr}{ss:List Str}{us:Array Value}{n:Nat}(h:K.lookup a=some { cls:=.type "tuple",dict:=none,data:=.seq us n,slots:=#[] })(hv:Vals (ss.map V.str) us.toList)(hz:us.size<=sizeLine):∃v,RelV v (.ref a)/\∀H,Rp K H (.mt (ss.map D.str)) v:=
 ⟨.ref a,rfl,fun _=>⟨a,_,rfl,⟨_,us,n,h,rfl,rfl,hz,hv⟩,rps_strs ss⟩⟩
end
end L3
namespace L3
open PySem L2
section
variable {X:Cx}{B:Mem}{pos:Pos}
theorem lift_chain{ta tb tc:dTE}{r r':dR2}{σ:List (Option V)}{H:Hp}{Q:VK}(h:liftE X B (dChain r r' ta tb tc) σ H Q):tChain (liftR2 X r) (liftR2 X r') (liftE X B ta) (liftE X B tb) (liftE X B tc) σ H Q:=by
 obtain ⟨δ,M,QQ,s,h,u⟩:=h;refine ⟨δ,M,_,s,h,fun x M1 h1 v1 H1 rh1 i1 r1=>?_⟩;refine ⟨δ,M1,_,s.go rh1 i1,h1,fun y M2 h2 v2 H2 rh2 i2 r2=>?_⟩;refine ⟨x,y,M2,_,rh2,r1.mf rh1 i2,r2,h2,fun z M3 h3 v3 H3 rh3 i3 r3=>?_⟩;cases z with
 |bl k=>
  cases r3;cases k with
  |true=>
   refine ⟨true,rfl,?_⟩;rw [if_pos rfl];refine ⟨δ,M3,_,s.go rh3 ((i1.trans i2).trans i3),h3,fun w M4 h4 v4 H4 rh4 i4 r4=>?_⟩;exact ⟨y,w,M4,QQ,rh4,(r2.mf rh2 (i3.trans i4)),r4,h4,u.go (((i1.trans i2).trans i3).trans i4)⟩
  |false=>
   refine ⟨false,rfl,?_⟩;rw [if_neg Bool.false_ne_true];exact u _ M3 h3 _ H3 rh3 ((i1.trans i2).trans i3) rfl
 |_=>exact (show False from h3).elim
theorem dt_chain{a b c:Expr}{ta tb tc:dTE}{op op':CmpOp}{r r':dR2}(ho:OpR X (compareOp op) (liftR2 X r))(ho':OpR X (compareOp op') (liftR2 X r'))(ha:DE X B a ta)(hb:DE X B b tb)(hc:DE X B c tc)(hm:lastMarks [op,op'] [b,c]=false:=by with_unfolding_all rfl):
  DT X B (.Compare a [op,op'] [b,c] pos) (dTest (dChain r r' ta tb tc)):=by
 refine pt_weak (pt_chain ho ho' ha hb hc hm) ?_
 rintro σ H Q ⟨δ,M,QQ,s,h,u⟩
 have h':liftE X B (dChain r r' ta tb tc) σ H (fun x H'=>∃k,x=.bl k/\Q k H'):=by
  refine ⟨δ,M,_,s,h,fun d M' q v H' rh i rp=>?_⟩;cases d with
  |bl k=>exact ⟨k,rp,u k M' q H' rh i⟩
  |_=>exact (show False from q).elim
 exact lift_chain h'
end
end L3
namespace L3
open PySem L2
section
variable {X:Cx}{B:Mem}
end
end L3
namespace L3
open PySem L2 LS
section
variable {X:Cx}{B:Mem}
noncomputable def itx(i:Int):Str:=Str.ofString (toString i)
noncomputable def cStr:dRC:=fun ds M Q=>match ds with
 |[.int i]=>(-1000000<=i/\i<=1000000)/\Q (.str (itx i)) M
 |_=>False
theorem log_small{a:Int}(h:-1000000<=a/\a<=1000000):a.natAbs.log2<1920:=by
 have h1:a.natAbs<=1000000:=by omega
 rcases Nat.eq_zero_or_pos a.natAbs with z|z
 ·rw [z];decide
 ·have:=(Nat.log2_lt (by omega):a.natAbs.log2<1920↔a.natAbs<2 ^ 1920)
  exact this.mpr (Nat.lt_of_le_of_lt h1 (by decide +kernel))
theorem call_str':CallR X (.type "str") (liftC X cStr):=by
 intro pins s σ H xs us Q I r h;obtain ⟨ds,M,QQ,rh,rp,h,up⟩:=h;unfold cStr at h
 split at h
 ·obtain ⟨v,rfl,rv⟩:=rps1 (ds:=[]) rp
  cases rv;obtain ⟨u,rfl,ru⟩:=vals1 r;obtain ⟨t,rfl⟩:=ru;exact P.str_of_int (log_small h.1) ⟨.str _,H,I.tok _,⟨_,rfl⟩,up _ M h.2 _ H rh Frm.refl rfl⟩
 ·exact h.elim
noncomputable def mJoin:dRM:=fun x ds M Q=>match x,ds with
 |.str z,[d]=>match seqD M d with
  |some xs=>match strsOf xs with
   |some ss=>(z.length<=16/\(ss.map (·.length)).sum+ss.length<=1048576)/\Q (.str (PySem.Txt.join z ss)) M
   |none=>False
  |none=>False
 |_,_=>False
theorem mt_join':MtR X "str.join" (liftM X mJoin):=by
 intro pins s σ H x vs v us Q I rx rv h;obtain ⟨d,ds,M,QQ,rh,r,rs,h,up⟩:=h;unfold mJoin at h
 split at h
 ·rename_i z d2
  cases r;obtain ⟨w,rfl,rw'⟩:=rps1 (ds:=[]) rs;obtain ⟨t,rfl⟩:=rx
  split at h
  ·rename_i xs ex
   split at h
   ·rename_i ss es
    obtain ⟨⟨h1,h2⟩,h3⟩:=h;obtain ⟨p,ws,rfl,hq,rr⟩:=seqD_of rh rw' ex;have:=strs_rel rr es;subst this;obtain ⟨u,rfl,ru⟩:=vals1 rv;cases ru;rcases hq with hq|hq
    ·obtain ⟨its,r',pl,_⟩:=I.list hq
     exact PyProof.Rows.join_listW pl.isList (by simpa using strs_are r') h1 h2 fun t' k=>⟨.str _,H,I.tok _,⟨_,rfl⟩,up _ M h3 _ H rh Frm.refl rfl⟩
    ·obtain ⟨its,r',pl,_⟩:=I.tuple hq
     exact PyProof.Rows.join_tupleW pl (by simpa using strs_are r') h1 h2 fun t' k=>⟨.str _,H,I.tok _,⟨_,rfl⟩,up _ M h3 _ H rh Frm.refl rfl⟩
   ·exact h.elim
  ·exact h.elim
 ·exact h.elim
end
end L3
namespace LS
open PySem PySem.W PySem.Calls PyProof.Rows PyProof.V PySem.Spec
theorem len_vals:typeLookup (.type "dict_values") "__len__"=pure (some (.builtin "dict_values.__len__")):=by rw [typeLookup_type];rw [builtinLookup_eq_fast];kernel_rfl
theorem sub_vals:isSubtype (.type "dict_values") (.type "dict_values")=pure true:=by rw [isSubtype_type];kernel_rfl
section
variable {prog:Program}{w:World}{K:Type}[DecidableEq K]{knd:KeyKind prog w K}{A:Around}{E:Value->Shared->Prop}{s:Shared}{v d:Addr}{ep:Nat}{kvs:List (K×Value)}
theorem hint_vals{Q:Bool->Shared->Prop}(ty:s.TypeIs (.ref v) "dict_values")(h:Q false s):wpAny (model prog w) A (Builtin.List.listLengthHint (.ref v)) Q E s:=by
 unfold Builtin.List.listLengthHint;refine wpAny_bind (wpAny_specialOf ty len_vals ?_);generalize hi:("dict_values.__len__":String)=id1
 wp_delta
 rw [show splitId id1=some ("dict_values","__len__") by subst hi;decide +kernel]
 subst hi;refine wpAny_bind (wpAny_isInstance (T:="dict_values") (b:=true) ty sub_vals ?_);refine wpAny_ite_split (fun z=>absurd z (by decide)) fun _=>wpAny_ite_split (fun _=>?_) fun z=>absurd (by decide +kernel) z
 exact wpAny_bind (wpAny_typeOf ty (wpAny_pure h))
theorem extend_vals{R:Result->Shared->Prop}{S:Addr}{res:Value}(hh:A.handled=none)(hv:s.heap.IsValuesView v d)(hm:s.heap.DictAt knd d kvs ep)(hz:kvs.length<=sizeLine)(hSv:S≠v)(hSd:S≠d){c0:Nat}
  (hS:s.heap.get? S=some { cls:=.type "list",data:=.seq #[] c0 })
  (hR:∀h' tk (acc:Array Value) c,(∀b o,b≠S->s.heap.get? b=some o->h'.get? b=some o)->h'.get? S=some { cls:=.type "list",dict:=none,data:=.seq acc c,slots:=#[] }->acc.toList=kvs.map (·.2)->
   R (.ok (.ret res)) { s with heap:=h',toks:=tk }):
  wpAny (model prog w) A.in1 (Builtin.List.listExtendWith (.ref S) (.ref v) res) (fun fin s'=>match fin with|.done f=>R (.ok f) s'|.again c'=>c'.quiet=true/\codeAny (model prog w) A c' R s') (fun e s'=>R (.error e) s') s:=by
 have ty:=hv.typeIs;obtain ⟨ov,hov,hvr⟩:=id hv;obtain ⟨od,des,hod,hdr⟩:=id hm;have n0:=Heap.lt_size hS;have hd0:d≠s.heap.objs.size:=Nat.ne_of_lt (Heap.lt_size hod);have hS0:S≠s.heap.objs.size:=Nat.ne_of_lt n0;unfold Builtin.List.listExtendWith;refine wpAny_bind (wpAny_typeOf ty ?_);have e1:Builtin.List.listSameRef (.ref S) (.ref v)=false:=by simp [Builtin.List.listSameRef,hSv]
 have e2:(Value.type "dict_values"==Value.type "list")=false:=by decide
 have e3:(Value.type "dict_values"==Value.type "tuple")=false:=by decide
 simp only [e1,e2,e3,Bool.or_false,Bool.false_eq_true,if_false];refine wpAny_bind (wpAny_pyIter_values hv hm ?_);obtain ⟨it,hit⟩:∃it:Obj,it={ cls:=.type "dict_valueiterator",data:=.fields #[.ref d,.int 0 0,.int kvs.length 0,.int ep 0] }:=⟨_,rfl⟩;rw [<- hit];have k1:∀b o,s.heap.get? b=some o->(s.heap.push it).get? b=some o:=fun b o q=>Heap.get?_push_of_some _ q;have hS1:=k1 S _ hS;refine wpAny_bind (wpAny_holding (hint_vals ⟨ov,k1 v _ hov,hvr.1⟩ ?_));have W:=Walks.dictValues (knd:=knd) (prog:=prog) (w:=w) (A:=A.in1) (by simpa using hh) s.heap.objs.size d hd0 kvs ep
 have st:(s.heap.push it).IsValIter s.heap.objs.size d 0 kvs.length ep/\(s.heap.push it).DictAt knd d kvs ep:=by
  refine ⟨⟨_,Heap.get?_push_size _ (by rw [hit];rfl),by rw [hit],by rw [hit];rfl⟩,hm.at' fun o q=>k1 d o q⟩
 have hSf:S∉[s.heap.objs.size,d]:=fun z=>by simp only [List.mem_cons,List.not_mem_nil,or_false] at z;rcases z with y|y;exact hS0 y;exact hSd y
 have key:∀(h:Heap) (c1 tk:Nat),(h.IsValIter s.heap.objs.size d 0 kvs.length ep/\h.DictAt knd d kvs ep)->(∀b o,b≠S->s.heap.get? b=some o->h.get? b=some o)->h.get? S=some { cls:=.type "list",data:=.seq #[] c1 }->
   codeAny (model prog w) A (.builtin "list.extend.loop" ⟨[.ref S,.ref s.heap.objs.size,res],[]⟩) R { s with heap:=h,toks:=tk }:=by
  intro h c1 tk st' k hS';refine codeAny_extend_loopS W.toS hz S hSf res kvs.length 0 _ #[] c1 rfl (Nat.zero_le _) st' hS' (ItemsOf.nil _) fun s2 acc c2 mv at2 its=>?_;rw [Moved.eq_with mv];refine hR s2.heap s2.toks acc c2 (fun b o hb q=>mv.heap b o (fun z=>?_) (k b o hb q)) at2 ?_
  ·rcases List.mem_cons.mp z with y|y
   ·exact hb y
   ·rw [List.mem_singleton] at y
    exact absurd (Heap.lt_size q) (by rw [y];exact Nat.lt_irrefl _)
  ·refine List.ext_getElem? fun i=>?_
   rcases Nat.lt_or_ge i kvs.length with z|z
   ·have hv:acc[i]?=some (acc[i]'(by rw [its.1];exact z)):=Array.getElem?_eq_getElem _
    rw [Array.getElem?_toList,hv];obtain ⟨kk,hk⟩:=its.2 i _ hv;rw [List.getElem?_map,hk];rfl
   ·rw [List.getElem?_eq_none (by rw [Array.length_toList,its.1];exact z),List.getElem?_eq_none (by simpa using z)]
 refine wpAny_ite_split (fun y=>?_) fun _=>wpAny_pure ⟨plainId_quiet PySem.F.plain_extend_loop _,key _ _ _ st (fun b o _ q=>k1 b o q) hS1⟩;refine wpAny_bind (wpAny_rule (wpAny_bind ?_));show wpAny _ _ (updateSeq S (fun q=>q.push .none) >>= fun _=>updateSeq S (fun q=>q.pop)) _ _ _;refine wpAny_bind (wpAny_updateSeq hS1 rfl ?_);have hS2:=Heap.get?_update_self (Obj.mapSeq (fun q=>q.push Value.none)) hS1 rfl;refine wpAny_updateSeq (hz:=by seq_fits) hS2 rfl ?_
 have hS3:=Heap.get?_update_self (Obj.mapSeq (fun q=>q.pop)) hS2 rfl;have oth:∀b o,b≠S->(s.heap.push it).get? b=some o->(((s.heap.push it).update S (Obj.mapSeq (fun q=>q.push Value.none))).update S (Obj.mapSeq (fun q=>q.pop))).get? b=some o:=fun b o hb q=>by
  rw [Heap.get?_update_other _ _ (Ne.symm hb),Heap.get?_update_other _ _ (Ne.symm hb)];exact q
 exact wpAny_pure ⟨plainId_quiet PySem.F.plain_extend_loop _,key _ _ _ (W.frame 0 _ _ st fun b hb o q=>oth b o (fun z=>hSf (z▸hb)) q) (fun b o hb q=>oth b o hb (k1 b o q)) hS3⟩
theorem init_vals{R:Result->Shared->Prop}{S:Addr}(hh:A.handled=none)(hv:s.heap.IsValuesView v d)(hm:s.heap.DictAt knd d kvs ep)(hz:kvs.length<=sizeLine)(hSv:S≠v)(hSd:S≠d)
  (at0:s.heap.get? S=some { cls:=.type "list",data:=.seq #[] })
  (hR:∀h' tk (acc:Array Value) c,(∀b o,b≠S->s.heap.get? b=some o->h'.get? b=some o)->h'.get? S=some { cls:=.type "list",dict:=none,data:=.seq acc c,slots:=#[] }->acc.toList=kvs.map (·.2)->
   R (.ok (.ret .none)) { s with heap:=h',toks:=tk }):
  wpAny (model prog w) A.in1 (Builtin.«list.__init__» ⟨[.ref S,.ref v],[]⟩) (fun fin s'=>match fin with|.done f=>R (.ok f) s'|.again c'=>c'.quiet=true/\codeAny (model prog w) A c' R s') (fun e s'=>R (.error e) s') s:=by
 show wpAny _ _ (do let old <- Builtin.List.listItems (.ref S);Builtin.List.listUpdate (.ref S) (fun _=>#[]);letGo old.toList.reverse;Builtin.List.listExtendWith (.ref S) (.ref v) .none) _ _ s
 refine wpAny_bind ?_;unfold Builtin.List.listItems;refine wpAny_bind (wpAny_seqItems at0 rfl (wpAny_pure ?_));show wpAny _ _ (updateSeq S (fun _=>#[]) >>= fun _=>letGo (#[]:Array Value).toList.reverse >>= fun _=>Builtin.List.listExtendWith (.ref S) (.ref v) .none) _ _ s;refine wpAny_bind (wpAny_updateSeq at0 rfl ?_);have hS2:=Heap.get?_update_self (Obj.mapSeq (fun _=>(#[]:Array Value))) at0 rfl;have oth:∀b o,b≠S->s.heap.get? b=some o->(s.heap.update S (Obj.mapSeq (fun _=>(#[]:Array Value)))).get? b=some o:=fun b o hb e=>by
  rw [Heap.get?_update_other _ _ (Ne.symm hb)];exact e
 refine wpAny_bind (m:=letGo _) (wpAny_letGo ?_);obtain ⟨ov,hov,hvr⟩:=hv;refine extend_vals (knd:=knd) (kvs:=kvs) (ep:=ep) hh ⟨ov,oth v _ (Ne.symm hSv) hov,hvr⟩ (hm.at' fun o q=>oth d o (Ne.symm hSd) q) hz hSv hSd hS2 fun h' tk acc c k a1 a2=>?_;exact hR h' tk acc c (fun b o hb e=>k b o hb (oth b o hb e)) a1 a2
theorem list_vals{Q:Value->Shared->Prop}(hh:A.handled=none)(hv:s.heap.IsValuesView v d)(hm:s.heap.DictAt knd d kvs ep)(hz:kvs.length<=sizeLine)
  (hQ:∀h' tk (acc:Array Value) c,(∀b o,s.heap.get? b=some o->h'.get? b=some o)->h'.get? s.heap.objs.size=some { cls:=.type "list",dict:=none,data:=.seq acc c,slots:=#[] }->acc.toList=kvs.map (·.2)->Q (.ref s.heap.objs.size) { s with heap:=h',toks:=tk }):
  wpAny (model prog w) A (call (.type "list") [.ref v]) Q E s:=by
 obtain ⟨ov,hov,hvr⟩:=id hv;obtain ⟨od,des,hod,hdr⟩:=id hm
 refine callType_codes (Q₁:=fun obj s1=>obj=.ref s.heap.objs.size/\s1={ s with heap:=s.heap.push { cls:=.type "list",data:=.seq #[] } }) F.called_list (F.typeCall_list_1 _) F.entry_list_init
  (code_list_new _ ⟨rfl,rfl⟩) fun obj s1 h1=>?_
 obtain ⟨rfl,rfl⟩:=h1;have hS:(s.heap.push { cls:=.type "list",data:=.seq #[] }).get? s.heap.objs.size=some { cls:=.type "list",data:=.seq #[] }:=Heap.get?_push_size _ rfl;refine ⟨⟨_,hS,rfl⟩,F.args_list_init_2 _ _,init_vals (knd:=knd) (kvs:=kvs) (ep:=ep) (A:=A.in1) (by simpa using hh) ⟨ov,Heap.get?_push_of_some _ hov,hvr⟩ (hm.at' fun o q=>Heap.get?_push_of_some _ q) hz (Nat.ne_of_gt (Heap.lt_size hov)) (Nat.ne_of_gt (Heap.lt_size hod)) hS fun h' tk acc c k a1 a2=>?_⟩
 exact ⟨rfl,hQ h' tk acc c (fun b o e=>k b o (Nat.ne_of_lt (Heap.lt_size e)) (Heap.get?_push_of_some _ e)) a1 a2⟩
end
end LS
namespace L3
open PySem L2 LS
section
variable {X:Cx}{B:Mem}{pos:Pos}
noncomputable def dListVals(to:dTE):dTE:=fun δ M Q=>to δ M fun d M1=>match d with
 |.ref a=>match M1 a with
  |some (.dK kvs)=>∀p,M1 p=none->Q (.ref p) (M1.upd p (.lst (kvs.map (·.2))))
  |_=>False
 |_=>False
noncomputable def tListVals(to:TE):TE:=fun σ H Q=>to σ H fun x H1=>∃a kvs,x=.ref a/\H1 a=some (.dK kvs)/\∀p,H1 p=none->Q (.ref p) (upd H1 p (.lst (kvs.map (·.2))))
theorem kv_vals:∀{kvs:List (Key×V)} {vs:List (Key×Value)},KV kvs vs->Vals (kvs.map (·.2)) (vs.map (·.2))
 |_,_,.nil=>.nil
 |_,_,.cons h t=>.cons h.2 (kv_vals t)
theorem rkv_vals{K:PySem.W.Frag}{H:Hp}:∀{a:List (Key×D)} {b:List (Key×V)},Rkv K H a b->Rps K H (a.map (·.2)) (b.map (·.2))
 |_,_,.nil=>rfl
 |_,_,.cons h t=>⟨_,_,rfl,h.2,rkv_vals t⟩
theorem pe_listVals{o:Expr}{to:TE}{p apos cpos:Pos}(hc:X.calm=true)(hg:Gl X "list")(hm:X.mg "list"=none)(ho:PE X o to)
  (hbase:attributeBase o "values" X.env (eval o X.env)=eval o X.env:=by rfl) (hline:(apos.endLine==cpos.line)=true:=by rfl)
  (hs3:starEach [Expr.Call (.Attribute o "values" apos) [] [] cpos] X.env=[(false,eval (.Call (.Attribute o "values" apos) [] [] cpos) X.env)]:=by rfl):
  PE X (.Call (.Name "list" p) [.Call (.Attribute o "values" apos) [] [] cpos] [] pos) (tListVals to):=by
 intro pins s σ H Q I h;refine wpAny_Call_Name_kw (ld_blt I hg hm bt_list' (PyProof.Rows.callWith_type1 ?_ hs3 rfl));rw [hs3];show wpAny _ _ (spliced ((false,_)::backTo pos [])) _ _ s;refine Calls.spliced_cons ?_;refine wpAny_Call_method0_late hbase hline (thn (ho pins s σ H _ I h) fun v s1 zz=>?_);obtain ⟨x,H1,I1,r1,a,kvs,ex,e,q⟩:=zz;subst ex;cases r1;obtain ⟨h1,h2⟩:=tyV_is I1 (x:=.ref a) rfl (.inr (.inr (.inl ⟨rfl,.inl ⟨kvs,e⟩⟩)));refine ⟨"dict","dict.values",F.plainAttrs_dict,F.slot_dict_values,F.type_dict_values,h1,h2,Calls.callWith_builtin rfl (PySem.evalArgs_none ?_)⟩;obtain ⟨z,hd,vs,rel,dd⟩:=dk_of I1.hok e;refine call_meetsIn F.slot_dict_values dd.typeIs F.entry_dict_values (F.args_dict_values_1 _) (meets_dict_values (mixKind X.prog X.w) a hd) ⟨⟨vs,dd⟩,?_⟩;refine Calls.spliced_nil ?_;obtain ⟨ep,da⟩:=dd.dictAt;have hh:=I1.ok.hd hc;have hvl:vs.length<=sizeLine:=by rw [<- rel.length];exact z
 refine list_vals (knd:=mixKind X.prog X.w) (kvs:=vs) (ep:=ep) hh ⟨_,Heap.get?_push_size _ rfl,rfl,rfl⟩ (da.at' fun o q=>Heap.get?_push_of_some _ q) hvl fun h' tk acc c k1 a1 a2=>?_;have hsz:(s1.heap.push { cls:=.type "dict_values",data:=.fields #[.ref a] }).objs.size=s1.heap.objs.size+1:=Heap.size_push ..;have hn:H1 (s1.heap.objs.size+1)=none:=I1.hok.fresh (Nat.le_succ _);have hS':h'.get? (s1.heap.objs.size+1)=some { cls:=.type "list",dict:=none,data:=.seq acc c,slots:=#[] }:=by rw [<- hsz];exact a1
 refine ⟨.ref (s1.heap.objs.size+1),_,I1.laid (t':=tk) (o:=.lst (kvs.map (·.2))) (fun b o z=>k1 b o (Heap.get?_push_of_some _ z)) (Nat.le_succ _) (show ObjOk X.prog X.w _ _ _ (.lst _) from ⟨?_,acc.toList,c,by rw [a2];exact kv_vals rel,by rw [Array.toArray_toList];exact hS'⟩),?_,q _ hn⟩
 ·rw [List.length_map];exact z
 ·show Value.ref _=Value.ref _
  rw [<- hsz]
theorem de_listVals{o:Expr}{to:dTE}{p apos cpos:Pos}(hc:X.calm=true)(hg:Gl X "list")(hm:X.mg "list"=none)(ho:DE X B o to)
  (hbase:attributeBase o "values" X.env (eval o X.env)=eval o X.env:=by rfl) (hline:(apos.endLine==cpos.line)=true:=by rfl)
  (hs3:starEach [Expr.Call (.Attribute o "values" apos) [] [] cpos] X.env=[(false,eval (.Call (.Attribute o "values" apos) [] [] cpos) X.env)]:=by rfl):
  DE X B (.Call (.Name "list" p) [.Call (.Attribute o "values" apos) [] [] cpos] [] pos) (dListVals to):=by
 refine pe_weak (pe_listVals hc hg hm ho hbase hline hs3) ?_
 rintro σ H Q ⟨δ,M,QQ,s,h,u⟩
 refine ⟨δ,M,_,s,h,fun d M1 h1 v H1 rh1 i1 r1=>?_⟩
 split at h1
 ·rename_i a
  cases r1
  split at h1
  ·rename_i kvs e
   obtain ⟨ws,h2,h3⟩:=rh1 _ _ e;refine ⟨a,ws,rfl,h2,fun q hq=>?_⟩;have im:Imm H1 (upd H1 q (.lst (ws.map (·.2)))):=Imm.new hq;exact u _ _ (h1 q (rh1.fresh hq)) _ _ (rh1.put (by rw [hq];trivial) ⟨_,upd_same,(rkv_vals h3).mono im⟩) (i1.trans (Frm.put (.inl hq))) rfl
  ·exact h1.elim
 ·exact h1.elim
theorem pairs_const:∀(tab:List (Str×Str)) (σ:List (Option V)) (H:Hp) (Q:List (V×V)->Hp->Prop),Q (tab.map fun kv=>(V.str kv.1,V.str kv.2)) H->tPairs (tab.map fun kv=>(tC (.str kv.1),tC (.str kv.2))) σ H Q
 |[],σ,H,Q,h=>h
 |kv::tab,σ,H,Q,h=>pairs_const tab σ H _ h
theorem rps_tab{K:PySem.W.Frag}{H:Hp}:∀tab:List (Str×Str),Rps K H (tab.map fun kv=>D.str kv.2) (tab.map fun kv=>V.str kv.2)
 |[]=>rfl
 |_::l=>⟨_,_,rfl,rfl,rps_tab l⟩
noncomputable def dDispS(tab:List (Str×Str)):dTE:=fun _ M Q=>tab.length<=15/\∀p,M p=none->Q (.ref p) (M.upd p (.dK (foldK (tab.map fun kv=>Sum.inr kv.1) (tab.map fun kv=>D.str kv.2))))
theorem de_dispS{keys:List (Option Expr)}{values:List Expr}{tab:List (Str×Str)}(h:PPs X pos keys values (tab.map fun kv=>(tC (.str kv.1),tC (.str kv.2))))(hall:keys.all (·.isSome)=true)(hl:keys.length=values.length)(h0:keys≠[])
  (h15:keys.length<=15):DE X B (.Dict keys values pos) (dDispS tab):=by
 refine pe_weak (pe_disp h hall hl h0 h15) ?_
 rintro σ H Q ⟨δ,M,QQ,s,⟨hlen,h⟩,u⟩ p hp
 refine pairs_const tab σ _ _ ⟨upd_same,tab.map (fun kv=>(Sum.inr kv.1,V.str kv.2)),by rw [List.map_map];rfl,by rw [List.length_map];exact hlen,?_⟩
 have e:upd (upd H p (.dK [])) p (.dK (mergeK [] (tab.map fun kv=>(Sum.inr kv.1,V.str kv.2))))=upd H p (.dK (mergeK [] (tab.map fun kv=>(Sum.inr kv.1,V.str kv.2)))):=by
  funext b;unfold upd;by_cases c:b=p<;>simp [c]
 rw [e];have rk:Rkv X.K H (foldK (tab.map fun kv=>Sum.inr kv.1) (tab.map fun kv=>D.str kv.2)) (mergeK [] (tab.map fun kv=>(Sum.inr kv.1,V.str kv.2))):=by
  have:=Rkv.fold (K:=X.K) (H:=H) (ks:=tab.map fun kv=>Sum.inr kv.1) (ds:=tab.map fun kv=>D.str kv.2) (vs:=tab.map fun kv=>V.str kv.2) (a:=[]) (b:=[]) (rps_tab tab) .nil;rw [List.zip_map' (f:=fun kv:Str×Str=>(Sum.inr kv.1:Key)) (g:=fun kv:Str×Str=>V.str kv.2)] at this;exact this
 have im:Imm H (upd H p (.dK (mergeK [] (tab.map fun kv=>(Sum.inr kv.1,V.str kv.2))))):=Imm.new hp;exact u _ _ (h p (s.rh.fresh hp)) _ _ (s.rh.put (by rw [hp];trivial) ⟨_,upd_same,rk.mono im⟩) (Frm.put (.inl hp)) rfl
theorem pps_str{keys:List (Option Expr)}{values:List Expr}{tab:List (Str×Str)}{k v:Str}{j j':Nat}{p1 p2:Pos}(h:PPs X pos keys values (tab.map fun kv=>(tC (.str kv.1),tC (.str kv.2)))):
  PPs X pos (some (.Constant (.str k) j p1)::keys) (.Constant (.str v) j' p2::values) (((k,v)::tab).map fun kv=>(tC (.str kv.1),tC (.str kv.2))):=pps_cons pe_str pe_str h
end
end L3
namespace LX
open PySem PySem.W PySem.Spec PySem.Calls PyProof.Rows Builtin Builtin.ObjectAttr Builtin.Getset_descriptor
section
variable {K:Frag}{prog:Program}{w:World}{A:Around}{E:Value->Shared->Prop}{s:Shared}
end
end LX
namespace LX
open PySem PySem.W PySem.Spec PySem.Calls PyProof.Rows
end LX
namespace L2
open PySem PySem.Spec PyProof.Rows
section
variable {X:Cx}{pins:List (Addr×Obj)}{σ:St}{H:Hp}{s:Shared}{e:Value}
end
end L2
namespace L2
open PySem PySem.Spec PyProof.Rows
end L2
namespace L2
open PySem
end L2
namespace L3
open PySem L2
section
variable {X:Cx}{B:Mem}{K:PySem.W.Frag}{H H':Hp}{M M1 M':Mem}
end
section
variable {P:Program}{w:World}{K:PySem.W.Frag}{mg:Str->Option Value}{base:Heap}{f:Addr}{fd:FuncData}
end
section
variable {X:Cx}{B:Mem}{K:PySem.W.Frag}{H H':Hp}{M M1 M':Mem}
end
end L3
namespace L3
open PySem L2 LS
section
variable {X:Cx}{B:Mem}
noncomputable def cIntS:dRC:=fun ds M Q=>match ds with
 |[.bl b]=>Q (.int (if b=true then 1 else 0)) M
 |[.str z]=>z.length<=640/\match PySem.intText? z with
  |some n=>Q (.int n) M
  |none=>False
 |_=>False
theorem call_intS:CallR X (.type "int") (liftC X cIntS):=by
 intro pins s σ H xs us Q I r h;obtain ⟨ds,M,QQ,rh,rp,h,up⟩:=h;unfold cIntS at h
 split at h
 ·exact call_int' pins s σ H xs us Q I r ⟨_,M,QQ,rh,rp,h,up⟩
 ·obtain ⟨v,rfl,rv⟩:=rps1 (ds:=[]) rp
  cases rv;obtain ⟨u,rfl,ru⟩:=vals1 r;obtain ⟨t,rfl⟩:=ru;obtain ⟨hl,h⟩:=h
  split at h
  ·rename_i n en
   exact PySem.W.KIN.call_text en hl ⟨.int n,H,I.tok _,⟨_,rfl⟩,up _ M h _ H rh Frm.refl rfl⟩
  ·exact h.elim
 ·exact h.elim
noncomputable def oNotInS:dR2:=fun x y M Q=>match x,y with
 |.str a,.str b=>Q (.bl (!PySem.Txt.contains b a)) M
 |_,_=>False
theorem vals_strsV:∀{l:List (Str×Tok)} {ss:List Str},l.map (·.1)=ss->Vals (ss.map V.str) (strValues l)
 |[],_,e=>by cases e;exact .nil
 |(a,t)::l,_,e=>by cases e;exact .cons ⟨t,rfl⟩ (vals_strsV rfl)
noncomputable def mSplit:dRM:=fun x ds M Q=>match x,ds with
 |.str z,[.str y]=>((y.length==0)=false/\z.length+1<=sizeLine/\(PySem.Txt.split z y).length<=sizeLine/\(Builtin.Str.partsBetween z (Builtin.Str.occurrences z y 0 z.length (z.length+1)) y.length).length<=sizeLine)/\∀p,M p=none->Q (.ref p) (M.upd p (.lst ((PySem.Txt.split z y).map D.str)))
 |_,_=>False
theorem mt_split':MtR X "str.split" (liftM X mSplit):=by
 intro pins s σ H x vs v us Q I rx rv h;obtain ⟨d,ds,M,QQ,rh,r,rs,h,up⟩:=h;unfold mSplit at h
 split at h
 ·rename_i z y
  cases r;obtain ⟨w,rfl,rw'⟩:=rps1 (ds:=[]) rs;cases rw';obtain ⟨t,rfl⟩:=rx;obtain ⟨u,rfl,ru⟩:=vals1 rv;obtain ⟨t2,rfl⟩:=ru;obtain ⟨⟨h1,h2,h3,h4⟩,h5⟩:=h
  have fin:∀(l:List (Str×Tok)) (k:Nat),l.map (·.1)=PySem.Txt.split z y->
    EP X pins σ Q (.ref s.heap.objs.size) { s with heap:=s.heap.push { cls:=.type "list",data:=.seq (strValues l).toArray },toks:=k }:=fun l k el=>by
   refine ⟨.ref s.heap.objs.size,_,I.lnew (vals_strsV el) (by rw [List.length_map];exact h3),rfl,?_⟩
   exact up _ _ (h5 _ (rh.fresh I.fresh)) _ _ (rh.put (by rw [I.fresh];trivial) ⟨_,upd_same,rps_strs _⟩) (Frm.put (.inl I.fresh)) rfl
  cases c1:(decide (z.length<y.length)||decide (Builtin.Str.strKind z<Builtin.Str.strKind y))
  ·cases hf:(Builtin.Str.occurrences z y 0 z.length (z.length+1)).isEmpty
   ·refine call_meets PySem.F.slot_str_split (typeIs_str _ _ _) PySem.F.entry_str_split (PySem.F.args_str_split_2 _ _) (meets_str_split_sep z y t t2 c1 h1 hf (by lia) h4) ?_
    rw [strsFrom_eq];exact fin (numbered s.toks _) _ ((numbered_texts _ _).trans ((if_neg (ne_true_of_eq_false c1)).trans (if_neg (ne_true_of_eq_false hf))).symm)
   ·exact call_meets PySem.F.slot_str_split (typeIs_str _ _ _) PySem.F.entry_str_split (PySem.F.args_str_split_2 _ _) (meets_str_split_not_found z y t t2 c1 h1 hf) (fin [(z,t)] s.toks ((if_neg (ne_true_of_eq_false c1)).trans (if_pos hf)).symm)
  ·exact call_meets PySem.F.slot_str_split (typeIs_str _ _ _) PySem.F.entry_str_split (PySem.F.args_str_split_2 _ _) (meets_str_split_cannot_occur z y t t2 c1) (fin [(z,t)] s.toks (if_pos c1).symm)
 ·exact h.elim
end
end L3
namespace L3
open PySem L2
end L3
namespace L3
open PySem L2
section
variable {X:Cx}{B:Mem}
end
end L3
namespace L3
open PySem L2
section
variable {X:Cx}{B:Mem}
noncomputable def mClear:dRM:=fun x ds M Q=>match x,ds with
 |.ref a,[]=>match M a with
  |some (.lst _)=>Q .non (M.upd a (.lst []))
  |_=>False
 |_,_=>False
theorem mt_clear':MtR X "list.clear" (liftM X mClear):=by
 intro pins s σ H x vs v us Q I rx rv h;obtain ⟨d,ds,M,QQ,rh,r,rs,h,up⟩:=h;unfold mClear at h
 split at h
 ·rename_i a
  cases r;cases rs
  split at h
  ·rename_i xs hM
   obtain ⟨ws,h1,h2⟩:=rh _ _ hM;exact mt_clear pins s σ H _ _ v us Q I rx rv ⟨a,ws,rfl,rfl,h1,up _ _ h _ _ (rh.put (by rw [h1];trivial) ⟨[],upd_same,rfl⟩) (Frm.put (.inr ⟨_,hM⟩)) rfl⟩
  ·exact h.elim
 ·exact h.elim
noncomputable def dFail:dTS:=fun _ _ _=>False
theorem ds_fail{st:Stmt}:DS X B st dFail:=fun pins s D σ H I h=>by
 obtain ⟨_,_,_,_,h,_⟩:=h;exact h.elim
structure ModTup(K:PySem.W.Frag)(mg:Str->Option Value)(name:Str)(a:Addr)(xs:List D):Prop where
 at_:mg name=some (.ref a)
 rep:∀H,Rp K H (.mt xs) (.ref a)
theorem modTup{K:PySem.W.Frag}{mg:Str->Option Value}{name:Str}{a:Addr}{xs:List D}(h1:mg name=some (.ref a))(h2:∃v,RelV v (.ref a)/\∀H,Rp K H (.mt xs) v):ModTup K mg name a xs:=by
 obtain ⟨v,hv,hr⟩:=h2;obtain ⟨p,vs,rfl,_⟩:=hr fun _=>none;cases hv;exact ⟨h1,hr⟩
theorem de_glM{name:Str}{a:Addr}{xs:List D}{pos:Pos}(hg:Gl X name)(T:ModTup X.K X.mg name a xs)(hd:(name==("__debug__":Str))=false:=by decide):DE X B (.Name name pos) (dC (.mt xs)):=
 de_glob (v:=.ref a) hg T.at_ rfl T.rep hd
variable {C:Addr}{f:Str}{o value:Expr}{ta tv:dTE}{pos tpos:Pos}
noncomputable def dFldAdd(C:Addr)(ta tv:dTE)(f:Str):dTS:=fun D δ M=>ta δ M fun x M1=>match x with
 |.ref a=>match M1 a with
  |some (.ins C' fs)=>C'=C/\fs.length<1000/\match fs.lookup f with
   |some (.int i)=>tv δ M1 fun y M2=>match y with
    |.int j=>M2 a=some (.ins C fs)/\D.nx δ (M2.upd a (.ins C (dputF f (.int (i+j)) fs)))
    |_=>False
   |_=>False
  |_=>False
 |_=>False
theorem ds_fldAdd(c:Cls X.K C)(n:NoAttr X.K C f)(ha:DE X B o ta)(hv:DE X B value tv):DS X B (.AugAssign (.Attribute o f tpos) .Add value pos) (dFldAdd C ta tv f):=by
 refine ps_weak (ps_fldaug ha hv in_add) ?_
 rintro D σ H ⟨δ,M,DD,s,h,up⟩
 refine ⟨δ,M,_,s,h,fun x M1 h1 v1 H1 rh1 i1 r1=>?_⟩
 split at h1
 ·rename_i a
  cases r1
  split at h1
  ·rename_i C' fs hM
   obtain ⟨rfl,hl,h1⟩:=h1
   split at h1
   ·rename_i i hf
    obtain ⟨dx,ws,e1,e2⟩:=rh1 _ _ hM;obtain ⟨z,_⟩|⟨d,w,hd,hw,rw1⟩:=e2.lookup f
    ·rw [hf] at z;cases z
    rw [hf] at hd;cases hd;cases rw1;refine ⟨a,C',dx,ws,.int i,rfl,e1,c,n,hw,δ,M1,_,s.go rh1 i1,h1,fun y M2 h2 v2 H2 rh2 i2 r2=>?_⟩
    split at h2
    ·rename_i j
     cases r2;obtain ⟨hM2,h2⟩:=h2;obtain ⟨dx2,ws2,e3,e4⟩:=rh2 _ _ hM2;have i3:Frm M2 H2 (M2.upd a (.ins C' (dputF f (.int (i+j)) fs))) (upd H2 a (.ins C' dx2 (L2.putF f (.int (i+j)) ws2))):=Frm.put (.inr ⟨_,hM2⟩);refine ⟨i,j,rfl,rfl,dx2,ws2,e3,by rw [<- e4.length];exact hl,up.nx _ _ h2 σ _ ((i1.trans i2).trans i3) (s.go (rh2.put (by rw [e3];trivial) ⟨dx2,_,upd_same,?_⟩) ((i1.trans i2).trans i3))⟩
     exact (Rkv.putF (show Rp X.K H2 (.int (i+j)) (.int (i+j)) from rfl) e4).mono (i3.imm rh2)
    ·exact h2.elim
   ·exact h1.elim
  ·exact h1.elim
 ·exact h1.elim
end
section
variable {X:Cx}{B:Mem}{CX:CXT}{k n:Nat}{f C:Addr}{fd:FuncData}{ps:List Str}{T:Sd}{E:XK}{EE:DX}{x:Str}{p pos:Pos}
theorem de_make0(Mk':Mk X.K C f)(F:FnOk X.prog X.w X.K X.mg X.base CX k f fd ps (liftSp X.K n T))(hr:Room (k+1) X.A)(hg:Gl X x)(hm:X.mg x=some (.ref C))(hb:Binds X.K fd ps [])(hx:Passes CX X E)(ux:UpX X.K B X.H₀ EE E)
  (hdb:(x==("__debug__":Str))=false:=by decide):DE X B (.Call (.Name x p) [] [] pos) (dMake C T EE n dNil):=by
 refine pe_weak (pe_make0 Mk' F hr hg hm hb .nil hx hdb) ?_
 rintro σ H Q ⟨δ,M,QQ,s,h,u⟩
 intro a dx na ndx nex;have h1:=h;have rh1:=s.rh;have nx1:upd H dx (.own a) a=none:=by rw [upd_ne (Ne.symm nex)];exact na
 have rh2:RepH X.K (upd (upd H dx (.own a)) a (.ins C dx [])) (M.upd a (.ins C [])):=(rh1.new ndx).put (by rw [nx1];trivial) ⟨dx,[],upd_same,.nil⟩
 have f2:Frm M H (M.upd a (.ins C [])) (upd (upd H dx (.own a)) a (.ins C dx [])):=(Frm.new ndx).trans (Frm.put (.inl nx1));refine lift_calls (h1.2 a (rh1.fresh na)) rh2 (.cons rfl rfl) h1.1 (fun d M2 h2 v H2 rh f r=>?_) ((s.ux ux).go f2);cases d with
 |non=>exact ⟨r,u _ M2 h2 _ H2 rh (f2.trans f) rfl⟩
 |_=>exact (show False from h2).elim
end
end L3
namespace Tw
open PySem L2 L3
noncomputable def top(i:Nat):Stmt:=PySem.Challenge.pw_twinstride_k87_plans_read_again.main.body.getD i (.Pass ⟨0,0,0,0⟩)
noncomputable abbrev s_q13:Stmt:=top 4
noncomputable abbrev s_q16:Stmt:=top 5
noncomputable abbrev s_q31:Stmt:=top 14
noncomputable abbrev s_q22:Stmt:=top 15
noncomputable abbrev s_q21:Stmt:=top 20
noncomputable abbrev s_q30:Stmt:=top 21
noncomputable abbrev s_q8:Stmt:=top 22
noncomputable abbrev s_q5:Stmt:=inClass (top 23) 0
noncomputable abbrev s_q1:Stmt:=inClass (top 24) 0
noncomputable abbrev s_q11:Stmt:=inClass (top 24) 1
noncomputable abbrev s_q0:Stmt:=inClass (top 24) 2
noncomputable abbrev s_q10:Stmt:=inClass (top 24) 3
noncomputable abbrev s_q9:Stmt:=inClass (top 24) 4
noncomputable abbrev s_q4:Stmt:=inClass (top 24) 5
noncomputable abbrev s_q26:Stmt:=top 25
noncomputable abbrev s_q15:Stmt:=top 26
noncomputable abbrev s_q28:Stmt:=top 27
noncomputable abbrev s_q25:Stmt:=top 28
noncomputable abbrev s_q12:Stmt:=top 30
noncomputable abbrev s_q27:Stmt:=top 31
noncomputable abbrev s_q24:Stmt:=top 32
noncomputable abbrev s_q17:Stmt:=top 33
noncomputable abbrev s_q29:Stmt:=top 34
noncomputable abbrev s_q18:Stmt:=top 35
noncomputable abbrev s_q23:Stmt:=top 36
noncomputable abbrev s_q20:Stmt:=top 37
noncomputable abbrev s_q14:Stmt:=top 38
noncomputable abbrev s_q6:Stmt:=top 39
noncomputable abbrev s_q7:Stmt:=top 40
noncomputable abbrev s_q2:Stmt:=top 41
noncomputable abbrev s_q3:Stmt:=top 42
noncomputable abbrev s_q19:Stmt:=top 43
noncomputable abbrev s_law:Stmt:=top 44
theorem sc_q13:FnScope ["text"] ["text"] (defScope s_q13):=⟨rfl,rfl,rfl,by decide +kernel,rfl,by decide +kernel,by decide +kernel⟩
theorem sc_q16:FnScope ["text","least","most","number"] ["text","least","most"] (defScope s_q16):=⟨rfl,rfl,rfl,by decide +kernel,rfl,by decide +kernel,by decide +kernel⟩
theorem sc_q31:FnScope ["thing"] ["thing"] (defScope s_q31):=⟨rfl,rfl,rfl,by decide +kernel,rfl,by decide +kernel,by decide +kernel⟩
theorem sc_q22:FnScope ["thing"] ["thing"] (defScope s_q22):=⟨rfl,rfl,rfl,by decide +kernel,rfl,by decide +kernel,by decide +kernel⟩
theorem sc_q21:FnScope ["plan","told"] ["plan"] (defScope s_q21):=⟨rfl,rfl,rfl,by decide +kernel,rfl,by decide +kernel,by decide +kernel⟩
theorem sc_q30:FnScope ["rows","told","row"] ["rows"] (defScope s_q30):=⟨rfl,rfl,rfl,by decide +kernel,rfl,by decide +kernel,by decide +kernel⟩
theorem sc_q8:FnScope ["row"] ["row"] (defScope s_q8):=⟨rfl,rfl,rfl,by decide +kernel,rfl,by decide +kernel,by decide +kernel⟩
theorem sc_q5:FnScope ["self","word","x"] ["self","word","x"] (defScope s_q5):=⟨rfl,rfl,rfl,by decide +kernel,rfl,by decide +kernel,by decide +kernel⟩
theorem sc_q1:FnScope ["self"] ["self"] (defScope s_q1):=⟨rfl,rfl,rfl,by decide +kernel,rfl,by decide +kernel,by decide +kernel⟩
theorem sc_q11:FnScope ["self","text","words","part"] ["self","text"] (defScope s_q11):=⟨rfl,rfl,rfl,by decide +kernel,rfl,by decide +kernel,by decide +kernel⟩
theorem sc_q0:FnScope ["self","words","row"] ["self","words"] (defScope s_q0):=⟨rfl,rfl,rfl,by decide +kernel,rfl,by decide +kernel,by decide +kernel⟩
theorem sc_q10:FnScope ["self","block"] ["self"] (defScope s_q10):=⟨rfl,rfl,rfl,by decide +kernel,rfl,by decide +kernel,by decide +kernel⟩
theorem sc_q9:FnScope ["self","block","firsts"] ["self"] (defScope s_q9):=⟨rfl,rfl,rfl,by decide +kernel,rfl,by decide +kernel,by decide +kernel⟩
theorem sc_q4:FnScope ["self"] ["self"] (defScope s_q4):=⟨rfl,rfl,rfl,by decide +kernel,rfl,by decide +kernel,by decide +kernel⟩
theorem sc_q26:FnScope ["head","words"] ["head","words"] (defScope s_q26):=⟨rfl,rfl,rfl,by decide +kernel,rfl,by decide +kernel,by decide +kernel⟩
theorem sc_q15:FnScope ["head","words","x"] ["head","words"] (defScope s_q15):=⟨rfl,rfl,rfl,by decide +kernel,rfl,by decide +kernel,by decide +kernel⟩
theorem sc_q28:FnScope ["word","x","part"] ["word","x","part"] (defScope s_q28):=⟨rfl,rfl,rfl,by decide +kernel,rfl,by decide +kernel,by decide +kernel⟩
theorem sc_q25:FnScope ["rows","reading","number","text","head"] ["rows"] (defScope s_q25):=⟨rfl,rfl,rfl,by decide +kernel,rfl,by decide +kernel,by decide +kernel⟩
theorem sc_q12:FnScope ["cell","turn","one"] ["cell","turn"] (defScope s_q12):=⟨rfl,rfl,rfl,by decide +kernel,rfl,by decide +kernel,by decide +kernel⟩
theorem sc_q27:FnScope ["script","seed","cell"] ["script"] (defScope s_q27):=⟨rfl,rfl,rfl,by decide +kernel,rfl,by decide +kernel,by decide +kernel⟩
theorem sc_q24:FnScope ["pot","many","cell","found"] ["pot","many"] (defScope s_q24):=⟨rfl,rfl,rfl,by decide +kernel,rfl,by decide +kernel,by decide +kernel⟩
theorem sc_q17:FnScope ["pot","many","turn","names","k","sign"] ["pot","many"] (defScope s_q17):=⟨rfl,rfl,rfl,by decide +kernel,rfl,by decide +kernel,by decide +kernel⟩
theorem sc_q29:FnScope ["pot","told","m","names","many","ways","way","x","y"] ["pot","told"] (defScope s_q29):=⟨rfl,rfl,rfl,by decide +kernel,rfl,by decide +kernel,by decide +kernel⟩
theorem sc_q18:FnScope ["pot","told","room","deep","m","names","many","x","first","way","y"] ["pot","told","room","deep"] (defScope s_q18):=⟨rfl,rfl,rfl,by decide +kernel,rfl,by decide +kernel,by decide +kernel⟩
theorem sc_q23:FnScope ["pot","told","room","deep","most","rows","k"] ["pot","told","room","deep","most"] (defScope s_q23):=⟨rfl,rfl,rfl,by decide +kernel,rfl,by decide +kernel,by decide +kernel⟩
theorem sc_q20:FnScope ["pot","most","m","names","many","rows"] ["pot","most"] (defScope s_q20):=⟨rfl,rfl,rfl,by decide +kernel,rfl,by decide +kernel,by decide +kernel⟩
theorem sc_q14:FnScope ["pot","plan","words","names","name","word","there"] ["pot","plan"] (defScope s_q14):=⟨rfl,rfl,rfl,by decide +kernel,rfl,by decide +kernel,by decide +kernel⟩
theorem sc_q6:FnScope ["rows","names","made","row"] ["rows","names"] (defScope s_q6):=⟨rfl,rfl,rfl,by decide +kernel,rfl,by decide +kernel,by decide +kernel⟩
theorem sc_q7:FnScope ["row","sign"] ["row"] (defScope s_q7):=⟨rfl,rfl,rfl,by decide +kernel,rfl,by decide +kernel,by decide +kernel⟩
theorem sc_q2:FnScope ["rows","found","row"] ["rows"] (defScope s_q2):=⟨rfl,rfl,rfl,by decide +kernel,rfl,by decide +kernel,by decide +kernel⟩
theorem sc_q3:FnScope ["plan","found"] ["plan"] (defScope s_q3):=⟨rfl,rfl,rfl,by decide +kernel,rfl,by decide +kernel,by decide +kernel⟩
theorem sc_q19:FnScope ["found","due"] ["found","due"] (defScope s_q19):=⟨rfl,rfl,rfl,by decide +kernel,rfl,by decide +kernel,by decide +kernel⟩
theorem sc_law:FnScope ["script","pot","plan","texts","handed","found"] ["script"] (defScope s_law):=⟨rfl,rfl,rfl,by decide +kernel,rfl,by decide +kernel,by decide +kernel⟩
end Tw
namespace Tw
open PySem L2 L3
set_option genInjectivity false in
structure Ad where
 C_Block:Addr
 C_Reading:Addr
 a_q13:Addr
 d_q13:FuncData
 a_q16:Addr
 d_q16:FuncData
 a_q31:Addr
 d_q31:FuncData
 a_q22:Addr
 d_q22:FuncData
 a_q21:Addr
 d_q21:FuncData
 a_q30:Addr
 d_q30:FuncData
 a_q8:Addr
 d_q8:FuncData
 a_q5:Addr
 d_q5:FuncData
 a_q1:Addr
 d_q1:FuncData
 a_q11:Addr
 d_q11:FuncData
 a_q0:Addr
 d_q0:FuncData
 a_q10:Addr
 d_q10:FuncData
 a_q9:Addr
 d_q9:FuncData
 a_q4:Addr
 d_q4:FuncData
 a_q26:Addr
 d_q26:FuncData
 a_q15:Addr
 d_q15:FuncData
 a_q28:Addr
 d_q28:FuncData
 a_q25:Addr
 d_q25:FuncData
 a_q12:Addr
 d_q12:FuncData
 a_q27:Addr
 d_q27:FuncData
 a_q24:Addr
 d_q24:FuncData
 a_q17:Addr
 d_q17:FuncData
 a_q29:Addr
 d_q29:FuncData
 a_q18:Addr
 d_q18:FuncData
 a_q23:Addr
 d_q23:FuncData
 a_q20:Addr
 d_q20:FuncData
 a_q14:Addr
 d_q14:FuncData
 a_q6:Addr
 d_q6:FuncData
 a_q7:Addr
 d_q7:FuncData
 a_q2:Addr
 d_q2:FuncData
 a_q3:Addr
 d_q3:FuncData
 a_q19:Addr
 d_q19:FuncData
 a_law:Addr
 d_law:FuncData
 g_HEAD:Addr
 g_SIGNS:Addr
 g_WORDS:Addr
noncomputable def tab_SIGNS:List (Str×D):=[("sum",.str "+"),("by",.str "*"),("less",.str "<"),("same",.str "==")]
noncomputable def tab_WORDS:List (Str×D):=[("+",.str "sum"),("*",.str "by"),("<",.str "less"),("==",.str "same")]
noncomputable def T_q13_1(ad:Ad)(EE:DX):dTS:=
 (dRet (dOrV (dOp oEq (dVar 0) (dC (.str "0"))) (dOp oNe (dOp oIx (dVar 0) (dC (.int 0))) (dC (.str "0")))))
noncomputable def T_q13(ad:Ad)(EE:DX):dTS:=
 (dSeq (dIfS (dOr (dTest (dOp oEq (dVar 0) (dC (.str "")))) (dNot (dTru (dCB cAll (dCons (dFrz (dComp (wStr (dVar 0)) ["sign"] [] (hName 0) dAll (dChain oLeS oLeS (dC (.str "0")) (dVar 0) (dC (.str "9"))))) dNil))))) (dRet (dC (.bl false))) dNext)
  (T_q13_1 ad EE))
noncomputable def S_q13(ad:Ad):Sd:=bodyD ["text"] (T_q13 ad)
theorem u_q13{ad:Ad}{n:Nat}{x0:D}{M:Mem}{Q:DK}{E:DX}:S_q13 ad [x0] M Q E=T_q13 ad (drpX E) { nx:=fun _ M'=>drp Q .non M',rt:=drp Q } [some x0] M:=rfl
noncomputable def T_q16_1(ad:Ad)(EE:DX):dTS:=
 (dRet (dIf (dTest (dChain oLe oLe (dVar 1) (dVar 3) (dVar 2))) (dVar 3) (dC .non)))
noncomputable def T_q16_2(ad:Ad)(EE:DX):dTS:=
 (dSeq (dAsg (dCB cIntS (dCons (dVar 0) dNil)) (hName 3))
  (T_q16_1 ad EE))
noncomputable def T_q16(ad:Ad)(EE:DX):dTS:=
 (dSeq (dIfS (dOr (dNot (dTru (dFrz (dCall (S_q13 ad) EE 1 (dCons (dVar 0) dNil))))) (dTest (dOp oGt (dCB cLen (dCons (dVar 0) dNil)) (dCB cLen (dCons (dCB cStr (dCons (dVar 2) dNil)) dNil))))) (dRet (dC .non)) dNext)
  (T_q16_2 ad EE))
noncomputable def S_q16(ad:Ad):Sd:=bodyD ["text","least","most","number"] (T_q16 ad)
theorem u_q16{ad:Ad}{n:Nat}{x0 x1 x2:D}{M:Mem}{Q:DK}{E:DX}:S_q16 ad [x0,x1,x2] M Q E=T_q16 ad (drpX E) { nx:=fun _ M'=>drp Q .non M',rt:=drp Q } [some x0,some x1,some x2,none] M:=rfl
noncomputable def T_q31_1(ad:Ad)(EE:DX):dTS:=
 (dRet (dCB cAll (dCons (dFrz (dComp (wStr (dVar 0)) ["sign"] [] (hName 0) dAll (dChain oLeS oLeS (dC (.str "a")) (dVar 0) (dC (.str "z"))))) dNil)))
noncomputable def T_q31(ad:Ad)(EE:DX):dTS:=
 (dSeq (dIfS (dOr (dNot (dTru (dCB cInst (dCons (dVar 0) (dCons (dC (.ty "str")) dNil))))) (dNot (dTest (dChain oLe oLe (dC (.int 1)) (dCB cLen (dCons (dVar 0) dNil)) (dC (.int 8)))))) (dRet (dC (.bl false))) dNext)
  (T_q31_1 ad EE))
noncomputable def S_q31(ad:Ad):Sd:=bodyD ["thing"] (T_q31 ad)
theorem u_q31{ad:Ad}{n:Nat}{x0:D}{M:Mem}{Q:DK}{E:DX}:S_q31 ad [x0] M Q E=T_q31 ad (drpX E) { nx:=fun _ M'=>drp Q .non M',rt:=drp Q } [some x0] M:=rfl
noncomputable def T_q22_1(ad:Ad)(EE:DX):dTS:=
 (dRet (dAndV (dCB cAll (dCons (dFrz (dComp (wSeq (dVar 0)) ["part"] [] (hName 0) dAll (dFrz (dCall (S_q31 ad) NoX 1 (dCons (dVar 0) dNil))))) dNil)) (dOp oEq (dLenSet (dCons (dVar 0) dNil)) (dCB cLen (dCons (dVar 0) dNil)))))
noncomputable def T_q22(ad:Ad)(EE:DX):dTS:=
 (dSeq (dIfS (dOr (dNot (dTru (dCB cInst (dCons (dVar 0) (dCons (dC (.ty "tuple")) dNil))))) (dNot (dTest (dChain oLe oLe (dC (.int 1)) (dCB cLen (dCons (dVar 0) dNil)) (dC (.int 12)))))) (dRet (dC (.bl false))) dNext)
  (T_q22_1 ad EE))
noncomputable def S_q22(ad:Ad):Sd:=bodyD ["thing"] (T_q22 ad)
theorem u_q22{ad:Ad}{n:Nat}{x0:D}{M:Mem}{Q:DK}{E:DX}:S_q22 ad [x0] M Q E=T_q22 ad (drpX E) { nx:=fun _ M'=>drp Q .non M',rt:=drp Q } [some x0] M:=rfl
noncomputable def T_q8_1(ad:Ad)(EE:DX):dTS:=
 (dRet (dCB cStr (dCons (dOp oIx (dVar 0) (dC (.int 2))) dNil)))
noncomputable def T_q8_2(ad:Ad)(EE:DX):dTS:=
 (dRet (dOp oAdd (dC (.str "piece ")) (dCB cStr (dCons (dOp oIx (dVar 0) (dC (.int 2))) dNil))))
noncomputable def T_q8_3(ad:Ad)(EE:DX):dTS:=
 (dRet (dOp oAdd (dC (.str "pick ")) (dOp oIx (dVar 0) (dC (.int 2)))))
noncomputable def T_q8_4(ad:Ad)(EE:DX):dTS:=
 (dRet (dOp oAdd (dOp oAdd (dFrz (dOp oAdd (dOp oAdd (dOp oIx (dVar 0) (dC (.int 2))) (dC (.str " "))) (dOp (oIxT tab_SIGNS ad.g_SIGNS) (dC (.ref ad.g_SIGNS)) (dOp oIx (dVar 0) (dC (.int 0)))))) (dC (.str " "))) (dOp oIx (dVar 0) (dC (.int 3)))))
noncomputable def T_q8_5(ad:Ad)(EE:DX):dTS:=
 (dSeq (dIfS (dTest (dOp oEq (dOp oIx (dVar 0) (dC (.int 0))) (dC (.str "pick")))) (T_q8_3 ad EE) dNext)
  (T_q8_4 ad EE))
noncomputable def T_q8_6(ad:Ad)(EE:DX):dTS:=
 (dSeq (dIfS (dTest (dOp oEq (dOp oIx (dVar 0) (dC (.int 0))) (dC (.str "take")))) (T_q8_2 ad EE) dNext)
  (T_q8_5 ad EE))
noncomputable def T_q8(ad:Ad)(EE:DX):dTS:=
 (dSeq (dIfS (dTest (dOp oEq (dOp oIx (dVar 0) (dC (.int 0))) (dC (.str "put")))) (T_q8_1 ad EE) dNext)
  (T_q8_6 ad EE))
noncomputable def S_q8(ad:Ad):Sd:=bodyD ["row"] (T_q8 ad)
theorem u_q8{ad:Ad}{n:Nat}{x0:D}{M:Mem}{Q:DK}{E:DX}:S_q8 ad [x0] M Q E=T_q8 ad (drpX E) { nx:=fun _ M'=>drp Q .non M',rt:=drp Q } [some x0] M:=rfl
noncomputable def T_q30_1(ad:Ad)(S_q30:Sd)(EE:DX):dTS:=
 (dDrop (dBM "list" mExtend (dVar 1) (dCons (dFrz (dOp oAdd (dFrz (dOp oAdd (dFrz (dOp oAdd (dFrz (dOp oAdd (dFrz (dLst (dCons (dOp oAdd (dC (.str "if ")) (dOp oIx (dVar 2) (dC (.int 1)))) dNil))) (dFrz (dCall S_q30 EE 1 (dCons (dOp oIx (dVar 2) (dC (.int 2))) dNil))))) (dFrz (dLst (dCons (dC (.str "else")) dNil))))) (dFrz (dCall S_q30 EE 1 (dCons (dOp oIx (dVar 2) (dC (.int 3))) dNil))))) (dFrz (dLst (dCons (dC (.str "end")) dNil))))) dNil)))
noncomputable def T_q30_2(ad:Ad)(S_q30:Sd)(EE:DX):dTS:=
 (dDrop (dBM "list" mExtend (dVar 1) (dCons (dFrz (dOp oAdd (dFrz (dOp oAdd (dFrz (dLst (dCons (dOp oAdd (dC (.str "again ")) (dOp oIx (dVar 2) (dC (.int 1)))) dNil))) (dFrz (dCall S_q30 EE 1 (dCons (dOp oIx (dVar 2) (dC (.int 2))) dNil))))) (dFrz (dLst (dCons (dC (.str "end")) dNil))))) dNil)))
noncomputable def T_q30_3(ad:Ad)(S_q30:Sd)(EE:DX):dTS:=
 (dDrop (dBM "list" mAppend (dVar 1) (dCons (dFrz (dOp oAdd (dOp oAdd (dOp oIx (dVar 2) (dC (.int 1))) (dC (.str " = "))) (dFrz (dCall (S_q8 ad) EE 1 (dCons (dVar 2) dNil))))) dNil)))
noncomputable def T_q30_4(ad:Ad)(S_q30:Sd)(EE:DX):dTS:=
 (dIfS (dTest (dOp oEq (dOp oIx (dVar 2) (dC (.int 0))) (dC (.str "again")))) (T_q30_2 ad S_q30 EE) (T_q30_3 ad S_q30 EE))
noncomputable def T_q30_5(ad:Ad)(S_q30:Sd)(EE:DX):dTS:=
 (dIfS (dTest (dOp oEq (dOp oIx (dVar 2) (dC (.int 0))) (dC (.str "if")))) (T_q30_1 ad S_q30 EE) (T_q30_4 ad S_q30 EE))
noncomputable def T_q30_6(ad:Ad)(S_q30:Sd)(EE:DX):dTS:=
 (dSeq (dFor (wSeq (dVar 0)) (hName 2) (T_q30_5 ad S_q30 EE))
  (dRet (dVar 1)))
noncomputable def T_q30(ad:Ad)(S_q30:Sd)(EE:DX):dTS:=
 (dSeq (dAsg (dLst dNil) (hName 1))
  (T_q30_6 ad S_q30 EE))
noncomputable def S_q30(ad:Ad):Nat->Sd
 |0=>fun _ _ _ _=>False
 |n+1=>bodyD ["rows","told","row"] (T_q30 ad (S_q30 ad n))
theorem u_q30{ad:Ad}{n:Nat}{x0:D}{M:Mem}{Q:DK}{E:DX}:S_q30 ad (n+1) [x0] M Q E=T_q30 ad (S_q30 ad n) (drpX E) { nx:=fun _ M'=>drp Q .non M',rt:=drp Q } [some x0,none,none] M:=rfl
noncomputable def T_q21_1(ad:Ad)(EE:DX):dTS:=
 (dRet (dOp oAdd (dVar 1) (dFrz (dCall (S_q30 ad 24) EE 1 (dCons (dOp oIx (dVar 0) (dC (.int 3))) dNil)))))
noncomputable def T_q21(ad:Ad)(EE:DX):dTS:=
 (dSeq (dAsg (dFrz (dLst (dCons (dOp oAdd (dC (.str "wheel ")) (dCB cStr (dCons (dOp oIx (dVar 0) (dC (.int 0))) dNil))) (dCons (dOp oAdd (dC (.str "names ")) (dBM "str" mJoin (dC (.str " ")) (dCons (dOp oIx (dVar 0) (dC (.int 1))) dNil))) (dCons (dOp oAdd (dC (.str "pieces ")) (dCB cStr (dCons (dOp oIx (dVar 0) (dC (.int 2))) dNil))) (dCons (dOp oAdd (dC (.str "mark ")) (dOp oIx (dVar 0) (dC (.int 4)))) dNil)))))) (hName 1))
  (T_q21_1 ad EE))
noncomputable def S_q21(ad:Ad):Sd:=bodyD ["plan","told"] (T_q21 ad)
theorem u_q21{ad:Ad}{n:Nat}{x0:D}{M:Mem}{Q:DK}{E:DX}:S_q21 ad [x0] M Q E=T_q21 ad (drpX E) { nx:=fun _ M'=>drp Q .non M',rt:=drp Q } [some x0,none] M:=rfl
noncomputable def T_q5_1(ad:Ad)(EE:DX):dTS:=
 (dSeq (dFldS ad.C_Block (dVar 0) (dC .non) "first")
  (dFldS ad.C_Block (dVar 0) (dLst dNil) "rows"))
noncomputable def T_q5_2(ad:Ad)(EE:DX):dTS:=
 (dSeq (dFldS ad.C_Block (dVar 0) (dVar 2) "x")
  (T_q5_1 ad EE))
noncomputable def T_q5(ad:Ad)(EE:DX):dTS:=
 (dSeq (dFldS ad.C_Block (dVar 0) (dVar 1) "word")
  (T_q5_2 ad EE))
noncomputable def S_q5(ad:Ad):Sd:=bodyD ["self","word","x"] (T_q5 ad)
theorem u_q5{ad:Ad}{n:Nat}{x0 x1 x2:D}{M:Mem}{Q:DK}{E:DX}:S_q5 ad [x0,x1,x2] M Q E=T_q5 ad (drpX E) { nx:=fun _ M'=>drp Q .non M',rt:=drp Q } [some x0,some x1,some x2] M:=rfl
noncomputable def T_q1_1(ad:Ad)(EE:DX):dTS:=
 (dSeq (dFldS ad.C_Reading (dVar 0) (dLst (dCons (dMake ad.C_Block (S_q5 ad) EE 3 (dCons (dC (.str "top")) (dCons (dC (.str "")) dNil))) dNil)) "blocks")
  (dFldS ad.C_Reading (dVar 0) (dC (.int 0)) "count"))
noncomputable def T_q1(ad:Ad)(EE:DX):dTS:=
 (dSeq (dFldS ad.C_Reading (dVar 0) (dLst dNil) "head")
  (T_q1_1 ad EE))
noncomputable def S_q1(ad:Ad):Sd:=bodyD ["self"] (T_q1 ad)
theorem u_q1{ad:Ad}{n:Nat}{x0:D}{M:Mem}{Q:DK}{E:DX}:S_q1 ad [x0] M Q E=T_q1 ad (drpX E) { nx:=fun _ M'=>drp Q .non M',rt:=drp Q } [some x0] M:=rfl
noncomputable def T_q9_1(ad:Ad)(EE:DX):dTS:=
 (dSeq (dDrop (dBM "list" mAppend (dFld ad.C_Block (dOp oIx (dFld ad.C_Reading (dVar 0) "blocks") (oNeg (dC (.int 1)))) "rows") (dCons (dOp oAdd (dOp oAdd (dTup (dCons (dFld ad.C_Block (dVar 1) "word") (dCons (dFld ad.C_Block (dVar 1) "x") dNil))) (dVar 2)) (dTup (dCons (dCB cTuple (dCons (dFld ad.C_Block (dVar 1) "rows") dNil)) dNil))) dNil)))
  (dRet (dC (.bl true))))
noncomputable def T_q9_2(ad:Ad)(EE:DX):dTS:=
 (dSeq (dAsg (dIf (dTest (dOp oIsN (dFld ad.C_Block (dVar 1) "first") (dC .non))) (dTup dNil) (dTup (dCons (dFld ad.C_Block (dVar 1) "first") dNil))) (hName 2))
  (T_q9_1 ad EE))
noncomputable def T_q9_3(ad:Ad)(EE:DX):dTS:=
 (dSeq (dIfS (dOr (dTest (dOp oEq (dFld ad.C_Block (dVar 1) "word") (dC (.str "top")))) (dAnd (dTest (dOp oEq (dFld ad.C_Block (dVar 1) "word") (dC (.str "if")))) (dTest (dOp oIsN (dFld ad.C_Block (dVar 1) "first") (dC .non))))) (dRet (dC (.bl false))) dNext)
  (T_q9_2 ad EE))
noncomputable def T_q9(ad:Ad)(EE:DX):dTS:=
 (dSeq (dAsg (dBM "list" mPop (dFld ad.C_Reading (dVar 0) "blocks") dNil) (hName 1))
  (T_q9_3 ad EE))
noncomputable def S_q9(ad:Ad):Sd:=bodyD ["self","block","firsts"] (T_q9 ad)
theorem u_q9{ad:Ad}{n:Nat}{x0:D}{M:Mem}{Q:DK}{E:DX}:S_q9 ad [x0] M Q E=T_q9 ad (drpX E) { nx:=fun _ M'=>drp Q .non M',rt:=drp Q } [some x0,none,none] M:=rfl
noncomputable def T_q28(ad:Ad)(EE:DX):dTS:=
 (dRet (dIf (dTest (dOp oIsN (dVar 2) (dC .non))) (dC .non) (dTup (dCons (dVar 0) (dCons (dVar 1) (dCons (dVar 2) dNil))))))
noncomputable def S_q28(ad:Ad):Sd:=bodyD ["word","x","part"] (T_q28 ad)
theorem u_q28{ad:Ad}{n:Nat}{x0 x1 x2:D}{M:Mem}{Q:DK}{E:DX}:S_q28 ad [x0,x1,x2] M Q E=T_q28 ad (drpX E) { nx:=fun _ M'=>drp Q .non M',rt:=drp Q } [some x0,some x1,some x2] M:=rfl
noncomputable def T_q15_1(ad:Ad)(EE:DX):dTS:=
 (dRet (dCall (S_q28 ad) EE 3 (dCons (dC (.str "put")) (dCons (dVar 2) (dCons (dFrz (dCall (S_q16 ad) EE 3 (dCons (dOp oIx (dVar 1) (dC (.int 2))) (dCons (dC (.int 0)) (dCons (dOp oSub (dOp oIx (dVar 0) (dC (.int 0))) (dC (.int 1))) dNil))))) dNil)))))
noncomputable def T_q15_2(ad:Ad)(EE:DX):dTS:=
 (dRet (dCall (S_q28 ad) EE 3 (dCons (dC (.str "take")) (dCons (dVar 2) (dCons (dFrz (dCall (S_q16 ad) EE 3 (dCons (dOp oIx (dVar 1) (dC (.int 3))) (dCons (dC (.int 0)) (dCons (dOp oSub (dOp oIx (dVar 0) (dC (.int 2))) (dC (.int 1))) dNil))))) dNil)))))
noncomputable def T_q15_3(ad:Ad)(EE:DX):dTS:=
 (dRet (dCall (S_q28 ad) EE 3 (dCons (dC (.str "pick")) (dCons (dVar 2) (dCons (dIf (dTest (dOp oIn (dOp oIx (dVar 1) (dC (.int 3))) (dOp oIx (dVar 0) (dC (.int 1))))) (dOp oIx (dVar 1) (dC (.int 3))) (dC .non)) dNil)))))
noncomputable def T_q15_4(ad:Ad)(EE:DX):dTS:=
 (dRet (dTup (dCons (dOp (oIxT tab_WORDS ad.g_WORDS) (dC (.ref ad.g_WORDS)) (dOp oIx (dVar 1) (dC (.int 3)))) (dCons (dVar 2) (dCons (dOp oIx (dVar 1) (dC (.int 2))) (dCons (dOp oIx (dVar 1) (dC (.int 4))) dNil))))))
noncomputable def T_q15_5(ad:Ad)(EE:DX):dTS:=
 (dSeq (dIfS (dAnd (dTest (dOp oEq (dCB cLen (dCons (dVar 1) dNil)) (dC (.int 5)))) (dAnd (dTest (dOp oIn (dOp oIx (dVar 1) (dC (.int 2))) (dOp oIx (dVar 0) (dC (.int 1))))) (dAnd (dTest (dOp (oInT tab_WORDS ad.g_WORDS) (dOp oIx (dVar 1) (dC (.int 3))) (dC (.ref ad.g_WORDS)))) (dTest (dOp oIn (dOp oIx (dVar 1) (dC (.int 4))) (dOp oIx (dVar 0) (dC (.int 1)))))))) (T_q15_4 ad EE) dNext)
  (dRet (dC .non)))
noncomputable def T_q15_6(ad:Ad)(EE:DX):dTS:=
 (dSeq (dIfS (dAnd (dTest (dOp oEq (dCB cLen (dCons (dVar 1) dNil)) (dC (.int 4)))) (dAnd (dTest (dOp oEq (dOp oIx (dVar 1) (dC (.int 2))) (dC (.str "pick")))) (dTest (dOp oNe (dOp oIx (dVar 0) (dC (.int 2))) (dC (.int 0)))))) (T_q15_3 ad EE) dNext)
  (T_q15_5 ad EE))
noncomputable def T_q15_7(ad:Ad)(EE:DX):dTS:=
 (dSeq (dIfS (dAnd (dTest (dOp oEq (dCB cLen (dCons (dVar 1) dNil)) (dC (.int 4)))) (dTest (dOp oEq (dOp oIx (dVar 1) (dC (.int 2))) (dC (.str "piece"))))) (T_q15_2 ad EE) dNext)
  (T_q15_6 ad EE))
noncomputable def T_q15_8(ad:Ad)(EE:DX):dTS:=
 (dSeq (dIfS (dTest (dOp oEq (dCB cLen (dCons (dVar 1) dNil)) (dC (.int 3)))) (T_q15_1 ad EE) dNext)
  (T_q15_7 ad EE))
noncomputable def T_q15_9(ad:Ad)(EE:DX):dTS:=
 (dSeq (dAsg (dOp oIx (dVar 1) (dC (.int 0))) (hName 2))
  (T_q15_8 ad EE))
noncomputable def T_q15(ad:Ad)(EE:DX):dTS:=
 (dSeq (dIfS (dOr (dTest (dOp oLt (dCB cLen (dCons (dVar 1) dNil)) (dC (.int 3)))) (dOr (dTest (dOp oNotIn (dOp oIx (dVar 1) (dC (.int 0))) (dOp oIx (dVar 0) (dC (.int 1))))) (dTest (dOp oNe (dOp oIx (dVar 1) (dC (.int 1))) (dC (.str "=")))))) (dRet (dC .non)) dNext)
  (T_q15_9 ad EE))
noncomputable def S_q15(ad:Ad):Sd:=bodyD ["head","words","x"] (T_q15 ad)
theorem u_q15{ad:Ad}{n:Nat}{x0 x1:D}{M:Mem}{Q:DK}{E:DX}:S_q15 ad [x0,x1] M Q E=T_q15 ad (drpX E) { nx:=fun _ M'=>drp Q .non M',rt:=drp Q } [some x0,some x1,none] M:=rfl
noncomputable def T_q0_1(ad:Ad)(EE:DX):dTS:=
 (dRet (dAndV (dOp oIn (dOp oIx (dVar 1) (dC (.int 0))) (dTup (dCons (dC (.str "if")) (dCons (dC (.str "again")) dNil)))) (dAndV (dOp oIn (dOp oIx (dVar 1) (dC (.int 1))) (dOp oIx (dFld ad.C_Reading (dVar 0) "head") (dC (.int 1)))) (dOp oLe (dOp oSub (dCB cLen (dCons (dFld ad.C_Reading (dVar 0) "blocks") dNil)) (dC (.int 1))) (dC (.int 4))))))
noncomputable def T_q0_2(ad:Ad)(EE:DX):dTS:=
 (dSeq (dDrop (dBM "list" mAppend (dFld ad.C_Reading (dVar 0) "blocks") (dCons (dMake ad.C_Block (S_q5 ad) EE 3 (dCons (dOp oIx (dVar 1) (dC (.int 0))) (dCons (dOp oIx (dVar 1) (dC (.int 1))) dNil))) dNil)))
   (T_q0_1 ad EE))
noncomputable def T_q0_3(ad:Ad)(EE:DX):dTS:=
 (dSeq (dDrop (dBM "list" mAppend (dFld ad.C_Block (dOp oIx (dFld ad.C_Reading (dVar 0) "blocks") (oNeg (dC (.int 1)))) "rows") (dCons (dVar 2) dNil)))
  (dRet (dOp oNotN (dVar 2) (dC .non))))
noncomputable def T_q0_4(ad:Ad)(EE:DX):dTS:=
 (dSeq (dAsg (dFrz (dCall (S_q15 ad) EE 2 (dCons (dFld ad.C_Reading (dVar 0) "head") (dCons (dVar 1) dNil)))) (hName 2))
  (T_q0_3 ad EE))
noncomputable def T_q0_5(ad:Ad)(EE:DX):dTS:=
 (dSeq (dIfS (dTest (dOp oEq (dCB cLen (dCons (dVar 1) dNil)) (dC (.int 2)))) (T_q0_2 ad EE) dNext)
  (T_q0_4 ad EE))
noncomputable def T_q0_6(ad:Ad)(EE:DX):dTS:=
 (dSeq (dIfS (dTest (dOp oGt (dFld ad.C_Reading (dVar 0) "count") (dC (.int 60)))) (dRet (dC (.bl false))) dNext)
  (T_q0_5 ad EE))
noncomputable def T_q0(ad:Ad)(EE:DX):dTS:=
 (dSeq (dFldAdd ad.C_Reading (dVar 0) (dC (.int 1)) "count")
  (T_q0_6 ad EE))
noncomputable def S_q0(ad:Ad):Sd:=bodyD ["self","words","row"] (T_q0 ad)
theorem u_q0{ad:Ad}{n:Nat}{x0 x1:D}{M:Mem}{Q:DK}{E:DX}:S_q0 ad [x0,x1] M Q E=T_q0 ad (drpX E) { nx:=fun _ M'=>drp Q .non M',rt:=drp Q } [some x0,some x1,none] M:=rfl
noncomputable def T_q10_1(ad:Ad)(EE:DX):dTS:=
 (dSeq (dFldS ad.C_Block (dVar 1) (dLst dNil) "rows")
  (dRet (dC (.bl true))))
noncomputable def T_q10_2(ad:Ad)(EE:DX):dTS:=
 (dSeq (dFldS ad.C_Block (dVar 1) (dCB cTuple (dCons (dFld ad.C_Block (dVar 1) "rows") dNil)) "first")
  (T_q10_1 ad EE))
noncomputable def T_q10_3(ad:Ad)(EE:DX):dTS:=
 (dSeq (dIfS (dOr (dTest (dOp oNe (dFld ad.C_Block (dVar 1) "word") (dC (.str "if")))) (dTest (dOp oNotN (dFld ad.C_Block (dVar 1) "first") (dC .non)))) (dRet (dC (.bl false))) dNext)
  (T_q10_2 ad EE))
noncomputable def T_q10(ad:Ad)(EE:DX):dTS:=
 (dSeq (dAsg (dOp oIx (dFld ad.C_Reading (dVar 0) "blocks") (oNeg (dC (.int 1)))) (hName 1))
  (T_q10_3 ad EE))
noncomputable def S_q10(ad:Ad):Sd:=bodyD ["self","block"] (T_q10 ad)
theorem u_q10{ad:Ad}{n:Nat}{x0:D}{M:Mem}{Q:DK}{E:DX}:S_q10 ad [x0] M Q E=T_q10 ad (drpX E) { nx:=fun _ M'=>drp Q .non M',rt:=drp Q } [some x0,none] M:=rfl
noncomputable def T_q26_1(ad:Ad)(EE:DX):dTS:=
 (dRet (dIf (dTru (dFrz (dCall (S_q22 ad) EE 1 (dCons (dCB cTuple (dCons (dFrz (dSl (dVar 1) (dPart (dC (.int 1))) dNoPart)) dNil)) dNil)))) (dCB cTuple (dCons (dFrz (dSl (dVar 1) (dPart (dC (.int 1))) dNoPart)) dNil)) (dC .non)))
noncomputable def T_q26_2(ad:Ad)(EE:DX):dTS:=
 (dRet (dCall (S_q16 ad) EE 3 (dCons (dOp oIx (dVar 1) (dC (.int 1))) (dCons (dC (.int 2)) (dCons (dC (.int 997)) dNil)))))
noncomputable def T_q26_3(ad:Ad)(EE:DX):dTS:=
 (dRet (dCall (S_q16 ad) EE 3 (dCons (dOp oIx (dVar 1) (dC (.int 1))) (dCons (dC (.int 0)) (dCons (dC (.int 40)) dNil)))))
noncomputable def T_q26_4(ad:Ad)(EE:DX):dTS:=
 (dRet (dIf (dTest (dOp oIn (dOp oIx (dVar 1) (dC (.int 1))) (dOp oIx (dVar 0) (dC (.int 1))))) (dOp oIx (dVar 1) (dC (.int 1))) (dC .non)))
noncomputable def T_q26_5(ad:Ad)(EE:DX):dTS:=
 (dSeq (dIfS (dTest (dOp oEq (dOp oIx (dVar 1) (dC (.int 0))) (dC (.str "pieces")))) (T_q26_3 ad EE) dNext)
  (T_q26_4 ad EE))
noncomputable def T_q26_6(ad:Ad)(EE:DX):dTS:=
 (dSeq (dIfS (dTest (dOp oEq (dOp oIx (dVar 1) (dC (.int 0))) (dC (.str "wheel")))) (T_q26_2 ad EE) dNext)
  (T_q26_5 ad EE))
noncomputable def T_q26_7(ad:Ad)(EE:DX):dTS:=
 (dSeq (dIfS (dTest (dOp oNe (dCB cLen (dCons (dVar 1) dNil)) (dC (.int 2)))) (dRet (dC .non)) dNext)
  (T_q26_6 ad EE))
noncomputable def T_q26_8(ad:Ad)(EE:DX):dTS:=
 (dSeq (dIfS (dTest (dOp oEq (dOp oIx (dVar 1) (dC (.int 0))) (dC (.str "names")))) (T_q26_1 ad EE) dNext)
  (T_q26_7 ad EE))
noncomputable def T_q26(ad:Ad)(EE:DX):dTS:=
 (dSeq (dIfS (dTest (dOp oNe (dOp oIx (dVar 1) (dC (.int 0))) (dOp oIx (dC (.mt [.str "wheel",.str "names",.str "pieces",.str "mark"])) (dCB cLen (dCons (dVar 0) dNil))))) (dRet (dC .non)) dNext)
  (T_q26_8 ad EE))
noncomputable def S_q26(ad:Ad):Sd:=bodyD ["head","words"] (T_q26 ad)
theorem u_q26{ad:Ad}{n:Nat}{x0 x1:D}{M:Mem}{Q:DK}{E:DX}:S_q26 ad [x0,x1] M Q E=T_q26 ad (drpX E) { nx:=fun _ M'=>drp Q .non M',rt:=drp Q } [some x0,some x1] M:=rfl
noncomputable def T_q11_1(ad:Ad)(EE:DX):dTS:=
 (dSeq (dDrop (dBM "list" mAppend (dFld ad.C_Reading (dVar 0) "head") (dCons (dVar 3) dNil)))
   (dRet (dOp oNotN (dVar 3) (dC .non))))
noncomputable def T_q11_2(ad:Ad)(EE:DX):dTS:=
 (dSeq (dAsg (dFrz (dCall (S_q26 ad) EE 2 (dCons (dFld ad.C_Reading (dVar 0) "head") (dCons (dVar 2) dNil)))) (hName 3))
   (T_q11_1 ad EE))
noncomputable def T_q11_3(ad:Ad)(EE:DX):dTS:=
 (dRet (dMeth ad.C_Reading "turn" (S_q10 ad) EE 1 (dVar 0) dNil))
noncomputable def T_q11_4(ad:Ad)(EE:DX):dTS:=
 (dRet (dMeth ad.C_Reading "close" (S_q9 ad) EE 1 (dVar 0) dNil))
noncomputable def T_q11_5(ad:Ad)(EE:DX):dTS:=
 (dRet (dMeth ad.C_Reading "take_row" (S_q0 ad) EE 2 (dVar 0) (dCons (dVar 2) dNil)))
noncomputable def T_q11_6(ad:Ad)(EE:DX):dTS:=
 (dSeq (dIfS (dTest (dOp oEq (dVar 2) (dFrz (dLst (dCons (dC (.str "end")) dNil))))) (T_q11_4 ad EE) dNext)
  (T_q11_5 ad EE))
noncomputable def T_q11_7(ad:Ad)(EE:DX):dTS:=
 (dSeq (dIfS (dTest (dOp oEq (dVar 2) (dFrz (dLst (dCons (dC (.str "else")) dNil))))) (T_q11_3 ad EE) dNext)
  (T_q11_6 ad EE))
noncomputable def T_q11_8(ad:Ad)(EE:DX):dTS:=
 (dSeq (dIfS (dTest (dOp oLt (dCB cLen (dCons (dFld ad.C_Reading (dVar 0) "head") dNil)) (dCB cLen (dCons (dC (.mt [.str "wheel",.str "names",.str "pieces",.str "mark"])) dNil)))) (T_q11_2 ad EE) dNext)
  (T_q11_7 ad EE))
noncomputable def T_q11(ad:Ad)(EE:DX):dTS:=
 (dSeq (dAsg (dFrz (dBM "str" mSplit (dVar 1) (dCons (dC (.str " ")) dNil))) (hName 2))
  (T_q11_8 ad EE))
noncomputable def S_q11(ad:Ad):Sd:=bodyD ["self","text","words","part"] (T_q11 ad)
theorem u_q11{ad:Ad}{n:Nat}{x0 x1:D}{M:Mem}{Q:DK}{E:DX}:S_q11 ad [x0,x1] M Q E=T_q11 ad (drpX E) { nx:=fun _ M'=>drp Q .non M',rt:=drp Q } [some x0,some x1,none,none] M:=rfl
noncomputable def T_q4(ad:Ad)(EE:DX):dTS:=
 (dRet (dAndV (dOp oEq (dCB cLen (dCons (dFld ad.C_Reading (dVar 0) "head") dNil)) (dCB cLen (dCons (dC (.mt [.str "wheel",.str "names",.str "pieces",.str "mark"])) dNil))) (dOp oEq (dCB cLen (dCons (dFld ad.C_Reading (dVar 0) "blocks") dNil)) (dC (.int 1)))))
noncomputable def S_q4(ad:Ad):Sd:=bodyD ["self"] (T_q4 ad)
theorem u_q4{ad:Ad}{n:Nat}{x0:D}{M:Mem}{Q:DK}{E:DX}:S_q4 ad [x0] M Q E=T_q4 ad (drpX E) { nx:=fun _ M'=>drp Q .non M',rt:=drp Q } [some x0] M:=rfl
noncomputable def T_q25_1(ad:Ad)(EE:DX):dTS:=
 (dIfS (dNot (dTru (dFrz (dMeth ad.C_Reading "take" (S_q11 ad) EE 2 (dVar 1) (dCons (dVar 3) dNil))))) dFail dNext)
noncomputable def T_q25_2(ad:Ad)(EE:DX):dTS:=
 (dRet (dTup (dCons (dOp oIx (dVar 4) (dC (.int 0))) (dCons (dOp oIx (dVar 4) (dC (.int 1))) (dCons (dOp oIx (dVar 4) (dC (.int 2))) (dCons (dCB cTuple (dCons (dFld ad.C_Block (dOp oIx (dFld ad.C_Reading (dVar 1) "blocks") (dC (.int 0))) "rows") dNil)) (dCons (dOp oIx (dVar 4) (dC (.int 3))) dNil)))))))
noncomputable def T_q25_3(ad:Ad)(EE:DX):dTS:=
 (dSeq (dAsg (dFld ad.C_Reading (dVar 1) "head") (hName 4))
  (T_q25_2 ad EE))
noncomputable def T_q25_4(ad:Ad)(EE:DX):dTS:=
 (dSeq (dIfS (dNot (dTru (dFrz (dMeth ad.C_Reading "is_done" (S_q4 ad) EE 1 (dVar 1) dNil)))) dFail dNext)
  (T_q25_3 ad EE))
noncomputable def T_q25_5(ad:Ad)(EE:DX):dTS:=
 (dSeq (dFor (wEnum (dCons (dVar 0) dNil)) (hTup 2 (hCons (hName 2) (hCons (hName 3) hNil))) (T_q25_1 ad EE))
  (T_q25_4 ad EE))
noncomputable def T_q25(ad:Ad)(EE:DX):dTS:=
 (dSeq (dAsg (dMake ad.C_Reading (S_q1 ad) EE 1 dNil) (hName 1))
  (T_q25_5 ad EE))
noncomputable def S_q25(ad:Ad):Sd:=bodyD ["rows","reading","number","text","head"] (T_q25 ad)
theorem u_q25{ad:Ad}{n:Nat}{x0:D}{M:Mem}{Q:DK}{E:DX}:S_q25 ad [x0] M Q E=T_q25 ad (drpX E) { nx:=fun _ M'=>drp Q .non M',rt:=drp Q } [some x0,none,none,none,none] M:=rfl
noncomputable def T_q12_1(ad:Ad)(EE:DX):dTS:=
 (dSeq (dAsg (dOp oMod (dOp oMul (dOp oXor (dVar 2) (dOp oFdiv (dVar 2) (dC (.int 2147483648)))) (dC (.int 2685821657736338717))) (dC (.int 18446744073709551616))) (hName 2))
  (dRet (dOp oFdiv (dVar 2) (dC (.int 1048576)))))
noncomputable def T_q12(ad:Ad)(EE:DX):dTS:=
 (dSeq (dAsg (dOp oMod (dOp oAdd (dOp oAdd (dOp oMul (dVar 0) (dC (.int 6364136223846793005))) (dOp oMul (dVar 1) (dC (.int 1442695040888963407)))) (dC (.int 97))) (dC (.int 18446744073709551616))) (hName 2))
  (T_q12_1 ad EE))
noncomputable def S_q12(ad:Ad):Sd:=bodyD ["cell","turn","one"] (T_q12 ad)
theorem u_q12{ad:Ad}{n:Nat}{x0 x1:D}{M:Mem}{Q:DK}{E:DX}:S_q12 ad [x0,x1] M Q E=T_q12 ad (drpX E) { nx:=fun _ M'=>drp Q .non M',rt:=drp Q } [some x0,some x1,none] M:=rfl
noncomputable def T_q27_1(ad:Ad)(EE:DX):dTS:=
 (dAsg (dOp oMod (dOp oAdd (dOp oMul (dVar 1) (dC (.int 1000003))) (dVar 2)) (dC (.int 18446744073709551616))) (hName 1))
noncomputable def T_q27_2(ad:Ad)(EE:DX):dTS:=
 (dRet (dLst (dCons (dCB cList (dCons (dFrz (dSl (dVar 0) dNoPart (dPart (dC (.int 63))))) dNil)) (dCons (dC (.int 0)) (dCons (dC (.int 0)) (dCons (dVar 1) dNil))))))
noncomputable def T_q27_3(ad:Ad)(EE:DX):dTS:=
 (dSeq (dFor (wSeq (dFrz (dSl (dVar 0) dNoPart (dPart (dC (.int 63)))))) (hName 2) (T_q27_1 ad EE))
  (T_q27_2 ad EE))
noncomputable def T_q27(ad:Ad)(EE:DX):dTS:=
 (dSeq (dAsg (dC (.int 7)) (hName 1))
  (T_q27_3 ad EE))
noncomputable def S_q27(ad:Ad):Sd:=bodyD ["script","seed","cell"] (T_q27 ad)
theorem u_q27{ad:Ad}{n:Nat}{x0:D}{M:Mem}{Q:DK}{E:DX}:S_q27 ad [x0] M Q E=T_q27 ad (drpX E) { nx:=fun _ M'=>drp Q .non M',rt:=drp Q } [some x0,none,none] M:=rfl
noncomputable def T_q24_1(ad:Ad)(EE:DX):dTS:=
 (dRet (dOp oMod (dFrz (dCall (S_q12 ad) EE 2 (dCons (dVar 2) (dCons (dOp oIx (dVar 0) (dC (.int 1))) dNil)))) (dVar 1)))
noncomputable def T_q24_2(ad:Ad)(EE:DX):dTS:=
 (dSeq (dIfS (dTest (dOp oLt (dVar 2) (dOp oPow (dC (.int 10)) (dC (.int 18))))) (T_q24_1 ad EE) dNext)
   (dAsg (dVar 2) (hSub (dVar 0) (dC (.int 2)))))
noncomputable def T_q24_3(ad:Ad)(EE:DX):dTS:=
 (dSeq (dAsg (dBM "list" mPop (dOp oIx (dVar 0) (dC (.int 0))) (dCons (dC (.int 0)) dNil)) (hName 2))
   (T_q24_2 ad EE))
noncomputable def T_q24_4(ad:Ad)(EE:DX):dTS:=
 (dRet (dOp oMod (dFrz (dCall (S_q12 ad) EE 2 (dCons (dOp oIx (dVar 0) (dC (.int 3))) (dCons (dOp oIx (dVar 0) (dC (.int 1))) dNil)))) (dVar 1)))
noncomputable def T_q24_5(ad:Ad)(EE:DX):dTS:=
 (dSeq (dAsg (dOp oFdiv (dOp oIx (dVar 0) (dC (.int 2))) (dVar 1)) (hSub (dVar 0) (dC (.int 2))))
  (dRet (dVar 3)))
noncomputable def T_q24_6(ad:Ad)(EE:DX):dTS:=
 (dSeq (dAsg (dOp oMod (dOp oIx (dVar 0) (dC (.int 2))) (dVar 1)) (hName 3))
  (T_q24_5 ad EE))
noncomputable def T_q24_7(ad:Ad)(EE:DX):dTS:=
 (dSeq (dIfS (dTest (dOp oEq (dOp oIx (dVar 0) (dC (.int 2))) (dC (.int 0)))) (T_q24_4 ad EE) dNext)
  (T_q24_6 ad EE))
noncomputable def T_q24_8(ad:Ad)(EE:DX):dTS:=
 (dSeq (dIfS (dAnd (dTest (dOp oEq (dOp oIx (dVar 0) (dC (.int 2))) (dC (.int 0)))) (dTest (dOp oNe (dOp oIx (dVar 0) (dC (.int 0))) (dFrz (dLst dNil))))) (T_q24_3 ad EE) dNext)
  (T_q24_7 ad EE))
noncomputable def T_q24(ad:Ad)(EE:DX):dTS:=
 (dSeq (dAsg (dOp oAdd (dOp oIx (dVar 0) (dC (.int 1))) (dC (.int 1))) (hSub (dVar 0) (dC (.int 1))))
  (T_q24_8 ad EE))
noncomputable def S_q24(ad:Ad):Sd:=bodyD ["pot","many","cell","found"] (T_q24 ad)
theorem u_q24{ad:Ad}{n:Nat}{x0 x1:D}{M:Mem}{Q:DK}{E:DX}:S_q24 ad [x0,x1] M Q E=T_q24 ad (drpX E) { nx:=fun _ M'=>drp Q .non M',rt:=drp Q } [some x0,some x1,none,none] M:=rfl
noncomputable def T_q17_1(ad:Ad)(EE:DX):dTS:=
 (dDrop (dBM "list" mAppend (dVar 3) (dCons (dOp oMul (dVar 5) (dOp oAdd (dC (.int 1)) (dFrz (dCall (S_q24 ad) EE 2 (dCons (dVar 0) (dCons (dC (.int 8)) dNil)))))) dNil)))
noncomputable def T_q17_2(ad:Ad)(EE:DX):dTS:=
 (dSeq (dAsg (dOp oIx (dC (.str "abcdefghijklmnopqrstuvwxyz")) (dOp oMod (dOp oAdd (dVar 2) (dOp oMul (dC (.int 7)) (dVar 4))) (dC (.int 26)))) (hName 5))
   (T_q17_1 ad EE))
noncomputable def T_q17_3(ad:Ad)(EE:DX):dTS:=
 (dSeq (dFor (wRng1 (dCons (dVar 1) dNil)) (hName 4) (T_q17_2 ad EE))
  (dRet (dCB cTuple (dCons (dVar 3) dNil))))
noncomputable def T_q17(ad:Ad)(EE:DX):dTS:=
 (dSeq (dAsg (dFrz (dCall (S_q24 ad) EE 2 (dCons (dVar 0) (dCons (dC (.int 26)) dNil)))) (hName 2))
  (dSeq (dAsg (dLst dNil) (hName 3))
  (T_q17_3 ad EE)))
noncomputable def S_q17(ad:Ad):Sd:=bodyD ["pot","many","turn","names","k","sign"] (T_q17 ad)
theorem u_q17{ad:Ad}{n:Nat}{x0 x1:D}{M:Mem}{Q:DK}{E:DX}:S_q17 ad [x0,x1] M Q E=T_q17 ad (drpX E) { nx:=fun _ M'=>drp Q .non M',rt:=drp Q } [some x0,some x1,none,none,none,none] M:=rfl
noncomputable def T_q29_1(ad:Ad)(EE:DX):dTS:=
 (dRet (dTup (dCons (dVar 6) (dCons (dVar 7) (dCons (dCall (S_q24 ad) EE 2 (dCons (dVar 0) (dCons (dVar 2) dNil))) dNil)))))
noncomputable def T_q29_2(ad:Ad)(EE:DX):dTS:=
 (dRet (dTup (dCons (dVar 6) (dCons (dVar 7) (dCons (dCall (S_q24 ad) EE 2 (dCons (dVar 0) (dCons (dVar 4) dNil))) dNil)))))
noncomputable def T_q29_3(ad:Ad)(EE:DX):dTS:=
 (dRet (dTup (dCons (dVar 6) (dCons (dVar 7) (dCons (dVar 8) dNil)))))
noncomputable def T_q29_4(ad:Ad)(EE:DX):dTS:=
 (dRet (dTup (dCons (dVar 6) (dCons (dVar 7) (dCons (dVar 8) (dCons (dOp oIx (dVar 3) (dFrz (dCall (S_q24 ad) EE 2 (dCons (dVar 0) (dCons (dCB cLen (dCons (dVar 3) dNil)) dNil))))) dNil))))))
noncomputable def T_q29_5(ad:Ad)(EE:DX):dTS:=
 (dSeq (dIfS (dTest (dOp oEq (dVar 6) (dC (.str "pick")))) (T_q29_3 ad EE) dNext)
  (T_q29_4 ad EE))
noncomputable def T_q29_6(ad:Ad)(EE:DX):dTS:=
 (dSeq (dAsg (dOp oIx (dVar 3) (dFrz (dCall (S_q24 ad) EE 2 (dCons (dVar 0) (dCons (dCB cLen (dCons (dVar 3) dNil)) dNil))))) (hName 8))
  (T_q29_5 ad EE))
noncomputable def T_q29_7(ad:Ad)(EE:DX):dTS:=
 (dSeq (dIfS (dTest (dOp oEq (dVar 6) (dC (.str "take")))) (T_q29_2 ad EE) dNext)
  (T_q29_6 ad EE))
noncomputable def T_q29_8(ad:Ad)(EE:DX):dTS:=
 (dSeq (dIfS (dTest (dOp oEq (dVar 6) (dC (.str "put")))) (T_q29_1 ad EE) dNext)
  (T_q29_7 ad EE))
noncomputable def T_q29_9(ad:Ad)(EE:DX):dTS:=
 (dSeq (dAsg (dOp oIx (dVar 3) (dFrz (dCall (S_q24 ad) EE 2 (dCons (dVar 0) (dCons (dCB cLen (dCons (dVar 3) dNil)) dNil))))) (hName 7))
  (T_q29_8 ad EE))
noncomputable def T_q29_10(ad:Ad)(EE:DX):dTS:=
 (dSeq (dAsg (dOp oIx (dVar 5) (dFrz (dCall (S_q24 ad) EE 2 (dCons (dVar 0) (dCons (dIf (dTest (dOp oGt (dVar 4) (dC (.int 0)))) (dC (.int 9)) (dC (.int 7))) dNil))))) (hName 6))
  (T_q29_9 ad EE))
noncomputable def T_q29_11(ad:Ad)(EE:DX):dTS:=
 (dSeq (dAsg (dFrz (dLst (dCons (dC (.str "put")) (dCons (dC (.str "sum")) (dCons (dC (.str "by")) (dCons (dC (.str "less")) (dCons (dC (.str "same")) (dCons (dC (.str "sum")) (dCons (dC (.str "put")) (dCons (dC (.str "take")) (dCons (dC (.str "pick")) dNil))))))))))) (hName 5))
  (T_q29_10 ad EE))
noncomputable def T_q29(ad:Ad)(EE:DX):dTS:=
 (dSeq (dAsg (dVar 1) (hTup 3 (hCons (hName 2) (hCons (hName 3) (hCons (hName 4) hNil)))))
  (T_q29_11 ad EE))
noncomputable def S_q29(ad:Ad):Sd:=bodyD ["pot","told","m","names","many","ways","way","x","y"] (T_q29 ad)
theorem u_q29{ad:Ad}{n:Nat}{x0 x1:D}{M:Mem}{Q:DK}{E:DX}:S_q29 ad [x0,x1] M Q E=T_q29 ad (drpX E) { nx:=fun _ M'=>drp Q .non M',rt:=drp Q } [some x0,some x1,none,none,none,none,none,none,none] M:=rfl
noncomputable def T_q18_1(ad:Ad)(S_q18 S_q23:Sd)(EE:DX):dTS:=
 (dRet (dLst (dCons (dTup (dCons (dC (.str "if")) (dCons (dVar 7) (dCons (dVar 8) (dCons (dCall S_q23 EE 5 (dCons (dVar 0) (dCons (dVar 1) (dCons (dVar 2) (dCons (dOp oAdd (dVar 3) (dC (.int 1))) (dCons (dC (.int 5)) dNil)))))) dNil))))) dNil)))
noncomputable def T_q18_2(ad:Ad)(S_q18 S_q23:Sd)(EE:DX):dTS:=
 (dRet (dLst (dCons (dTup (dCons (dC (.str "again")) (dCons (dVar 7) (dCons (dVar 8) dNil)))) dNil)))
noncomputable def T_q18_3(ad:Ad)(S_q18 S_q23:Sd)(EE:DX):dTS:=
 (dRet (dLst (dCons (dTup (dCons (dC (.str "put")) (dCons (dVar 7) (dCons (dCall (S_q24 ad) EE 2 (dCons (dVar 0) (dCons (dCB cMin (dCons (dVar 4) (dCons (dC (.int 9)) dNil))) dNil))) dNil)))) (dCons (dTup (dCons (dC (.str "put")) (dCons (dVar 10) (dCons (dOp oSub (dVar 4) (dC (.int 1))) dNil)))) (dCons (dTup (dCons (dC (.str "again")) (dCons (dVar 7) (dCons (dOp oAdd (dVar 8) (dTup (dCons (dTup (dCons (dC (.str "sum")) (dCons (dVar 7) (dCons (dVar 7) (dCons (dVar 10) dNil))))) dNil))) dNil)))) dNil)))))
noncomputable def T_q18_4(ad:Ad)(S_q18 S_q23:Sd)(EE:DX):dTS:=
 (dSeq (dAsg (dOp oIx (dVar 5) (dFrz (dCall (S_q24 ad) EE 2 (dCons (dVar 0) (dCons (dCB cLen (dCons (dVar 5) dNil)) dNil))))) (hName 10))
  (T_q18_3 ad S_q18 S_q23 EE))
noncomputable def T_q18_5(ad:Ad)(S_q18 S_q23:Sd)(EE:DX):dTS:=
 (dSeq (dIfS (dTest (dOp oEq (dVar 9) (dC (.int 2)))) (T_q18_2 ad S_q18 S_q23 EE) dNext)
  (T_q18_4 ad S_q18 S_q23 EE))
noncomputable def T_q18_6(ad:Ad)(S_q18 S_q23:Sd)(EE:DX):dTS:=
 (dSeq (dIfS (dTest (dOp oLt (dVar 9) (dC (.int 2)))) (T_q18_1 ad S_q18 S_q23 EE) dNext)
  (T_q18_5 ad S_q18 S_q23 EE))
noncomputable def T_q18_7(ad:Ad)(S_q18 S_q23:Sd)(EE:DX):dTS:=
 (dSeq (dAsg (dFrz (dCall (S_q24 ad) EE 2 (dCons (dVar 0) (dCons (dC (.int 5)) dNil)))) (hName 9))
  (T_q18_6 ad S_q18 S_q23 EE))
noncomputable def T_q18_8(ad:Ad)(S_q18 S_q23:Sd)(EE:DX):dTS:=
 (dSeq (dAsg (dFrz (dCall S_q23 EE 5 (dCons (dVar 0) (dCons (dVar 1) (dCons (dVar 2) (dCons (dOp oAdd (dVar 3) (dC (.int 1))) (dCons (dC (.int 5)) dNil))))))) (hName 8))
  (T_q18_7 ad S_q18 S_q23 EE))
noncomputable def T_q18_9(ad:Ad)(S_q18 S_q23:Sd)(EE:DX):dTS:=
 (dSeq (dAsg (dOp oIx (dVar 5) (dFrz (dCall (S_q24 ad) EE 2 (dCons (dVar 0) (dCons (dCB cLen (dCons (dVar 5) dNil)) dNil))))) (hName 7))
  (T_q18_8 ad S_q18 S_q23 EE))
noncomputable def T_q18(ad:Ad)(S_q18 S_q23:Sd)(EE:DX):dTS:=
 (dSeq (dAsg (dVar 1) (hTup 3 (hCons (hName 4) (hCons (hName 5) (hCons (hName 6) hNil)))))
  (T_q18_9 ad S_q18 S_q23 EE))
noncomputable def T_q23_1(ad:Ad)(S_q18 S_q23:Sd)(EE:DX):dTS:=
 (dAsg (dOp oAdd (dVar 5) (dFrz (dCall S_q18 EE 4 (dCons (dVar 0) (dCons (dVar 1) (dCons (dVar 2) (dCons (dVar 3) dNil))))))) (hName 5))
noncomputable def T_q23_2(ad:Ad)(S_q18 S_q23:Sd)(EE:DX):dTS:=
 (dSeq (dAsg (dOp oSub (dOp oIx (dVar 2) (dC (.int 0))) (dC (.int 4))) (hSub (dVar 2) (dC (.int 0))))
    (T_q23_1 ad S_q18 S_q23 EE))
noncomputable def T_q23_3(ad:Ad)(S_q18 S_q23:Sd)(EE:DX):dTS:=
 (dDrop (dBM "list" mAppend (dVar 5) (dCons (dFrz (dCall (S_q29 ad) EE 2 (dCons (dVar 0) (dCons (dVar 1) dNil)))) dNil)))
noncomputable def T_q23_4(ad:Ad)(S_q18 S_q23:Sd)(EE:DX):dTS:=
 (dSeq (dAsg (dOp oSub (dOp oIx (dVar 2) (dC (.int 0))) (dC (.int 1))) (hSub (dVar 2) (dC (.int 0))))
     (T_q23_3 ad S_q18 S_q23 EE))
noncomputable def T_q23_5(ad:Ad)(S_q18 S_q23:Sd)(EE:DX):dTS:=
 (dIfS (dTest (dOp oGt (dOp oIx (dVar 2) (dC (.int 0))) (dC (.int 0)))) (T_q23_4 ad S_q18 S_q23 EE) dNext)
noncomputable def T_q23_6(ad:Ad)(S_q18 S_q23:Sd)(EE:DX):dTS:=
 (dIfS (dAnd (dTest (dOp oGt (dOp oIx (dVar 2) (dC (.int 0))) (dC (.int 4)))) (dAnd (dTest (dOp oLt (dVar 3) (dC (.int 4)))) (dTest (dOp oEq (dFrz (dCall (S_q24 ad) EE 2 (dCons (dVar 0) (dCons (dC (.int 4)) dNil)))) (dC (.int 0)))))) (T_q23_2 ad S_q18 S_q23 EE) (T_q23_5 ad S_q18 S_q23 EE))
noncomputable def T_q23_7(ad:Ad)(S_q18 S_q23:Sd)(EE:DX):dTS:=
 (dSeq (dFor (wRng1 (dCons (dFrz (dCall (S_q24 ad) EE 2 (dCons (dVar 0) (dCons (dVar 4) dNil)))) dNil)) (hName 6) (T_q23_6 ad S_q18 S_q23 EE))
  (dRet (dCB cTuple (dCons (dVar 5) dNil))))
noncomputable def T_q23(ad:Ad)(S_q18 S_q23:Sd)(EE:DX):dTS:=
 (dSeq (dAsg (dLst dNil) (hName 5))
  (T_q23_7 ad S_q18 S_q23 EE))
mutual
noncomputable def S_q18(ad:Ad):Nat->Sd
 |0=>fun _ _ _ _=>False
 |n+1=>bodyD ["pot","told","room","deep","m","names","many","x","first","way","y"] (T_q18 ad (S_q18 ad n) (S_q23 ad n))
noncomputable def S_q23(ad:Ad):Nat->Sd
 |0=>fun _ _ _ _=>False
 |n+1=>bodyD ["pot","told","room","deep","most","rows","k"] (T_q23 ad (S_q18 ad n) (S_q23 ad n))
end
theorem u_q18{ad:Ad}{n:Nat}{x0 x1 x2 x3:D}{M:Mem}{Q:DK}{E:DX}:S_q18 ad (n+1) [x0,x1,x2,x3] M Q E=T_q18 ad (S_q18 ad n) (S_q23 ad n) (drpX E) { nx:=fun _ M'=>drp Q .non M',rt:=drp Q } [some x0,some x1,some x2,some x3,none,none,none,none,none,none,none] M:=rfl
theorem u_q23{ad:Ad}{n:Nat}{x0 x1 x2 x3 x4:D}{M:Mem}{Q:DK}{E:DX}:S_q23 ad (n+1) [x0,x1,x2,x3,x4] M Q E=T_q23 ad (S_q18 ad n) (S_q23 ad n) (drpX E) { nx:=fun _ M'=>drp Q .non M',rt:=drp Q } [some x0,some x1,some x2,some x3,some x4,none,none] M:=rfl
noncomputable def T_q20_1(ad:Ad)(EE:DX):dTS:=
 (dRet (dTup (dCons (dVar 2) (dCons (dVar 3) (dCons (dVar 4) (dCons (dVar 5) (dCons (dOp oIx (dVar 3) (dFrz (dCall (S_q24 ad) EE 2 (dCons (dVar 0) (dCons (dCB cLen (dCons (dVar 3) dNil)) dNil))))) dNil)))))))
noncomputable def T_q20_2(ad:Ad)(EE:DX):dTS:=
 (dSeq (dAsg (dFrz (dCall (S_q23 ad 24) EE 5 (dCons (dVar 0) (dCons (dTup (dCons (dVar 2) (dCons (dVar 3) (dCons (dVar 4) dNil)))) (dCons (dLst (dCons (dVar 1) dNil)) (dCons (dC (.int 0)) (dCons (dOp oIx (dFrz (dLst (dCons (dC (.int 6)) (dCons (dC (.int 12)) (dCons (dC (.int 30)) dNil))))) (dFrz (dCall (S_q24 ad) EE 2 (dCons (dVar 0) (dCons (dC (.int 3)) dNil))))) dNil))))))) (hName 5))
  (T_q20_1 ad EE))
noncomputable def T_q20_3(ad:Ad)(EE:DX):dTS:=
 (dSeq (dAsg (dOp oIx (dFrz (dLst (dCons (dC (.int 0)) (dCons (dOp oAdd (dC (.int 1)) (dFrz (dCall (S_q24 ad) EE 2 (dCons (dVar 0) (dCons (dC (.int 4)) dNil))))) (dCons (dFrz (dCall (S_q24 ad) EE 2 (dCons (dVar 0) (dCons (dC (.int 41)) dNil)))) dNil))))) (dFrz (dCall (S_q24 ad) EE 2 (dCons (dVar 0) (dCons (dC (.int 3)) dNil))))) (hName 4))
  (T_q20_2 ad EE))
noncomputable def T_q20_4(ad:Ad)(EE:DX):dTS:=
 (dSeq (dAsg (dFrz (dCall (S_q17 ad) EE 2 (dCons (dVar 0) (dCons (dOp oAdd (dC (.int 1)) (dFrz (dCall (S_q24 ad) EE 2 (dCons (dVar 0) (dCons (dOp oIx (dFrz (dLst (dCons (dC (.int 3)) (dCons (dC (.int 5)) (dCons (dC (.int 12)) dNil))))) (dFrz (dCall (S_q24 ad) EE 2 (dCons (dVar 0) (dCons (dC (.int 3)) dNil))))) dNil))))) dNil)))) (hName 3))
  (T_q20_3 ad EE))
noncomputable def T_q20(ad:Ad)(EE:DX):dTS:=
 (dSeq (dAsg (dOp oIx (dFrz (dLst (dCons (dC (.int 2)) (dCons (dC (.int 3)) (dCons (dOp oAdd (dC (.int 2)) (dFrz (dCall (S_q24 ad) EE 2 (dCons (dVar 0) (dCons (dC (.int 9)) dNil))))) (dCons (dOp oAdd (dC (.int 2)) (dFrz (dCall (S_q24 ad) EE 2 (dCons (dVar 0) (dCons (dC (.int 996)) dNil))))) dNil)))))) (dFrz (dCall (S_q24 ad) EE 2 (dCons (dVar 0) (dCons (dC (.int 4)) dNil))))) (hName 2))
  (T_q20_4 ad EE))
noncomputable def S_q20(ad:Ad):Sd:=bodyD ["pot","most","m","names","many","rows"] (T_q20 ad)
theorem u_q20{ad:Ad}{n:Nat}{x0 x1:D}{M:Mem}{Q:DK}{E:DX}:S_q20 ad [x0,x1] M Q E=T_q20 ad (drpX E) { nx:=fun _ M'=>drp Q .non M',rt:=drp Q } [some x0,some x1,none,none,none,none] M:=rfl
noncomputable def T_q6_1(ad:Ad)(S_q6:Sd)(EE:DX):dTS:=
 (dDrop (dBM "list" mAppend (dVar 2) (dCons (dOp oAdd (dTup (dCons (dOp oIx (dVar 3) (dC (.int 0))) (dCons (dOp oIx (dVar 1) (dOp oIx (dVar 3) (dC (.int 1)))) dNil))) (dCB cTuple (dCons (dFrz (dComp (wSeq (dFrz (dSl (dVar 3) (dPart (dC (.int 2))) dNoPart))) ["some"] [1] (hName 0) dAll (dFrz (dCall S_q6 NoX 2 (dCons (dVar 0) (dCons (dVar 1) dNil)))))) dNil))) dNil)))
noncomputable def T_q6_2(ad:Ad)(S_q6:Sd)(EE:DX):dTS:=
 (dDrop (dBM "list" mAppend (dVar 2) (dCons (dOp oAdd (dTup (dCons (dOp oIx (dVar 3) (dC (.int 0))) dNil)) (dCB cTuple (dCons (dFrz (dComp (wSeq (dFrz (dSl (dVar 3) (dPart (dC (.int 1))) dNoPart))) ["one"] [1] (hName 0) dAll (dIf (dTru (dCB cInst (dCons (dVar 0) (dCons (dC (.ty "str")) dNil)))) (dOp oIx (dVar 1) (dVar 0)) (dVar 0)))) dNil))) dNil)))
noncomputable def T_q6_3(ad:Ad)(S_q6:Sd)(EE:DX):dTS:=
 (dIfS (dTest (dOp oIn (dOp oIx (dVar 3) (dC (.int 0))) (dFrz (dLst (dCons (dC (.str "if")) (dCons (dC (.str "again")) dNil)))))) (T_q6_1 ad S_q6 EE) (T_q6_2 ad S_q6 EE))
noncomputable def T_q6_4(ad:Ad)(S_q6:Sd)(EE:DX):dTS:=
 (dSeq (dFor (wSeq (dVar 0)) (hName 3) (T_q6_3 ad S_q6 EE))
  (dRet (dCB cTuple (dCons (dVar 2) dNil))))
noncomputable def T_q6(ad:Ad)(S_q6:Sd)(EE:DX):dTS:=
 (dSeq (dAsg (dLst dNil) (hName 2))
  (T_q6_4 ad S_q6 EE))
noncomputable def S_q6(ad:Ad):Nat->Sd
 |0=>fun _ _ _ _=>False
 |n+1=>bodyD ["rows","names","made","row"] (T_q6 ad (S_q6 ad n))
theorem u_q6{ad:Ad}{n:Nat}{x0 x1:D}{M:Mem}{Q:DK}{E:DX}:S_q6 ad (n+1) [x0,x1] M Q E=T_q6 ad (S_q6 ad n) (drpX E) { nx:=fun _ M'=>drp Q .non M',rt:=drp Q } [some x0,some x1,none,none] M:=rfl
noncomputable def T_q14_1(ad:Ad)(EE:DX):dTS:=
 (dAsg (dIf (dAnd (dTest (dOp oEq (dFrz (dCall (S_q24 ad) EE 2 (dCons (dVar 0) (dCons (dC (.int 2)) dNil)))) (dC (.int 0)))) (dTest (dOp oNotIn (dVar 5) (dFrz (dListVals (dVar 3)))))) (dVar 5) (dVar 4)) (hSub (dVar 3) (dVar 4)))
noncomputable def T_q14_2(ad:Ad)(EE:DX):dTS:=
 (dSeq (dAsg (dOp oIx (dVar 2) (dFrz (dCall (S_q24 ad) EE 2 (dCons (dVar 0) (dCons (dC (.int 11)) dNil))))) (hName 5))
   (T_q14_1 ad EE))
noncomputable def T_q14_3(ad:Ad)(EE:DX):dTS:=
 (dRet (dTup (dCons (dOp oIx (dVar 1) (dC (.int 0))) (dCons (dVar 6) (dCons (dOp oIx (dVar 1) (dC (.int 2))) (dCons (dCall (S_q6 ad 24) EE 2 (dCons (dOp oIx (dVar 1) (dC (.int 3))) (dCons (dVar 3) dNil))) (dCons (dOp oIx (dVar 3) (dOp oIx (dVar 1) (dC (.int 4)))) dNil)))))))
noncomputable def T_q14_4(ad:Ad)(EE:DX):dTS:=
 (dSeq (dAsg (dCB cTuple (dCons (dFrz (dComp (wSeq (dOp oIx (dVar 1) (dC (.int 1)))) ["name"] [3] (hName 0) dAll (dOp oIx (dVar 1) (dVar 0)))) dNil)) (hName 6))
  (T_q14_3 ad EE))
noncomputable def T_q14_5(ad:Ad)(EE:DX):dTS:=
 (dSeq (dFor (wSeq (dOp oIx (dVar 1) (dC (.int 1)))) (hName 4) (T_q14_2 ad EE))
  (T_q14_4 ad EE))
noncomputable def T_q14(ad:Ad)(EE:DX):dTS:=
 (dSeq (dAsg (dFrz (dLst (dCons (dC (.str "if")) (dCons (dC (.str "else")) (dCons (dC (.str "end")) (dCons (dC (.str "again")) (dCons (dC (.str "piece")) (dCons (dC (.str "pick")) (dCons (dC (.str "mark")) (dCons (dC (.str "names")) (dCons (dC (.str "wheel")) (dCons (dC (.str "pieces")) (dCons (dC (.str "mark")) dNil))))))))))))) (hName 2))
  (dSeq (dAsg dNewK (hName 3))
  (T_q14_5 ad EE)))
noncomputable def S_q14(ad:Ad):Sd:=bodyD ["pot","plan","words","names","name","word","there"] (T_q14 ad)
theorem u_q14{ad:Ad}{n:Nat}{x0 x1:D}{M:Mem}{Q:DK}{E:DX}:S_q14 ad [x0,x1] M Q E=T_q14 ad (drpX E) { nx:=fun _ M'=>drp Q .non M',rt:=drp Q } [some x0,some x1,none,none,none,none,none] M:=rfl
noncomputable def T_q7_1(ad:Ad)(EE:DX):dTS:=
 (dRet (dOp oAdd (dOp oAdd (dOp oIx (dVar 0) (dC (.int 1))) (dC (.str " = "))) (dCB cStr (dCons (dOp oIx (dVar 0) (dC (.int 2))) dNil))))
noncomputable def T_q7_2(ad:Ad)(EE:DX):dTS:=
 (dRet (dOp oAdd (dOp oAdd (dOp oIx (dVar 0) (dC (.int 1))) (dC (.str " = piece "))) (dCB cStr (dCons (dOp oIx (dVar 0) (dC (.int 2))) dNil))))
noncomputable def T_q7_3(ad:Ad)(EE:DX):dTS:=
 (dRet (dOp oAdd (dOp oAdd (dOp oIx (dVar 0) (dC (.int 1))) (dC (.str " = pick "))) (dOp oIx (dVar 0) (dC (.int 2)))))
noncomputable def T_q7_4(ad:Ad)(EE:DX):dTS:=
 (dRet (dOp oAdd (dOp oAdd (dFrz (dOp oAdd (dOp oAdd (dFrz (dOp oAdd (dOp oAdd (dOp oIx (dVar 0) (dC (.int 1))) (dC (.str " = "))) (dOp oIx (dVar 0) (dC (.int 2))))) (dC (.str " "))) (dVar 1))) (dC (.str " "))) (dOp oIx (dVar 0) (dC (.int 3)))))
noncomputable def T_q7_5(ad:Ad)(EE:DX):dTS:=
 (dSeq (dAsg (dOp oIx (dDispS [("sum","+"),("by","*"),("less","<"),("same","==")]) (dOp oIx (dVar 0) (dC (.int 0)))) (hName 1))
  (T_q7_4 ad EE))
noncomputable def T_q7_6(ad:Ad)(EE:DX):dTS:=
 (dSeq (dIfS (dTest (dOp oEq (dOp oIx (dVar 0) (dC (.int 0))) (dC (.str "pick")))) (T_q7_3 ad EE) dNext)
  (T_q7_5 ad EE))
noncomputable def T_q7_7(ad:Ad)(EE:DX):dTS:=
 (dSeq (dIfS (dTest (dOp oEq (dOp oIx (dVar 0) (dC (.int 0))) (dC (.str "take")))) (T_q7_2 ad EE) dNext)
  (T_q7_6 ad EE))
noncomputable def T_q7(ad:Ad)(EE:DX):dTS:=
 (dSeq (dIfS (dTest (dOp oEq (dOp oIx (dVar 0) (dC (.int 0))) (dC (.str "put")))) (T_q7_1 ad EE) dNext)
  (T_q7_7 ad EE))
noncomputable def S_q7(ad:Ad):Sd:=bodyD ["row","sign"] (T_q7 ad)
theorem u_q7{ad:Ad}{n:Nat}{x0:D}{M:Mem}{Q:DK}{E:DX}:S_q7 ad [x0] M Q E=T_q7 ad (drpX E) { nx:=fun _ M'=>drp Q .non M',rt:=drp Q } [some x0,none] M:=rfl
noncomputable def T_q2_1(ad:Ad)(S_q2:Sd)(EE:DX):dTS:=
 (dAsg (dOp oAdd (dFrz (dOp oAdd (dFrz (dOp oAdd (dVar 1) (dFrz (dLst (dCons (dOp oAdd (dC (.str "again ")) (dOp oIx (dVar 2) (dC (.int 1)))) dNil))))) (dFrz (dCall S_q2 EE 1 (dCons (dOp oIx (dVar 2) (dC (.int 2))) dNil))))) (dFrz (dLst (dCons (dC (.str "end")) dNil)))) (hName 1))
noncomputable def T_q2_2(ad:Ad)(S_q2:Sd)(EE:DX):dTS:=
 (dAsg (dOp oAdd (dFrz (dOp oAdd (dVar 1) (dFrz (dCall S_q2 EE 1 (dCons (dOp oIx (dVar 2) (dC (.int 3))) dNil))))) (dFrz (dLst (dCons (dC (.str "end")) dNil)))) (hName 1))
noncomputable def T_q2_3(ad:Ad)(S_q2:Sd)(EE:DX):dTS:=
 (dSeq (dAsg (dOp oAdd (dFrz (dOp oAdd (dFrz (dOp oAdd (dVar 1) (dFrz (dLst (dCons (dOp oAdd (dC (.str "if ")) (dOp oIx (dVar 2) (dC (.int 1)))) dNil))))) (dFrz (dCall S_q2 EE 1 (dCons (dOp oIx (dVar 2) (dC (.int 2))) dNil))))) (dFrz (dLst (dCons (dC (.str "else")) dNil)))) (hName 1))
     (T_q2_2 ad S_q2 EE))
noncomputable def T_q2_4(ad:Ad)(S_q2:Sd)(EE:DX):dTS:=
 (dDrop (dBM "list" mAppend (dVar 1) (dCons (dFrz (dCall (S_q7 ad) EE 1 (dCons (dVar 2) dNil))) dNil)))
noncomputable def T_q2_5(ad:Ad)(S_q2:Sd)(EE:DX):dTS:=
 (dIfS (dTest (dOp oEq (dOp oIx (dVar 2) (dC (.int 0))) (dC (.str "if")))) (T_q2_3 ad S_q2 EE) (T_q2_4 ad S_q2 EE))
noncomputable def T_q2_6(ad:Ad)(S_q2:Sd)(EE:DX):dTS:=
 (dIfS (dTest (dOp oEq (dOp oIx (dVar 2) (dC (.int 0))) (dC (.str "again")))) (T_q2_1 ad S_q2 EE) (T_q2_5 ad S_q2 EE))
noncomputable def T_q2_7(ad:Ad)(S_q2:Sd)(EE:DX):dTS:=
 (dSeq (dFor (wSeq (dVar 0)) (hName 2) (T_q2_6 ad S_q2 EE))
  (dRet (dVar 1)))
noncomputable def T_q2(ad:Ad)(S_q2:Sd)(EE:DX):dTS:=
 (dSeq (dAsg (dLst dNil) (hName 1))
  (T_q2_7 ad S_q2 EE))
noncomputable def S_q2(ad:Ad):Nat->Sd
 |0=>fun _ _ _ _=>False
 |n+1=>bodyD ["rows","found","row"] (T_q2 ad (S_q2 ad n))
theorem u_q2{ad:Ad}{n:Nat}{x0:D}{M:Mem}{Q:DK}{E:DX}:S_q2 ad (n+1) [x0] M Q E=T_q2 ad (S_q2 ad n) (drpX E) { nx:=fun _ M'=>drp Q .non M',rt:=drp Q } [some x0,none,none] M:=rfl
noncomputable def T_q3_1(ad:Ad)(EE:DX):dTS:=
 (dRet (dOp oAdd (dFrz (dOp oAdd (dVar 1) (dFrz (dLst (dCons (dOp oAdd (dC (.str "mark ")) (dOp oIx (dVar 0) (dC (.int 4)))) dNil))))) (dFrz (dCall (S_q2 ad 24) EE 1 (dCons (dOp oIx (dVar 0) (dC (.int 3))) dNil)))))
noncomputable def T_q3(ad:Ad)(EE:DX):dTS:=
 (dSeq (dAsg (dFrz (dLst (dCons (dOp oAdd (dC (.str "wheel ")) (dCB cStr (dCons (dOp oIx (dVar 0) (dC (.int 0))) dNil))) (dCons (dBM "str" mJoin (dC (.str " ")) (dCons (dFrz (dOp oAdd (dFrz (dLst (dCons (dC (.str "names")) dNil))) (dFrz (dCB cList (dCons (dOp oIx (dVar 0) (dC (.int 1))) dNil))))) dNil)) (dCons (dOp oAdd (dC (.str "pieces ")) (dCB cStr (dCons (dOp oIx (dVar 0) (dC (.int 2))) dNil))) dNil))))) (hName 1))
  (T_q3_1 ad EE))
noncomputable def S_q3(ad:Ad):Sd:=bodyD ["plan","found"] (T_q3 ad)
theorem u_q3{ad:Ad}{n:Nat}{x0:D}{M:Mem}{Q:DK}{E:DX}:S_q3 ad [x0] M Q E=T_q3 ad (drpX E) { nx:=fun _ M'=>drp Q .non M',rt:=drp Q } [some x0,none] M:=rfl
noncomputable def T_q19_1(ad:Ad)(S_q19:Sd)(EE:DX):dTS:=
 (dRet (dAndV (dCB cInst (dCons (dVar 0) (dCons (dC (.ty "bool")) dNil))) (dOp oEq (dVar 0) (dVar 1))))
noncomputable def T_q19_2(ad:Ad)(S_q19:Sd)(EE:DX):dTS:=
 (dRet (dAndV (dCB cInst (dCons (dVar 0) (dCons (dC (.ty "int")) dNil))) (dAndV (dNotV (dCB cInst (dCons (dVar 0) (dCons (dC (.ty "bool")) dNil)))) (dOp oEq (dVar 0) (dVar 1)))))
noncomputable def T_q19_3(ad:Ad)(S_q19:Sd)(EE:DX):dTS:=
 (dRet (dAndV (dCB cInst (dCons (dVar 0) (dCons (dC (.ty "str")) dNil))) (dOp oEq (dVar 0) (dVar 1))))
noncomputable def T_q19_4(ad:Ad)(S_q19:Sd)(EE:DX):dTS:=
 (dRet (dCB cAll (dCons (dFrz (dComp (wZip (dCons (dVar 0) (dCons (dVar 1) dNil))) ["one","other"] [] (hTup 2 (hCons (hName 0) (hCons (hName 1) hNil))) dAll (dFrz (dCall S_q19 NoX 2 (dCons (dVar 0) (dCons (dVar 1) dNil)))))) dNil)))
noncomputable def T_q19_5(ad:Ad)(S_q19:Sd)(EE:DX):dTS:=
 (dSeq (dIfS (dTest (dOp oNe (dCB cLen (dCons (dVar 0) dNil)) (dCB cLen (dCons (dVar 1) dNil)))) (dRet (dC (.bl false))) dNext)
  (T_q19_4 ad S_q19 EE))
noncomputable def T_q19_6(ad:Ad)(S_q19:Sd)(EE:DX):dTS:=
 (dSeq (dIfS (dOr (dTest (dOp oNe (dCB cInst (dCons (dVar 1) (dCons (dC (.ty "tuple")) dNil))) (dCB cInst (dCons (dVar 0) (dCons (dC (.ty "tuple")) dNil))))) (dTest (dOp oNe (dCB cInst (dCons (dVar 1) (dCons (dC (.ty "list")) dNil))) (dCB cInst (dCons (dVar 0) (dCons (dC (.ty "list")) dNil)))))) (dRet (dC (.bl false))) dNext)
  (T_q19_5 ad S_q19 EE))
noncomputable def T_q19_7(ad:Ad)(S_q19:Sd)(EE:DX):dTS:=
 (dSeq (dIfS (dTru (dCB cInst (dCons (dVar 1) (dCons (dC (.ty "str")) dNil)))) (T_q19_3 ad S_q19 EE) dNext)
  (T_q19_6 ad S_q19 EE))
noncomputable def T_q19_8(ad:Ad)(S_q19:Sd)(EE:DX):dTS:=
 (dSeq (dIfS (dTru (dCB cInst (dCons (dVar 1) (dCons (dC (.ty "int")) dNil)))) (T_q19_2 ad S_q19 EE) dNext)
  (T_q19_7 ad S_q19 EE))
noncomputable def T_q19_9(ad:Ad)(S_q19:Sd)(EE:DX):dTS:=
 (dSeq (dIfS (dTru (dCB cInst (dCons (dVar 1) (dCons (dC (.ty "bool")) dNil)))) (T_q19_1 ad S_q19 EE) dNext)
  (T_q19_8 ad S_q19 EE))
noncomputable def T_q19(ad:Ad)(S_q19:Sd)(EE:DX):dTS:=
 (dSeq (dIfS (dTest (dOp oIsN (dVar 1) (dC .non))) (dRet (dOp oIsN (dVar 0) (dC .non))) dNext)
  (T_q19_9 ad S_q19 EE))
noncomputable def S_q19(ad:Ad):Nat->Sd
 |0=>fun _ _ _ _=>False
 |n+1=>bodyD ["found","due"] (T_q19 ad (S_q19 ad n))
theorem u_q19{ad:Ad}{n:Nat}{x0 x1:D}{M:Mem}{Q:DK}{E:DX}:S_q19 ad (n+1) [x0,x1] M Q E=T_q19 ad (S_q19 ad n) (drpX E) { nx:=fun _ M'=>drp Q .non M',rt:=drp Q } [some x0,some x1] M:=rfl
noncomputable def T_law_1(ad:Ad)(EE:DX):dTS:=
 (dAsg (dFrz (dCall (S_q14 ad) EE 2 (dCons (dVar 1) (dCons (dVar 2) dNil)))) (hName 2))
noncomputable def T_law_2(ad:Ad)(EE:DX):dTS:=
 (dRet (dAndV (dFrz (dCall (S_q19 ad 24) EE 2 (dCons (dVar 5) (dCons (dVar 2) dNil)))) (dFrz (dCall (S_q19 ad 24) EE 2 (dCons (dFrz (dCall (S_q21 ad) EE 1 (dCons (dFrz (dCall (S_q25 ad) EE 1 (dCons (dVar 3) dNil))) dNil))) (dCons (dVar 3) dNil))))))
noncomputable def T_law_3(ad:Ad)(EE:DX):dTS:=
 (dSeq (dDrop (dBM "list" mClear (dVar 4) dNil))
  (T_law_2 ad EE))
noncomputable def T_law_4(ad:Ad)(EE:DX):dTS:=
 (dSeq (dIfS (dOr (dNot (dTru (dFrz (dCall (S_q19 ad 24) EE 2 (dCons (dVar 5) (dCons (dVar 2) dNil)))))) (dNot (dTru (dFrz (dCall (S_q19 ad 24) EE 2 (dCons (dVar 4) (dCons (dVar 3) dNil))))))) (dRet (dC (.bl false))) dNext)
  (T_law_3 ad EE))
noncomputable def T_law_5(ad:Ad)(EE:DX):dTS:=
 (dSeq (dAsg (dFrz (dCall (S_q25 ad) EE 1 (dCons (dVar 4) dNil))) (hName 5))
  (T_law_4 ad EE))
noncomputable def T_law_6(ad:Ad)(EE:DX):dTS:=
 (dSeq (dAsg (dCB cList (dCons (dVar 3) dNil)) (hName 4))
  (T_law_5 ad EE))
noncomputable def T_law_7(ad:Ad)(EE:DX):dTS:=
 (dSeq (dAsg (dFrz (dCall (S_q3 ad) EE 1 (dCons (dVar 2) dNil))) (hName 3))
  (T_law_6 ad EE))
noncomputable def T_law_8(ad:Ad)(EE:DX):dTS:=
 (dSeq (dIfS (dTest (dOp oEq (dFrz (dCall (S_q24 ad) EE 2 (dCons (dVar 1) (dCons (dC (.int 2)) dNil)))) (dC (.int 0)))) (T_law_1 ad EE) dNext)
  (T_law_7 ad EE))
noncomputable def T_law_9(ad:Ad)(EE:DX):dTS:=
 (dSeq (dAsg (dFrz (dCall (S_q20 ad) EE 2 (dCons (dVar 1) (dCons (dC (.int 60)) dNil)))) (hName 2))
  (T_law_8 ad EE))
noncomputable def T_law(ad:Ad)(EE:DX):dTS:=
 (dSeq (dAsg (dCall (S_q27 ad) EE 1 (dCons (dVar 0) dNil)) (hName 1))
  (T_law_9 ad EE))
noncomputable def S_law(ad:Ad):Sd:=bodyD ["script","pot","plan","texts","handed","found"] (T_law ad)
theorem u_law{ad:Ad}{n:Nat}{x0:D}{M:Mem}{Q:DK}{E:DX}:S_law ad [x0] M Q E=T_law ad (drpX E) { nx:=fun _ M'=>drp Q .non M',rt:=drp Q } [some x0,none,none,none,none,none] M:=rfl
end Tw
namespace Tw
open PySem L2 L3
set_option genInjectivity false in
structure En(w:World)(K:PySem.W.Frag)(mg:Str->Option Value)(ad:Ad):Prop where
 c_Block:Cls K ad.C_Block
 mC_Block:mg "Block"=some (.ref ad.C_Block)
 mk_Block:Mk K ad.C_Block ad.a_q5
 n_Block_first:NoAttr K ad.C_Block "first"
 n_Block_rows:NoAttr K ad.C_Block "rows"
 n_Block_word:NoAttr K ad.C_Block "word"
 n_Block_x:NoAttr K ad.C_Block "x"
 c_Reading:Cls K ad.C_Reading
 mC_Reading:mg "Reading"=some (.ref ad.C_Reading)
 mk_Reading:Mk K ad.C_Reading ad.a_q1
 n_Reading_blocks:NoAttr K ad.C_Reading "blocks"
 n_Reading_count:NoAttr K ad.C_Reading "count"
 n_Reading_head:NoAttr K ad.C_Reading "head"
 F_q13:Fun K "are_figures" "are_figures" s_q13 ad.a_q13 ad.d_q13
 b_q13:Binds K ad.d_q13 ["text"] []
 k_q13:PySem.W.keepIn K (.ref ad.a_q13)=true
 m_q13:mg "are_figures"=some (.ref ad.a_q13)
 F_q16:Fun K "number_from" "number_from" s_q16 ad.a_q16 ad.d_q16
 b_q16:Binds K ad.d_q16 ["text","least","most"] []
 k_q16:PySem.W.keepIn K (.ref ad.a_q16)=true
 m_q16:mg "number_from"=some (.ref ad.a_q16)
 F_q31:Fun K "is_name" "is_name" s_q31 ad.a_q31 ad.d_q31
 b_q31:Binds K ad.d_q31 ["thing"] []
 k_q31:PySem.W.keepIn K (.ref ad.a_q31)=true
 m_q31:mg "is_name"=some (.ref ad.a_q31)
 F_q22:Fun K "are_names" "are_names" s_q22 ad.a_q22 ad.d_q22
 b_q22:Binds K ad.d_q22 ["thing"] []
 k_q22:PySem.W.keepIn K (.ref ad.a_q22)=true
 m_q22:mg "are_names"=some (.ref ad.a_q22)
 F_q21:Fun K "plan_rows" "plan_rows" s_q21 ad.a_q21 ad.d_q21
 b_q21:Binds K ad.d_q21 ["plan"] []
 k_q21:PySem.W.keepIn K (.ref ad.a_q21)=true
 m_q21:mg "plan_rows"=some (.ref ad.a_q21)
 F_q30:Fun K "written" "written" s_q30 ad.a_q30 ad.d_q30
 b_q30:Binds K ad.d_q30 ["rows"] []
 k_q30:PySem.W.keepIn K (.ref ad.a_q30)=true
 m_q30:mg "written"=some (.ref ad.a_q30)
 F_q8:Fun K "worth_written" "worth_written" s_q8 ad.a_q8 ad.d_q8
 b_q8:Binds K ad.d_q8 ["row"] []
 k_q8:PySem.W.keepIn K (.ref ad.a_q8)=true
 m_q8:mg "worth_written"=some (.ref ad.a_q8)
 F_q5:Fun K "__init__" "Block.__init__" s_q5 ad.a_q5 ad.d_q5
 b_q5:Binds K ad.d_q5 ["self","word","x"] []
 k_q5:PySem.W.keepIn K (.ref ad.a_q5)=true
 F_q1:Fun K "__init__" "Reading.__init__" s_q1 ad.a_q1 ad.d_q1
 b_q1:Binds K ad.d_q1 ["self"] []
 k_q1:PySem.W.keepIn K (.ref ad.a_q1)=true
 F_q11:Fun K "take" "Reading.take" s_q11 ad.a_q11 ad.d_q11
 b_q11:Binds K ad.d_q11 ["self","text"] []
 k_q11:PySem.W.keepIn K (.ref ad.a_q11)=true
 me_q11:Meth K ad.C_Reading "take" ad.a_q11
 F_q0:Fun K "take_row" "Reading.take_row" s_q0 ad.a_q0 ad.d_q0
 b_q0:Binds K ad.d_q0 ["self","words"] []
 k_q0:PySem.W.keepIn K (.ref ad.a_q0)=true
 me_q0:Meth K ad.C_Reading "take_row" ad.a_q0
 F_q10:Fun K "turn" "Reading.turn" s_q10 ad.a_q10 ad.d_q10
 b_q10:Binds K ad.d_q10 ["self"] []
 k_q10:PySem.W.keepIn K (.ref ad.a_q10)=true
 me_q10:Meth K ad.C_Reading "turn" ad.a_q10
 F_q9:Fun K "close" "Reading.close" s_q9 ad.a_q9 ad.d_q9
 b_q9:Binds K ad.d_q9 ["self"] []
 k_q9:PySem.W.keepIn K (.ref ad.a_q9)=true
 me_q9:Meth K ad.C_Reading "close" ad.a_q9
 F_q4:Fun K "is_done" "Reading.is_done" s_q4 ad.a_q4 ad.d_q4
 b_q4:Binds K ad.d_q4 ["self"] []
 k_q4:PySem.W.keepIn K (.ref ad.a_q4)=true
 me_q4:Meth K ad.C_Reading "is_done" ad.a_q4
 F_q26:Fun K "head_part" "head_part" s_q26 ad.a_q26 ad.d_q26
 b_q26:Binds K ad.d_q26 ["head","words"] []
 k_q26:PySem.W.keepIn K (.ref ad.a_q26)=true
 m_q26:mg "head_part"=some (.ref ad.a_q26)
 F_q15:Fun K "setting_row" "setting_row" s_q15 ad.a_q15 ad.d_q15
 b_q15:Binds K ad.d_q15 ["head","words"] []
 k_q15:PySem.W.keepIn K (.ref ad.a_q15)=true
 m_q15:mg "setting_row"=some (.ref ad.a_q15)
 F_q28:Fun K "row_with" "row_with" s_q28 ad.a_q28 ad.d_q28
 b_q28:Binds K ad.d_q28 ["word","x","part"] []
 k_q28:PySem.W.keepIn K (.ref ad.a_q28)=true
 m_q28:mg "row_with"=some (.ref ad.a_q28)
 F_q25:Fun K "read_plan" "read_plan" s_q25 ad.a_q25 ad.d_q25
 b_q25:Binds K ad.d_q25 ["rows"] []
 k_q25:PySem.W.keepIn K (.ref ad.a_q25)=true
 m_q25:mg "read_plan"=some (.ref ad.a_q25)
 F_q12:Fun K "_law_stirred" "_law_stirred" s_q12 ad.a_q12 ad.d_q12
 b_q12:Binds K ad.d_q12 ["cell","turn"] []
 k_q12:PySem.W.keepIn K (.ref ad.a_q12)=true
 m_q12:mg "_law_stirred"=some (.ref ad.a_q12)
 F_q27:Fun K "_law_pot" "_law_pot" s_q27 ad.a_q27 ad.d_q27
 b_q27:Binds K ad.d_q27 ["script"] []
 k_q27:PySem.W.keepIn K (.ref ad.a_q27)=true
 m_q27:mg "_law_pot"=some (.ref ad.a_q27)
 F_q24:Fun K "_law_draw" "_law_draw" s_q24 ad.a_q24 ad.d_q24
 b_q24:Binds K ad.d_q24 ["pot","many"] []
 k_q24:PySem.W.keepIn K (.ref ad.a_q24)=true
 m_q24:mg "_law_draw"=some (.ref ad.a_q24)
 F_q17:Fun K "_law_names" "_law_names" s_q17 ad.a_q17 ad.d_q17
 b_q17:Binds K ad.d_q17 ["pot","many"] []
 k_q17:PySem.W.keepIn K (.ref ad.a_q17)=true
 m_q17:mg "_law_names"=some (.ref ad.a_q17)
 F_q29:Fun K "_law_row" "_law_row" s_q29 ad.a_q29 ad.d_q29
 b_q29:Binds K ad.d_q29 ["pot","told"] []
 k_q29:PySem.W.keepIn K (.ref ad.a_q29)=true
 m_q29:mg "_law_row"=some (.ref ad.a_q29)
 F_q18:Fun K "_law_block" "_law_block" s_q18 ad.a_q18 ad.d_q18
 b_q18:Binds K ad.d_q18 ["pot","told","room","deep"] []
 k_q18:PySem.W.keepIn K (.ref ad.a_q18)=true
 m_q18:mg "_law_block"=some (.ref ad.a_q18)
 F_q23:Fun K "_law_rows" "_law_rows" s_q23 ad.a_q23 ad.d_q23
 b_q23:Binds K ad.d_q23 ["pot","told","room","deep","most"] []
 k_q23:PySem.W.keepIn K (.ref ad.a_q23)=true
 m_q23:mg "_law_rows"=some (.ref ad.a_q23)
 F_q20:Fun K "_law_plan" "_law_plan" s_q20 ad.a_q20 ad.d_q20
 b_q20:Binds K ad.d_q20 ["pot","most"] []
 k_q20:PySem.W.keepIn K (.ref ad.a_q20)=true
 m_q20:mg "_law_plan"=some (.ref ad.a_q20)
 F_q14:Fun K "_law_worded" "_law_worded" s_q14 ad.a_q14 ad.d_q14
 b_q14:Binds K ad.d_q14 ["pot","plan"] []
 k_q14:PySem.W.keepIn K (.ref ad.a_q14)=true
 m_q14:mg "_law_worded"=some (.ref ad.a_q14)
 F_q6:Fun K "_law_put_names" "_law_put_names" s_q6 ad.a_q6 ad.d_q6
 b_q6:Binds K ad.d_q6 ["rows","names"] []
 k_q6:PySem.W.keepIn K (.ref ad.a_q6)=true
 m_q6:mg "_law_put_names"=some (.ref ad.a_q6)
 F_q7:Fun K "_law_row_text" "_law_row_text" s_q7 ad.a_q7 ad.d_q7
 b_q7:Binds K ad.d_q7 ["row"] []
 k_q7:PySem.W.keepIn K (.ref ad.a_q7)=true
 m_q7:mg "_law_row_text"=some (.ref ad.a_q7)
 F_q2:Fun K "_law_rows_texts" "_law_rows_texts" s_q2 ad.a_q2 ad.d_q2
 b_q2:Binds K ad.d_q2 ["rows"] []
 k_q2:PySem.W.keepIn K (.ref ad.a_q2)=true
 m_q2:mg "_law_rows_texts"=some (.ref ad.a_q2)
 F_q3:Fun K "_law_plan_texts" "_law_plan_texts" s_q3 ad.a_q3 ad.d_q3
 b_q3:Binds K ad.d_q3 ["plan"] []
 k_q3:PySem.W.keepIn K (.ref ad.a_q3)=true
 m_q3:mg "_law_plan_texts"=some (.ref ad.a_q3)
 F_q19:Fun K "_law_alike" "_law_alike" s_q19 ad.a_q19 ad.d_q19
 b_q19:Binds K ad.d_q19 ["found","due"] []
 k_q19:PySem.W.keepIn K (.ref ad.a_q19)=true
 m_q19:mg "_law_alike"=some (.ref ad.a_q19)
 F_law:Fun K "law" "law" s_law ad.a_law ad.d_law
 b_law:Binds K ad.d_law ["script"] []
 k_law:PySem.W.keepIn K (.ref ad.a_law)=true
 m_law:mg "law"=some (.ref ad.a_law)
 g_LEAST_WHEEL:∃t,mg "LEAST_WHEEL"=some (.int 2 t)
 g_MOST_LETTERS:∃t,mg "MOST_LETTERS"=some (.int 8 t)
 g_MOST_NAMES:∃t,mg "MOST_NAMES"=some (.int 12 t)
 g_MOST_PIECES:∃t,mg "MOST_PIECES"=some (.int 40 t)
 g_MOST_ROWS:∃t,mg "MOST_ROWS"=some (.int 60 t)
 g_MOST_WHEEL:∃t,mg "MOST_WHEEL"=some (.int 997 t)
 g_MOST_WITHIN:∃t,mg "MOST_WITHIN"=some (.int 4 t)
 g_HEAD:ModTup K mg "HEAD" ad.g_HEAD [.str "wheel",.str "names",.str "pieces",.str "mark"]
 g_SIGNS:ModTab w K mg "SIGNS" ad.g_SIGNS tab_SIGNS
 g_WORDS:ModTab w K mg "WORDS" ad.g_WORDS tab_WORDS
 z_all:mg "all"=none
 z_bool:mg "bool"=none
 z_enumerate:mg "enumerate"=none
 z_int:mg "int"=none
 z_isinstance:mg "isinstance"=none
 z_len:mg "len"=none
 z_list:mg "list"=none
 z_min:mg "min"=none
 z_range:mg "range"=none
 z_set:mg "set"=none
 z_str:mg "str"=none
 z_tuple:mg "tuple"=none
 z_zip:mg "zip"=none
section
variable {P:Program}{w:World}{K:PySem.W.Frag}{mg:Str->Option Value}{base:Heap}{ad:Ad}
theorem ok_q13(En:En w K mg ad)  : FnOk P w K mg base (CXG P w) 1 ad.a_q13 ad.d_q13 ["text"] (liftSp K 1 (S_q13 ad)):=by
 refine fnD (k:=0) (T:=T_q13 ad) En.F_q13 sc_q13 fun cdv A outer s H E B EE hr ux=>?_;have hU:=hr.units;have hu:=hu_of hr;unfold T_q13
 exact (dss_cons (ds_if (DW.dt (dw_or (dt_cmp (op_eq' hU) (dnm 0) de_str (nomark _)) (dw_or1 (dt_not (dt_tru (de_callB (call_all' rfl) rfl En.z_all bt_all' (da_cons (de_frz (de_comp (ls:=["sign"]) (fs:=[]) (js:=[]) rfl (compOkZ rfl (by decide +kernel) (by decide +kernel)) (di_str (dnm 0)) (fun C' s₀ H₀ fp pl'=>⟨(dg_name (i:=0) (show List.Nodup [("sign":Str)] from (by decide +kernel)) rfl (Or.inl rfl)),dts_nil,(de_chain op_leS op_leS de_str (dnm 0) de_str)⟩))) da_nil))))))) (dss_one (ds_ret de_bl)) dss_nil)
  (dss_one (ds_ret (de_or (de_cmp (op_eq' hU) (dnm 0) de_str (nomark _)) (de_one (de_cmp (op_ne' hU) (de_ix (ix_all hu) (dnm 0) de_int (fun _ _=>rfl)) de_str (nomark _)))))))
theorem ok_q16(En:En w K mg ad)(G_q13:FnOk P w K mg base (CXG P w) 1 ad.a_q13 ad.d_q13 ["text"] (liftSp K 1 (S_q13 ad))):FnOk P w K mg base (CXG P w) 2 ad.a_q16 ad.d_q16 ["text","least","most"] (liftSp K 3 (S_q16 ad)):=by
 refine fnD (k:=1) (T:=T_q16 ad) En.F_q16 sc_q16 fun cdv A outer s H E B EE hr ux=>?_;have hU:=hr.units;have hu:=hu_of hr;unfold T_q16
 exact (dss_cons (ds_if (DW.dt (dw_or (dt_not (dt_tru (de_frz (de_call G_q13 (hr.mono (by decide)) rfl En.m_q13 En.k_q13 En.b_q13 passG ux (da_cons (dnm 0) da_nil))))) (dw_or1 (dt_cmp op_gt' (de_callB call_len' rfl En.z_len bt_len' (da_cons (dnm 0) da_nil)) (de_callB call_len' rfl En.z_len bt_len' (da_cons (de_callTy call_str' rfl En.z_str bt_str' (da_cons (dnm 2) da_nil)) da_nil)) (nomark _))))) (dss_one (ds_ret de_non)) dss_nil)
  (dss_cons (ds_set (i:=3) sc_q16.nd rfl (Or.inl rfl) (de_callTy call_intS rfl En.z_int bt_int' (da_cons (dnm 0) da_nil)))
  (dss_one (ds_ret (de_ifExp (dt_chain op_le' op_le' (dnm 1) (dnm 3) (dnm 2)) (dnm 3) de_non)))))
theorem ok_q31(En:En w K mg ad)  : FnOk P w K mg base (CXG P w) 1 ad.a_q31 ad.d_q31 ["thing"] (liftSp K 1 (S_q31 ad)):=by
 refine fnD (k:=0) (T:=T_q31 ad) En.F_q31 sc_q31 fun cdv A outer s H E B EE hr ux=>?_;have hU:=hr.units;have hu:=hu_of hr;unfold T_q31
 exact (dss_cons (ds_if (DW.dt (dw_or (dt_not (dt_tru (de_callB call_isinst' rfl En.z_isinstance bt_isinstance' (da_cons (dnm 0) (da_cons (de_ty rfl En.z_str bt_str') da_nil))))) (dw_or1 (dt_not (dt_chain op_le' op_le' de_int (de_callB call_len' rfl En.z_len bt_len' (da_cons (dnm 0) da_nil)) (de_glI rfl En.g_MOST_LETTERS)))))) (dss_one (ds_ret de_bl)) dss_nil)
  (dss_one (ds_ret (de_callB (call_all' rfl) rfl En.z_all bt_all' (da_cons (de_frz (de_comp (ls:=["sign"]) (fs:=[]) (js:=[]) rfl (compOkZ rfl (by decide +kernel) (by decide +kernel)) (di_str (dnm 0)) (fun C' s₀ H₀ fp pl'=>⟨(dg_name (i:=0) (show List.Nodup [("sign":Str)] from (by decide +kernel)) rfl (Or.inl rfl)),dts_nil,(de_chain op_leS op_leS de_str (dnm 0) de_str)⟩))) da_nil)))))
theorem ok_q22(En:En w K mg ad)(G_q31:FnOk P w K mg base (CXG P w) 1 ad.a_q31 ad.d_q31 ["thing"] (liftSp K 1 (S_q31 ad))):FnOk P w K mg base (CXG P w) 2 ad.a_q22 ad.d_q22 ["thing"] (liftSp K 1 (S_q22 ad)):=by
 refine fnD (k:=1) (T:=T_q22 ad) En.F_q22 sc_q22 fun cdv A outer s H E B EE hr ux=>?_;have hU:=hr.units;have hu:=hu_of hr;unfold T_q22
 exact (dss_cons (ds_if (DW.dt (dw_or (dt_not (dt_tru (de_callB call_isinst' rfl En.z_isinstance bt_isinstance' (da_cons (dnm 0) (da_cons (de_ty rfl En.z_tuple bt_tuple') da_nil))))) (dw_or1 (dt_not (dt_chain op_le' op_le' de_int (de_callB call_len' rfl En.z_len bt_len' (da_cons (dnm 0) da_nil)) (de_glI rfl En.g_MOST_NAMES)))))) (dss_one (ds_ret de_bl)) dss_nil)
  (dss_one (ds_ret (de_and (de_callB (call_all' rfl) rfl En.z_all bt_all' (da_cons (de_frz (de_comp (ls:=["part"]) (fs:=[]) (js:=[]) rfl (compOkZ rfl (by decide +kernel) (by decide +kernel)) (di_seq (dnm 0)) (fun C' s₀ H₀ fp pl'=>⟨(dg_name (i:=0) (show List.Nodup [("part":Str)] from (by decide +kernel)) rfl (Or.inl rfl)),dts_nil,(de_frz (de_call G_q31 (hr.mono (by decide)) rfl En.m_q31 En.k_q31 En.b_q31 pass00 uxN (da_cons (dnm 0) da_nil)))⟩))) da_nil)) (de_one (de_cmp (op_eq' hU) (de_lenSet rfl rfl En.z_set rfl En.z_len (da_cons (dnm 0) da_nil)) (de_callB call_len' rfl En.z_len bt_len' (da_cons (dnm 0) da_nil)) (nomark _)))))))
theorem ok_q8(En:En w K mg ad)  : FnOk P w K mg base (CXG P w) 1 ad.a_q8 ad.d_q8 ["row"] (liftSp K 1 (S_q8 ad)):=by
 refine fnD (k:=0) (T:=T_q8 ad) En.F_q8 sc_q8 fun cdv A outer s H E B EE hr ux=>?_;have hU:=hr.units;have hu:=hu_of hr;unfold T_q8;refine dss_cons ?_ ?_
 ·exact (ds_if (dt_cmp (op_eq' hU) (de_ix (ix_all hu) (dnm 0) de_int (fun _ _=>rfl)) de_str (nomark _)) (dss_one (ds_ret (de_callTy call_str' rfl En.z_str bt_str' (da_cons (de_ix (ix_all hu) (dnm 0) de_int (fun _ _=>rfl)) da_nil)))) dss_nil)
 refine dss_cons ?_ ?_
 ·exact (ds_if (dt_cmp (op_eq' hU) (de_ix (ix_all hu) (dnm 0) de_int (fun _ _=>rfl)) de_str (nomark _)) (dss_one (ds_ret (de_op op_add' de_str (de_callTy call_str' rfl En.z_str bt_str' (da_cons (de_ix (ix_all hu) (dnm 0) de_int (fun _ _=>rfl)) da_nil))))) dss_nil)
 refine dss_cons ?_ ?_
 ·exact (ds_if (dt_cmp (op_eq' hU) (de_ix (ix_all hu) (dnm 0) de_int (fun _ _=>rfl)) de_str (nomark _)) (dss_one (ds_ret (de_op op_add' de_str (de_ix (ix_all hu) (dnm 0) de_int (fun _ _=>rfl))))) dss_nil)
 refine dss_one ?_;refine ds_ret ?_;refine de_op ?_ ?_ ?_
 ·exact op_add'
 ·refine de_op ?_ ?_ ?_
  ·exact op_add'
  ·exact (de_frz (de_op op_add' (de_op op_add' (de_ix (ix_all hu) (dnm 0) de_int (fun _ _=>rfl)) de_str) (de_ix (ix_T En.g_SIGNS) (de_glT rfl En.g_SIGNS) (de_ix (ix_all hu) (dnm 0) de_int (fun _ _=>rfl)) (fun _ _=>rfl))))
  ·exact de_str
 ·exact (de_ix (ix_all hu) (dnm 0) de_int (fun _ _=>rfl))
theorem ok1_written(En:En w K mg ad)(G_q8:FnOk P w K mg base (CXG P w) 1 ad.a_q8 ad.d_q8 ["row"] (liftSp K 1 (S_q8 ad)))(n:Nat)(G_q30:FnOk P w K mg base (CXG P w) (1+n) ad.a_q30 ad.d_q30 ["rows"] (liftSp K 1 (S_q30 ad n))):FnOk P w K mg base (CXG P w) (1+n+1) ad.a_q30 ad.d_q30 ["rows"] (liftSp K 1 (S_q30 ad (n+1))):=by
 refine fnD (k:=1+n) (T:=T_q30 ad (S_q30 ad n)) En.F_q30 sc_q30 fun cdv A outer s H E B EE hr ux=>?_;have hU:=hr.units;have hu:=hu_of hr;unfold T_q30
 exact (dss_cons (ds_set (i:=1) sc_q30.nd rfl (Or.inl rfl) (de_lst da_nil))
  (dss_cons (ds_for PassesOwn.leaving rfl (di_seq (dnm 0)) (dg_name (i:=2) sc_q30.nd rfl (Or.inl rfl)) (dss_one (ds_if (dt_cmp (op_eq' hU) (de_ix (ix_all hu) (dnm 2) de_int (fun _ _=>rfl)) de_str (nomark _)) (dss_one (ds_expr (de_bm (Or.inl rfl) PySem.F.plainAttrs_list PySem.F.slot_list_extend PySem.F.type_list_extend mt_extend' (dnm 1) (da_cons (de_frz (de_op op_add' (de_frz (de_op op_add' (de_frz (de_op op_add' (de_frz (de_op op_add' (de_frz (de_lst (da_cons (de_op op_add' de_str (de_ix (ix_all hu) (dnm 2) de_int (fun _ _=>rfl))) da_nil))) (de_frz (de_call G_q30 (hr.mono (by lia)) rfl En.m_q30 En.k_q30 En.b_q30 passG ux (da_cons (de_ix (ix_all hu) (dnm 2) de_int (fun _ _=>rfl)) da_nil))))) (de_frz (de_lst (da_cons de_str da_nil))))) (de_frz (de_call G_q30 (hr.mono (by lia)) rfl En.m_q30 En.k_q30 En.b_q30 passG ux (da_cons (de_ix (ix_all hu) (dnm 2) de_int (fun _ _=>rfl)) da_nil))))) (de_frz (de_lst (da_cons de_str da_nil))))) da_nil)))) (dss_one (ds_if (dt_cmp (op_eq' hU) (de_ix (ix_all hu) (dnm 2) de_int (fun _ _=>rfl)) de_str (nomark _)) (dss_one (ds_expr (de_bm (Or.inl rfl) PySem.F.plainAttrs_list PySem.F.slot_list_extend PySem.F.type_list_extend mt_extend' (dnm 1) (da_cons (de_frz (de_op op_add' (de_frz (de_op op_add' (de_frz (de_lst (da_cons (de_op op_add' de_str (de_ix (ix_all hu) (dnm 2) de_int (fun _ _=>rfl))) da_nil))) (de_frz (de_call G_q30 (hr.mono (by lia)) rfl En.m_q30 En.k_q30 En.b_q30 passG ux (da_cons (de_ix (ix_all hu) (dnm 2) de_int (fun _ _=>rfl)) da_nil))))) (de_frz (de_lst (da_cons de_str da_nil))))) da_nil)))) (dss_one (ds_expr (de_bm (Or.inl rfl) PySem.F.plainAttrs_list PySem.F.slot_list_append PySem.F.type_list_append mt_append' (dnm 1) (da_cons (de_frz (de_op op_add' (de_op op_add' (de_ix (ix_all hu) (dnm 2) de_int (fun _ _=>rfl)) de_str) (de_frz (de_call G_q8 (hr.mono (by lia)) rfl En.m_q8 En.k_q8 En.b_q8 passG ux (da_cons (dnm 2) da_nil))))) da_nil)))))))))
  (dss_one (ds_ret (dnm 1)))))
theorem okS_written(En:En w K mg ad)(G_q8:FnOk P w K mg base (CXG P w) 1 ad.a_q8 ad.d_q8 ["row"] (liftSp K 1 (S_q8 ad))):∀n:Nat,FnOk P w K mg base (CXG P w) (1+n) ad.a_q30 ad.d_q30 ["rows"] (liftSp K 1 (S_q30 ad n))
 |0=>fnNone
 |n+1=>ok1_written En G_q8 n (okS_written En G_q8 n)
theorem ok_q21(En:En w K mg ad)(G_q30:FnOk P w K mg base (CXG P w) 25 ad.a_q30 ad.d_q30 ["rows"] (liftSp K 1 (S_q30 ad 24))):FnOk P w K mg base (CXG P w) 26 ad.a_q21 ad.d_q21 ["plan"] (liftSp K 1 (S_q21 ad)):=by
 refine fnD (k:=25) (T:=T_q21 ad) En.F_q21 sc_q21 fun cdv A outer s H E B EE hr ux=>?_;have hU:=hr.units;have hu:=hu_of hr;unfold T_q21
 exact (dss_cons (ds_set (i:=1) sc_q21.nd rfl (Or.inl rfl) (de_frz (de_lst (da_cons (de_op op_add' de_str (de_callTy call_str' rfl En.z_str bt_str' (da_cons (de_ix (ix_all hu) (dnm 0) de_int (fun _ _=>rfl)) da_nil))) (da_cons (de_op op_add' de_str (de_bm (Or.inr (Or.inl rfl)) PySem.F.plainAttrs_str PySem.F.slot_str_join PySem.F.type_str_join mt_join' de_str (da_cons (de_ix (ix_all hu) (dnm 0) de_int (fun _ _=>rfl)) da_nil))) (da_cons (de_op op_add' de_str (de_callTy call_str' rfl En.z_str bt_str' (da_cons (de_ix (ix_all hu) (dnm 0) de_int (fun _ _=>rfl)) da_nil))) (da_cons (de_op op_add' de_str (de_ix (ix_all hu) (dnm 0) de_int (fun _ _=>rfl))) da_nil)))))))
  (dss_one (ds_ret (de_op op_add' (dnm 1) (de_frz (de_call G_q30 (hr.mono (by decide)) rfl En.m_q30 En.k_q30 En.b_q30 passG ux (da_cons (de_ix (ix_all hu) (dnm 0) de_int (fun _ _=>rfl)) da_nil)))))))
theorem ok_q5(En:En w K mg ad)  : FnOk P w K mg base (CXG P w) 1 ad.a_q5 ad.d_q5 ["self","word","x"] (liftSp K 3 (S_q5 ad)):=by
 refine fnD (k:=0) (T:=T_q5 ad) En.F_q5 sc_q5 fun cdv A outer s H E B EE hr ux=>?_;have hU:=hr.units;have hu:=hu_of hr;unfold T_q5
 exact (dss_cons (ds_fld En.c_Block En.n_Block_word (dnm 0) (dnm 1))
  (dss_cons (ds_fld En.c_Block En.n_Block_x (dnm 0) (dnm 2))
  (dss_cons (ds_fld En.c_Block En.n_Block_first (dnm 0) de_non)
  (dss_one (ds_fld En.c_Block En.n_Block_rows (dnm 0) (de_lst da_nil))))))
theorem ok_q1(En:En w K mg ad)(G_q5:FnOk P w K mg base (CXG P w) 1 ad.a_q5 ad.d_q5 ["self","word","x"] (liftSp K 3 (S_q5 ad))):FnOk P w K mg base (CXG P w) 3 ad.a_q1 ad.d_q1 ["self"] (liftSp K 1 (S_q1 ad)):=by
 refine fnD (k:=2) (T:=T_q1 ad) En.F_q1 sc_q1 fun cdv A outer s H E B EE hr ux=>?_;have hU:=hr.units;have hu:=hu_of hr;unfold T_q1
 exact (dss_cons (ds_fld En.c_Reading En.n_Reading_head (dnm 0) (de_lst da_nil))
  (dss_cons (ds_fld En.c_Reading En.n_Reading_blocks (dnm 0) (de_lst (da_cons (de_make En.mk_Block G_q5 (hr.mono (by decide)) rfl En.mC_Block En.b_q5 passG ux (da_cons de_str (da_cons de_str da_nil))) da_nil)))
  (dss_one (ds_fld En.c_Reading En.n_Reading_count (dnm 0) de_int))))
theorem ok_q9(En:En w K mg ad)  : FnOk P w K mg base (CXG P w) 1 ad.a_q9 ad.d_q9 ["self"] (liftSp K 1 (S_q9 ad)):=by
 refine fnD (k:=0) (T:=T_q9 ad) En.F_q9 sc_q9 fun cdv A outer s H E B EE hr ux=>?_;have hU:=hr.units;have hu:=hu_of hr;unfold T_q9
 exact (dss_cons (ds_set (i:=1) sc_q9.nd rfl (Or.inl rfl) (de_bm0 (Or.inl rfl) PySem.F.plainAttrs_list PySem.F.slot_list_pop PySem.F.type_list_pop mt_pop' (de_fld En.c_Reading En.n_Reading_blocks (dnm 0)) ))
  (dss_cons (ds_if (DW.dt (dw_or (dt_cmp (op_eq' hU) (de_fld En.c_Block En.n_Block_word (dnm 1)) de_str (nomark _)) (dw_or1 (DW.dt (dw_and (dt_cmp (op_eq' hU) (de_fld En.c_Block En.n_Block_word (dnm 1)) de_str (nomark _)) (dw_and1 (dt_cmp op_isN' (de_fld En.c_Block En.n_Block_first (dnm 1)) de_non (nomark _)))))))) (dss_one (ds_ret de_bl)) dss_nil)
  (dss_cons (ds_set (i:=2) sc_q9.nd rfl (Or.inl rfl) (de_ifExp (dt_cmp op_isN' (de_fld En.c_Block En.n_Block_first (dnm 1)) de_non (nomark _)) (de_tup da_nil) (de_tup (da_cons (de_fld En.c_Block En.n_Block_first (dnm 1)) da_nil))))
  (dss_cons (ds_expr (de_bm (Or.inl rfl) PySem.F.plainAttrs_list PySem.F.slot_list_append PySem.F.type_list_append mt_append' (de_fld En.c_Block En.n_Block_rows (de_ix (ix_all hu) (de_fld En.c_Reading En.n_Reading_blocks (dnm 0)) (de_neg de_int) (fun _ _=>rfl))) (da_cons (de_op op_add' (de_op op_add' (de_tup (da_cons (de_fld En.c_Block En.n_Block_word (dnm 1)) (da_cons (de_fld En.c_Block En.n_Block_x (dnm 1)) da_nil))) (dnm 2)) (de_tup (da_cons (de_callTy call_tuple' rfl En.z_tuple bt_tuple' (da_cons (de_fld En.c_Block En.n_Block_rows (dnm 1)) da_nil)) da_nil))) da_nil)))
  (dss_one (ds_ret de_bl))))))
theorem ok_q28(En:En w K mg ad)  : FnOk P w K mg base (CXG P w) 1 ad.a_q28 ad.d_q28 ["word","x","part"] (liftSp K 3 (S_q28 ad)):=by
 refine fnD (k:=0) (T:=T_q28 ad) En.F_q28 sc_q28 fun cdv A outer s H E B EE hr ux=>?_;have hU:=hr.units;have hu:=hu_of hr;unfold T_q28;exact (dss_one (ds_ret (de_ifExp (dt_cmp op_isN' (dnm 2) de_non (nomark _)) de_non (de_tup (da_cons (dnm 0) (da_cons (dnm 1) (da_cons (dnm 2) da_nil)))))))
theorem ok_q15(En:En w K mg ad)(G_q16:FnOk P w K mg base (CXG P w) 2 ad.a_q16 ad.d_q16 ["text","least","most"] (liftSp K 3 (S_q16 ad)))(G_q28:FnOk P w K mg base (CXG P w) 1 ad.a_q28 ad.d_q28 ["word","x","part"] (liftSp K 3 (S_q28 ad))):FnOk P w K mg base (CXG P w) 3 ad.a_q15 ad.d_q15 ["head","words"] (liftSp K 2 (S_q15 ad)):=by
 refine fnD (k:=2) (T:=T_q15 ad) En.F_q15 sc_q15 fun cdv A outer s H E B EE hr ux=>?_;have hU:=hr.units;have hu:=hu_of hr;unfold T_q15
 exact (dss_cons (ds_if (DW.dt (dw_or (dt_cmp op_lt' (de_callB call_len' rfl En.z_len bt_len' (da_cons (dnm 1) da_nil)) de_int (nomark _)) (dw_or (dt_cmp (op_notIn' hU) (de_ix (ix_all hu) (dnm 1) de_int (fun _ _=>rfl)) (de_ix (ix_all hu) (dnm 0) de_int (fun _ _=>rfl)) (by rfl)) (dw_or1 (dt_cmp (op_ne' hU) (de_ix (ix_all hu) (dnm 1) de_int (fun _ _=>rfl)) de_str (nomark _)))))) (dss_one (ds_ret de_non)) dss_nil)
  (dss_cons (ds_set (i:=2) sc_q15.nd rfl (Or.inl rfl) (de_ix (ix_all hu) (dnm 1) de_int (fun _ _=>rfl)))
  (dss_cons (ds_if (dt_cmp (op_eq' hU) (de_callB call_len' rfl En.z_len bt_len' (da_cons (dnm 1) da_nil)) de_int (nomark _)) (dss_one (ds_ret (de_call G_q28 (hr.mono (by decide)) rfl En.m_q28 En.k_q28 En.b_q28 passG ux (da_cons de_str (da_cons (dnm 2) (da_cons (de_frz (de_call G_q16 (hr.mono (by decide)) rfl En.m_q16 En.k_q16 En.b_q16 passG ux (da_cons (de_ix (ix_all hu) (dnm 1) de_int (fun _ _=>rfl)) (da_cons de_int (da_cons (de_op op_sub' (de_ix (ix_all hu) (dnm 0) de_int (fun _ _=>rfl)) de_int) da_nil))))) da_nil)))))) dss_nil)
  (dss_cons (ds_if (DW.dt (dw_and (dt_cmp (op_eq' hU) (de_callB call_len' rfl En.z_len bt_len' (da_cons (dnm 1) da_nil)) de_int (nomark _)) (dw_and1 (dt_cmp (op_eq' hU) (de_ix (ix_all hu) (dnm 1) de_int (fun _ _=>rfl)) de_str (nomark _))))) (dss_one (ds_ret (de_call G_q28 (hr.mono (by decide)) rfl En.m_q28 En.k_q28 En.b_q28 passG ux (da_cons de_str (da_cons (dnm 2) (da_cons (de_frz (de_call G_q16 (hr.mono (by decide)) rfl En.m_q16 En.k_q16 En.b_q16 passG ux (da_cons (de_ix (ix_all hu) (dnm 1) de_int (fun _ _=>rfl)) (da_cons de_int (da_cons (de_op op_sub' (de_ix (ix_all hu) (dnm 0) de_int (fun _ _=>rfl)) de_int) da_nil))))) da_nil)))))) dss_nil)
  (dss_cons (ds_if (DW.dt (dw_and (dt_cmp (op_eq' hU) (de_callB call_len' rfl En.z_len bt_len' (da_cons (dnm 1) da_nil)) de_int (nomark _)) (dw_and (dt_cmp (op_eq' hU) (de_ix (ix_all hu) (dnm 1) de_int (fun _ _=>rfl)) de_str (nomark _)) (dw_and1 (dt_cmp (op_ne' hU) (de_ix (ix_all hu) (dnm 0) de_int (fun _ _=>rfl)) de_int (nomark _)))))) (dss_one (ds_ret (de_call G_q28 (hr.mono (by decide)) rfl En.m_q28 En.k_q28 En.b_q28 passG ux (da_cons de_str (da_cons (dnm 2) (da_cons (de_ifExp (dt_cmp (op_in' hU) (de_ix (ix_all hu) (dnm 1) de_int (fun _ _=>rfl)) (de_ix (ix_all hu) (dnm 0) de_int (fun _ _=>rfl)) (by rfl)) (de_ix (ix_all hu) (dnm 1) de_int (fun _ _=>rfl)) de_non) da_nil)))))) dss_nil)
  (dss_cons (ds_if (DW.dt (dw_and (dt_cmp (op_eq' hU) (de_callB call_len' rfl En.z_len bt_len' (da_cons (dnm 1) da_nil)) de_int (nomark _)) (dw_and (dt_cmp (op_in' hU) (de_ix (ix_all hu) (dnm 1) de_int (fun _ _=>rfl)) (de_ix (ix_all hu) (dnm 0) de_int (fun _ _=>rfl)) (by rfl)) (dw_and (dt_cmp (op_inT En.g_WORDS) (de_ix (ix_all hu) (dnm 1) de_int (fun _ _=>rfl)) (de_glT rfl En.g_WORDS) (by rfl)) (dw_and1 (dt_cmp (op_in' hU) (de_ix (ix_all hu) (dnm 1) de_int (fun _ _=>rfl)) (de_ix (ix_all hu) (dnm 0) de_int (fun _ _=>rfl)) (by rfl))))))) (dss_one (ds_ret (de_tup (da_cons (de_ix (ix_T En.g_WORDS) (de_glT rfl En.g_WORDS) (de_ix (ix_all hu) (dnm 1) de_int (fun _ _=>rfl)) (fun _ _=>rfl)) (da_cons (dnm 2) (da_cons (de_ix (ix_all hu) (dnm 1) de_int (fun _ _=>rfl)) (da_cons (de_ix (ix_all hu) (dnm 1) de_int (fun _ _=>rfl)) da_nil))))))) dss_nil)
  (dss_one (ds_ret de_non))))))))
theorem ok_q0(En:En w K mg ad)(G_q5:FnOk P w K mg base (CXG P w) 1 ad.a_q5 ad.d_q5 ["self","word","x"] (liftSp K 3 (S_q5 ad)))(G_q15:FnOk P w K mg base (CXG P w) 3 ad.a_q15 ad.d_q15 ["head","words"] (liftSp K 2 (S_q15 ad))):FnOk P w K mg base (CXG P w) 4 ad.a_q0 ad.d_q0 ["self","words"] (liftSp K 2 (S_q0 ad)):=by
 refine fnD (k:=3) (T:=T_q0 ad) En.F_q0 sc_q0 fun cdv A outer s H E B EE hr ux=>?_;have hU:=hr.units;have hu:=hu_of hr;unfold T_q0
 exact (dss_cons (ds_fldAdd En.c_Reading En.n_Reading_count (dnm 0) de_int)
  (dss_cons (ds_if (dt_cmp op_gt' (de_fld En.c_Reading En.n_Reading_count (dnm 0)) (de_glI rfl En.g_MOST_ROWS) (nomark _)) (dss_one (ds_ret de_bl)) dss_nil)
  (dss_cons (ds_if (dt_cmp (op_eq' hU) (de_callB call_len' rfl En.z_len bt_len' (da_cons (dnm 1) da_nil)) de_int (nomark _)) (dss_cons (ds_expr (de_bm (Or.inl rfl) PySem.F.plainAttrs_list PySem.F.slot_list_append PySem.F.type_list_append mt_append' (de_fld En.c_Reading En.n_Reading_blocks (dnm 0)) (da_cons (de_make En.mk_Block G_q5 (hr.mono (by decide)) rfl En.mC_Block En.b_q5 passG ux (da_cons (de_ix (ix_all hu) (dnm 1) de_int (fun _ _=>rfl)) (da_cons (de_ix (ix_all hu) (dnm 1) de_int (fun _ _=>rfl)) da_nil))) da_nil)))
   (dss_one (ds_ret (de_and (de_cmp (op_in' hU) (de_ix (ix_all hu) (dnm 1) de_int (fun _ _=>rfl)) (de_tup (da_cons de_str (da_cons de_str da_nil))) (by rfl)) (de_and (de_cmp (op_in' hU) (de_ix (ix_all hu) (dnm 1) de_int (fun _ _=>rfl)) (de_ix (ix_all hu) (de_fld En.c_Reading En.n_Reading_head (dnm 0)) de_int (fun _ _=>rfl)) (by rfl)) (de_one (de_cmp op_le' (de_op op_sub' (de_callB call_len' rfl En.z_len bt_len' (da_cons (de_fld En.c_Reading En.n_Reading_blocks (dnm 0)) da_nil)) de_int) (de_glI rfl En.g_MOST_WITHIN) (nomark _)))))))) dss_nil)
  (dss_cons (ds_set (i:=2) sc_q0.nd rfl (Or.inl rfl) (de_frz (de_call G_q15 (hr.mono (by decide)) rfl En.m_q15 En.k_q15 En.b_q15 passG ux (da_cons (de_fld En.c_Reading En.n_Reading_head (dnm 0)) (da_cons (dnm 1) da_nil)))))
  (dss_cons (ds_expr (de_bm (Or.inl rfl) PySem.F.plainAttrs_list PySem.F.slot_list_append PySem.F.type_list_append mt_append' (de_fld En.c_Block En.n_Block_rows (de_ix (ix_all hu) (de_fld En.c_Reading En.n_Reading_blocks (dnm 0)) (de_neg de_int) (fun _ _=>rfl))) (da_cons (dnm 2) da_nil)))
  (dss_one (ds_ret (de_cmp op_notN' (dnm 2) de_non (nomark _)))))))))
theorem ok_q10(En:En w K mg ad)  : FnOk P w K mg base (CXG P w) 1 ad.a_q10 ad.d_q10 ["self"] (liftSp K 1 (S_q10 ad)):=by
 refine fnD (k:=0) (T:=T_q10 ad) En.F_q10 sc_q10 fun cdv A outer s H E B EE hr ux=>?_;have hU:=hr.units;have hu:=hu_of hr;unfold T_q10
 exact (dss_cons (ds_set (i:=1) sc_q10.nd rfl (Or.inl rfl) (de_ix (ix_all hu) (de_fld En.c_Reading En.n_Reading_blocks (dnm 0)) (de_neg de_int) (fun _ _=>rfl)))
  (dss_cons (ds_if (DW.dt (dw_or (dt_cmp (op_ne' hU) (de_fld En.c_Block En.n_Block_word (dnm 1)) de_str (nomark _)) (dw_or1 (dt_cmp op_notN' (de_fld En.c_Block En.n_Block_first (dnm 1)) de_non (nomark _))))) (dss_one (ds_ret de_bl)) dss_nil)
  (dss_cons (ds_fld En.c_Block En.n_Block_first (dnm 1) (de_callTy call_tuple' rfl En.z_tuple bt_tuple' (da_cons (de_fld En.c_Block En.n_Block_rows (dnm 1)) da_nil)))
  (dss_cons (ds_fld En.c_Block En.n_Block_rows (dnm 1) (de_lst da_nil))
  (dss_one (ds_ret de_bl))))))
theorem ok_q26(En:En w K mg ad)(G_q22:FnOk P w K mg base (CXG P w) 2 ad.a_q22 ad.d_q22 ["thing"] (liftSp K 1 (S_q22 ad)))(G_q16:FnOk P w K mg base (CXG P w) 2 ad.a_q16 ad.d_q16 ["text","least","most"] (liftSp K 3 (S_q16 ad))):FnOk P w K mg base (CXG P w) 3 ad.a_q26 ad.d_q26 ["head","words"] (liftSp K 2 (S_q26 ad)):=by
 refine fnD (k:=2) (T:=T_q26 ad) En.F_q26 sc_q26 fun cdv A outer s H E B EE hr ux=>?_;have hU:=hr.units;have hu:=hu_of hr;unfold T_q26
 exact (dss_cons (ds_if (dt_cmp (op_ne' hU) (de_ix (ix_all hu) (dnm 1) de_int (fun _ _=>rfl)) (de_ix (ix_all hu) (de_glM rfl En.g_HEAD) (de_callB call_len' rfl En.z_len bt_len' (da_cons (dnm 0) da_nil)) (fun _ _=>rfl)) (nomark _)) (dss_one (ds_ret de_non)) dss_nil)
  (dss_cons (ds_if (dt_cmp (op_eq' hU) (de_ix (ix_all hu) (dnm 1) de_int (fun _ _=>rfl)) de_str (nomark _)) (dss_one (ds_ret (de_ifExp (dt_tru (de_frz (de_call G_q22 (hr.mono (by decide)) rfl En.m_q22 En.k_q22 En.b_q22 passG ux (da_cons (de_callTy call_tuple' rfl En.z_tuple bt_tuple' (da_cons (de_frz (de_slice (dnm 1) (do_some de_int) do_none)) da_nil)) da_nil)))) (de_callTy call_tuple' rfl En.z_tuple bt_tuple' (da_cons (de_frz (de_slice (dnm 1) (do_some de_int) do_none)) da_nil)) de_non))) dss_nil)
  (dss_cons (ds_if (dt_cmp (op_ne' hU) (de_callB call_len' rfl En.z_len bt_len' (da_cons (dnm 1) da_nil)) de_int (nomark _)) (dss_one (ds_ret de_non)) dss_nil)
  (dss_cons (ds_if (dt_cmp (op_eq' hU) (de_ix (ix_all hu) (dnm 1) de_int (fun _ _=>rfl)) de_str (nomark _)) (dss_one (ds_ret (de_call G_q16 (hr.mono (by decide)) rfl En.m_q16 En.k_q16 En.b_q16 passG ux (da_cons (de_ix (ix_all hu) (dnm 1) de_int (fun _ _=>rfl)) (da_cons (de_glI rfl En.g_LEAST_WHEEL) (da_cons (de_glI rfl En.g_MOST_WHEEL) da_nil)))))) dss_nil)
  (dss_cons (ds_if (dt_cmp (op_eq' hU) (de_ix (ix_all hu) (dnm 1) de_int (fun _ _=>rfl)) de_str (nomark _)) (dss_one (ds_ret (de_call G_q16 (hr.mono (by decide)) rfl En.m_q16 En.k_q16 En.b_q16 passG ux (da_cons (de_ix (ix_all hu) (dnm 1) de_int (fun _ _=>rfl)) (da_cons de_int (da_cons (de_glI rfl En.g_MOST_PIECES) da_nil)))))) dss_nil)
  (dss_one (ds_ret (de_ifExp (dt_cmp (op_in' hU) (de_ix (ix_all hu) (dnm 1) de_int (fun _ _=>rfl)) (de_ix (ix_all hu) (dnm 0) de_int (fun _ _=>rfl)) (by rfl)) (de_ix (ix_all hu) (dnm 1) de_int (fun _ _=>rfl)) de_non))))))))
theorem ok_q11(En:En w K mg ad)(G_q9:FnOk P w K mg base (CXG P w) 1 ad.a_q9 ad.d_q9 ["self"] (liftSp K 1 (S_q9 ad)))(G_q0:FnOk P w K mg base (CXG P w) 4 ad.a_q0 ad.d_q0 ["self","words"] (liftSp K 2 (S_q0 ad)))(G_q10:FnOk P w K mg base (CXG P w) 1 ad.a_q10 ad.d_q10 ["self"] (liftSp K 1 (S_q10 ad)))(G_q26:FnOk P w K mg base (CXG P w) 3 ad.a_q26 ad.d_q26 ["head","words"] (liftSp K 2 (S_q26 ad))):FnOk P w K mg base (CXG P w) 5 ad.a_q11 ad.d_q11 ["self","text"] (liftSp K 2 (S_q11 ad)):=by
 refine fnD (k:=4) (T:=T_q11 ad) En.F_q11 sc_q11 fun cdv A outer s H E B EE hr ux=>?_;have hU:=hr.units;have hu:=hu_of hr;unfold T_q11
 exact (dss_cons (ds_set (i:=2) sc_q11.nd rfl (Or.inl rfl) (de_frz (de_bm (Or.inr (Or.inl rfl)) PySem.F.plainAttrs_str PySem.F.slot_str_split PySem.F.type_str_split mt_split' (dnm 1) (da_cons de_str da_nil))))
  (dss_cons (ds_if (dt_cmp op_lt' (de_callB call_len' rfl En.z_len bt_len' (da_cons (de_fld En.c_Reading En.n_Reading_head (dnm 0)) da_nil)) (de_callB call_len' rfl En.z_len bt_len' (da_cons (de_glM rfl En.g_HEAD) da_nil)) (nomark _)) (dss_cons (ds_set (i:=3) sc_q11.nd rfl (Or.inl rfl) (de_frz (de_call G_q26 (hr.mono (by decide)) rfl En.m_q26 En.k_q26 En.b_q26 passG ux (da_cons (de_fld En.c_Reading En.n_Reading_head (dnm 0)) (da_cons (dnm 2) da_nil)))))
   (dss_cons (ds_expr (de_bm (Or.inl rfl) PySem.F.plainAttrs_list PySem.F.slot_list_append PySem.F.type_list_append mt_append' (de_fld En.c_Reading En.n_Reading_head (dnm 0)) (da_cons (dnm 3) da_nil)))
   (dss_one (ds_ret (de_cmp op_notN' (dnm 3) de_non (nomark _)))))) dss_nil)
  (dss_cons (ds_if (dt_cmp (op_eq' hU) (dnm 2) (de_frz (de_lst (da_cons de_str da_nil))) (nomark _)) (dss_one (ds_ret (de_meth0 (dnm 0) En.c_Reading En.me_q10 G_q10 (hr.mono (by decide)) En.b_q10 passG ux ))) dss_nil)
  (dss_cons (ds_if (dt_cmp (op_eq' hU) (dnm 2) (de_frz (de_lst (da_cons de_str da_nil))) (nomark _)) (dss_one (ds_ret (de_meth0 (dnm 0) En.c_Reading En.me_q9 G_q9 (hr.mono (by decide)) En.b_q9 passG ux ))) dss_nil)
  (dss_one (ds_ret (de_meth (dnm 0) En.c_Reading En.me_q0 G_q0 (hr.mono (by decide)) En.b_q0 passG ux (da_cons (dnm 2) da_nil))))))))
theorem ok_q4(En:En w K mg ad)  : FnOk P w K mg base (CXG P w) 1 ad.a_q4 ad.d_q4 ["self"] (liftSp K 1 (S_q4 ad)):=by
 refine fnD (k:=0) (T:=T_q4 ad) En.F_q4 sc_q4 fun cdv A outer s H E B EE hr ux=>?_;have hU:=hr.units;have hu:=hu_of hr;unfold T_q4;exact (dss_one (ds_ret (de_and (de_cmp (op_eq' hU) (de_callB call_len' rfl En.z_len bt_len' (da_cons (de_fld En.c_Reading En.n_Reading_head (dnm 0)) da_nil)) (de_callB call_len' rfl En.z_len bt_len' (da_cons (de_glM rfl En.g_HEAD) da_nil)) (nomark _)) (de_one (de_cmp (op_eq' hU) (de_callB call_len' rfl En.z_len bt_len' (da_cons (de_fld En.c_Reading En.n_Reading_blocks (dnm 0)) da_nil)) de_int (nomark _))))))
theorem ok_q25(En:En w K mg ad)(G_q1:FnOk P w K mg base (CXG P w) 3 ad.a_q1 ad.d_q1 ["self"] (liftSp K 1 (S_q1 ad)))(G_q4:FnOk P w K mg base (CXG P w) 1 ad.a_q4 ad.d_q4 ["self"] (liftSp K 1 (S_q4 ad)))(G_q11:FnOk P w K mg base (CXG P w) 5 ad.a_q11 ad.d_q11 ["self","text"] (liftSp K 2 (S_q11 ad))):FnOk P w K mg base (CXG P w) 6 ad.a_q25 ad.d_q25 ["rows"] (liftSp K 1 (S_q25 ad)):=by
 refine fnD (k:=5) (T:=T_q25 ad) En.F_q25 sc_q25 fun cdv A outer s H E B EE hr ux=>?_;have hU:=hr.units;have hu:=hu_of hr;unfold T_q25
 exact (dss_cons (ds_set (i:=1) sc_q25.nd rfl (Or.inl rfl) (de_make0 En.mk_Reading G_q1 (hr.mono (by decide)) rfl En.mC_Reading En.b_q1 passG ux))
  (dss_cons (ds_for PassesOwn.leaving rfl (di_enum rfl En.z_enumerate (da_cons (dnm 0) da_nil)) (dg_tup (n:=2) rfl (dgs_cons (dg_name (i:=2) sc_q25.nd rfl (Or.inl rfl)) (dgs_cons (dg_name (i:=3) sc_q25.nd rfl (Or.inl rfl)) dgs_nil))) (dss_one (ds_if (dt_not (dt_tru (de_frz (de_meth (dnm 1) En.c_Reading En.me_q11 G_q11 (hr.mono (by decide)) En.b_q11 passG ux (da_cons (dnm 3) da_nil))))) (dss_one ds_fail) dss_nil)))
  (dss_cons (ds_if (dt_not (dt_tru (de_frz (de_meth0 (dnm 1) En.c_Reading En.me_q4 G_q4 (hr.mono (by decide)) En.b_q4 passG ux )))) (dss_one ds_fail) dss_nil)
  (dss_cons (ds_set (i:=4) sc_q25.nd rfl (Or.inl rfl) (de_fld En.c_Reading En.n_Reading_head (dnm 1)))
  (dss_one (ds_ret (de_tup (da_cons (de_ix (ix_all hu) (dnm 4) de_int (fun _ _=>rfl)) (da_cons (de_ix (ix_all hu) (dnm 4) de_int (fun _ _=>rfl)) (da_cons (de_ix (ix_all hu) (dnm 4) de_int (fun _ _=>rfl)) (da_cons (de_callTy call_tuple' rfl En.z_tuple bt_tuple' (da_cons (de_fld En.c_Block En.n_Block_rows (de_ix (ix_all hu) (de_fld En.c_Reading En.n_Reading_blocks (dnm 1)) de_int (fun _ _=>rfl))) da_nil)) (da_cons (de_ix (ix_all hu) (dnm 4) de_int (fun _ _=>rfl)) da_nil))))))))))))
theorem ok_q12(En:En w K mg ad)  : FnOk P w K mg base (CXG P w) 1 ad.a_q12 ad.d_q12 ["cell","turn"] (liftSp K 2 (S_q12 ad)):=by
 refine fnD (k:=0) (T:=T_q12 ad) En.F_q12 sc_q12 fun cdv A outer s H E B EE hr ux=>?_;have hU:=hr.units;have hu:=hu_of hr;unfold T_q12
 exact (dss_cons (ds_set (i:=2) sc_q12.nd rfl (Or.inl rfl) (de_op op_mod' (de_op op_add' (de_op op_add' (de_op op_mul' (dnm 0) de_int) (de_op op_mul' (dnm 1) de_int)) de_int) de_int))
  (dss_cons (ds_set (i:=2) sc_q12.nd rfl (Or.inl rfl) (de_op op_mod' (de_op op_mul' (de_op op_xor' (dnm 2) (de_op op_fdiv' (dnm 2) de_int)) de_int) de_int))
  (dss_one (ds_ret (de_op op_fdiv' (dnm 2) de_int)))))
theorem ok_q27(En:En w K mg ad)  : FnOk P w K mg base (CXG P w) 1 ad.a_q27 ad.d_q27 ["script"] (liftSp K 1 (S_q27 ad)):=by
 refine fnD (k:=0) (T:=T_q27 ad) En.F_q27 sc_q27 fun cdv A outer s H E B EE hr ux=>?_;have hU:=hr.units;have hu:=hu_of hr;unfold T_q27
 exact (dss_cons (ds_set (i:=1) sc_q27.nd rfl (Or.inl rfl) de_int)
  (dss_cons (ds_for PassesOwn.leaving rfl (di_seq (de_frz (de_slice (dnm 0) do_none (do_some de_int)))) (dg_name (i:=2) sc_q27.nd rfl (Or.inl rfl)) (dss_one (ds_set (i:=1) sc_q27.nd rfl (Or.inl rfl) (de_op op_mod' (de_op op_add' (de_op op_mul' (dnm 1) de_int) (dnm 2)) de_int))))
  (dss_one (ds_ret (de_lst (da_cons (de_callTy call_list' rfl En.z_list bt_list' (da_cons (de_frz (de_slice (dnm 0) do_none (do_some de_int))) da_nil)) (da_cons de_int (da_cons de_int (da_cons (dnm 1) da_nil)))))))))
theorem ok_q24(En:En w K mg ad)(G_q12:FnOk P w K mg base (CXG P w) 1 ad.a_q12 ad.d_q12 ["cell","turn"] (liftSp K 2 (S_q12 ad))):FnOk P w K mg base (CXG P w) 2 ad.a_q24 ad.d_q24 ["pot","many"] (liftSp K 2 (S_q24 ad)):=by
 refine fnD (k:=1) (T:=T_q24 ad) En.F_q24 sc_q24 fun cdv A outer s H E B EE hr ux=>?_;have hU:=hr.units;have hu:=hu_of hr;unfold T_q24
 exact (dss_cons (ds_asg (de_op op_add' (de_ix (ix_all hu) (dnm 0) de_int (fun _ _=>rfl)) de_int) (dg_sub hu (dnm 0) de_int))
  (dss_cons (ds_if (DW.dt (dw_and (dt_cmp (op_eq' hU) (de_ix (ix_all hu) (dnm 0) de_int (fun _ _=>rfl)) de_int (nomark _)) (dw_and1 (dt_cmp (op_ne' hU) (de_ix (ix_all hu) (dnm 0) de_int (fun _ _=>rfl)) (de_frz (de_lst da_nil)) (nomark _))))) (dss_cons (ds_set (i:=2) sc_q24.nd rfl (Or.inl rfl) (de_bm (Or.inl rfl) PySem.F.plainAttrs_list PySem.F.slot_list_pop PySem.F.type_list_pop mt_pop' (de_ix (ix_all hu) (dnm 0) de_int (fun _ _=>rfl)) (da_cons de_int da_nil)))
   (dss_cons (ds_if (dt_cmp op_lt' (dnm 2) (de_op op_pow' de_int de_int) (nomark _)) (dss_one (ds_ret (de_op op_mod' (de_frz (de_call G_q12 (hr.mono (by decide)) rfl En.m_q12 En.k_q12 En.b_q12 passG ux (da_cons (dnm 2) (da_cons (de_ix (ix_all hu) (dnm 0) de_int (fun _ _=>rfl)) da_nil)))) (dnm 1)))) dss_nil)
   (dss_one (ds_asg (dnm 2) (dg_sub hu (dnm 0) de_int))))) dss_nil)
  (dss_cons (ds_if (dt_cmp (op_eq' hU) (de_ix (ix_all hu) (dnm 0) de_int (fun _ _=>rfl)) de_int (nomark _)) (dss_one (ds_ret (de_op op_mod' (de_frz (de_call G_q12 (hr.mono (by decide)) rfl En.m_q12 En.k_q12 En.b_q12 passG ux (da_cons (de_ix (ix_all hu) (dnm 0) de_int (fun _ _=>rfl)) (da_cons (de_ix (ix_all hu) (dnm 0) de_int (fun _ _=>rfl)) da_nil)))) (dnm 1)))) dss_nil)
  (dss_cons (ds_set (i:=3) sc_q24.nd rfl (Or.inl rfl) (de_op op_mod' (de_ix (ix_all hu) (dnm 0) de_int (fun _ _=>rfl)) (dnm 1)))
  (dss_cons (ds_asg (de_op op_fdiv' (de_ix (ix_all hu) (dnm 0) de_int (fun _ _=>rfl)) (dnm 1)) (dg_sub hu (dnm 0) de_int))
  (dss_one (ds_ret (dnm 3))))))))
theorem ok_q17(En:En w K mg ad)(G_q24:FnOk P w K mg base (CXG P w) 2 ad.a_q24 ad.d_q24 ["pot","many"] (liftSp K 2 (S_q24 ad))):FnOk P w K mg base (CXG P w) 3 ad.a_q17 ad.d_q17 ["pot","many"] (liftSp K 2 (S_q17 ad)):=by
 refine fnD (k:=2) (T:=T_q17 ad) En.F_q17 sc_q17 fun cdv A outer s H E B EE hr ux=>?_;have hU:=hr.units;have hu:=hu_of hr;unfold T_q17
 exact (dss_cons (ds_set (i:=2) sc_q17.nd rfl (Or.inl rfl) (de_frz (de_call G_q24 (hr.mono (by decide)) rfl En.m_q24 En.k_q24 En.b_q24 passG ux (da_cons (dnm 0) (da_cons de_int da_nil)))))
  (dss_cons (ds_set (i:=3) sc_q17.nd rfl (Or.inl rfl) (de_lst da_nil))
  (dss_cons (ds_for PassesOwn.leaving rfl (di_range1 rfl En.z_range (da_cons (dnm 1) da_nil)) (dg_name (i:=4) sc_q17.nd rfl (Or.inl rfl)) (dss_cons (ds_set (i:=5) sc_q17.nd rfl (Or.inl rfl) (de_ix (ix_all hu) de_str (de_op op_mod' (de_op op_add' (dnm 2) (de_op op_mul' de_int (dnm 4))) de_int) (fun _ _=>rfl)))
   (dss_one (ds_expr (de_bm (Or.inl rfl) PySem.F.plainAttrs_list PySem.F.slot_list_append PySem.F.type_list_append mt_append' (dnm 3) (da_cons (de_op op_mul' (dnm 5) (de_op op_add' de_int (de_frz (de_call G_q24 (hr.mono (by decide)) rfl En.m_q24 En.k_q24 En.b_q24 passG ux (da_cons (dnm 0) (da_cons de_int da_nil)))))) da_nil))))))
  (dss_one (ds_ret (de_callTy call_tuple' rfl En.z_tuple bt_tuple' (da_cons (dnm 3) da_nil)))))))
theorem ok_q29(En:En w K mg ad)(G_q24:FnOk P w K mg base (CXG P w) 2 ad.a_q24 ad.d_q24 ["pot","many"] (liftSp K 2 (S_q24 ad))):FnOk P w K mg base (CXG P w) 3 ad.a_q29 ad.d_q29 ["pot","told"] (liftSp K 2 (S_q29 ad)):=by
 refine fnD (k:=2) (T:=T_q29 ad) En.F_q29 sc_q29 fun cdv A outer s H E B EE hr ux=>?_;have hU:=hr.units;have hu:=hu_of hr;unfold T_q29;refine dss_cons ?_ ?_
 ·exact (ds_asg (dnm 1) (dg_tup (n:=3) rfl (dgs_cons (dg_name (i:=2) sc_q29.nd rfl (Or.inl rfl)) (dgs_cons (dg_name (i:=3) sc_q29.nd rfl (Or.inl rfl)) (dgs_cons (dg_name (i:=4) sc_q29.nd rfl (Or.inl rfl)) dgs_nil)))))
 refine dss_cons ?_ ?_
 ·refine ds_set (i:=5) (hs:=?_) (hf:=?_) ?_ ?_ ?_ ?_
  ·exact sc_q29.nd
  ·rfl
  ·exact Or.inl rfl
  ·refine de_frz ?_
   refine de_lst ?_;refine da_c ?_ ?_ ?_
   ·exact de_str
   ·refine da_c ?_ ?_ ?_
    ·exact de_str
    ·refine da_c ?_ ?_ ?_
     ·exact de_str
     ·refine da_c ?_ ?_ ?_
      ·exact de_str
      ·refine da_c ?_ ?_ ?_
       ·exact de_str
       ·refine da_c ?_ ?_ ?_
        ·exact de_str
        ·refine da_c ?_ ?_ ?_
         ·exact de_str
         ·refine da_c ?_ ?_ ?_
          ·exact de_str
          ·refine da_c ?_ ?_ ?_
           ·exact de_str
           ·exact da_nil
           ·rfl
          ·rfl
         ·rfl
        ·rfl
       ·rfl
      ·rfl
     ·rfl
    ·rfl
   ·rfl
  ·rfl
  ·exact .inl rfl
 refine dss_cons ?_ ?_
 ·exact (ds_set (i:=6) sc_q29.nd rfl (Or.inl rfl) (de_ix (ix_all hu) (dnm 5) (de_frz (de_call G_q24 (hr.mono (by decide)) rfl En.m_q24 En.k_q24 En.b_q24 passG ux (da_cons (dnm 0) (da_cons (de_ifExp (dt_cmp op_gt' (dnm 4) de_int (nomark _)) de_int de_int) da_nil)))) (fun _ _=>rfl)))
 refine dss_cons ?_ ?_
 ·exact (ds_set (i:=7) sc_q29.nd rfl (Or.inl rfl) (de_ix (ix_all hu) (dnm 3) (de_frz (de_call G_q24 (hr.mono (by decide)) rfl En.m_q24 En.k_q24 En.b_q24 passG ux (da_cons (dnm 0) (da_cons (de_callB call_len' rfl En.z_len bt_len' (da_cons (dnm 3) da_nil)) da_nil)))) (fun _ _=>rfl)))
 refine dss_cons ?_ ?_
 ·exact (ds_if (dt_cmp (op_eq' hU) (dnm 6) de_str (nomark _)) (dss_one (ds_ret (de_tup (da_cons (dnm 6) (da_cons (dnm 7) (da_cons (de_call G_q24 (hr.mono (by decide)) rfl En.m_q24 En.k_q24 En.b_q24 passG ux (da_cons (dnm 0) (da_cons (dnm 2) da_nil))) da_nil)))))) dss_nil)
 refine dss_cons ?_ ?_
 ·exact (ds_if (dt_cmp (op_eq' hU) (dnm 6) de_str (nomark _)) (dss_one (ds_ret (de_tup (da_cons (dnm 6) (da_cons (dnm 7) (da_cons (de_call G_q24 (hr.mono (by decide)) rfl En.m_q24 En.k_q24 En.b_q24 passG ux (da_cons (dnm 0) (da_cons (dnm 4) da_nil))) da_nil)))))) dss_nil)
 refine dss_cons ?_ ?_
 ·exact (ds_set (i:=8) sc_q29.nd rfl (Or.inl rfl) (de_ix (ix_all hu) (dnm 3) (de_frz (de_call G_q24 (hr.mono (by decide)) rfl En.m_q24 En.k_q24 En.b_q24 passG ux (da_cons (dnm 0) (da_cons (de_callB call_len' rfl En.z_len bt_len' (da_cons (dnm 3) da_nil)) da_nil)))) (fun _ _=>rfl)))
 refine dss_cons ?_ ?_
 ·exact (ds_if (dt_cmp (op_eq' hU) (dnm 6) de_str (nomark _)) (dss_one (ds_ret (de_tup (da_cons (dnm 6) (da_cons (dnm 7) (da_cons (dnm 8) da_nil)))))) dss_nil)
 refine dss_one ?_;exact (ds_ret (de_tup (da_cons (dnm 6) (da_cons (dnm 7) (da_cons (dnm 8) (da_cons (de_ix (ix_all hu) (dnm 3) (de_frz (de_call G_q24 (hr.mono (by decide)) rfl En.m_q24 En.k_q24 En.b_q24 passG ux (da_cons (dnm 0) (da_cons (de_callB call_len' rfl En.z_len bt_len' (da_cons (dnm 3) da_nil)) da_nil)))) (fun _ _=>rfl)) da_nil))))))
theorem ok1__law_block(En:En w K mg ad)(G_q24:FnOk P w K mg base (CXG P w) 2 ad.a_q24 ad.d_q24 ["pot","many"] (liftSp K 2 (S_q24 ad)))(G_q29:FnOk P w K mg base (CXG P w) 3 ad.a_q29 ad.d_q29 ["pot","told"] (liftSp K 2 (S_q29 ad)))(n:Nat)(G_q18:FnOk P w K mg base (CXG P w) (3+n) ad.a_q18 ad.d_q18 ["pot","told","room","deep"] (liftSp K 4 (S_q18 ad n)))(G_q23:FnOk P w K mg base (CXG P w) (3+n) ad.a_q23 ad.d_q23 ["pot","told","room","deep","most"] (liftSp K 5 (S_q23 ad n))):FnOk P w K mg base (CXG P w) (3+n+1) ad.a_q18 ad.d_q18 ["pot","told","room","deep"] (liftSp K 4 (S_q18 ad (n+1))):=by
 refine fnD (k:=3+n) (T:=T_q18 ad (S_q18 ad n) (S_q23 ad n)) En.F_q18 sc_q18 fun cdv A outer s H E B EE hr ux=>?_;have hU:=hr.units;have hu:=hu_of hr;unfold T_q18
 exact (dss_cons (ds_asg (dnm 1) (dg_tup (n:=3) rfl (dgs_cons (dg_name (i:=4) sc_q18.nd rfl (Or.inl rfl)) (dgs_cons (dg_name (i:=5) sc_q18.nd rfl (Or.inl rfl)) (dgs_cons (dg_name (i:=6) sc_q18.nd rfl (Or.inl rfl)) dgs_nil)))))
  (dss_cons (ds_set (i:=7) sc_q18.nd rfl (Or.inl rfl) (de_ix (ix_all hu) (dnm 5) (de_frz (de_call G_q24 (hr.mono (by lia)) rfl En.m_q24 En.k_q24 En.b_q24 passG ux (da_cons (dnm 0) (da_cons (de_callB call_len' rfl En.z_len bt_len' (da_cons (dnm 5) da_nil)) da_nil)))) (fun _ _=>rfl)))
  (dss_cons (ds_set (i:=8) sc_q18.nd rfl (Or.inl rfl) (de_frz (de_call G_q23 (hr.mono (by lia)) rfl En.m_q23 En.k_q23 En.b_q23 passG ux (da_cons (dnm 0) (da_cons (dnm 1) (da_cons (dnm 2) (da_cons (de_op op_add' (dnm 3) de_int) (da_cons de_int da_nil))))))))
  (dss_cons (ds_set (i:=9) sc_q18.nd rfl (Or.inl rfl) (de_frz (de_call G_q24 (hr.mono (by lia)) rfl En.m_q24 En.k_q24 En.b_q24 passG ux (da_cons (dnm 0) (da_cons de_int da_nil)))))
  (dss_cons (ds_if (dt_cmp op_lt' (dnm 9) de_int (nomark _)) (dss_one (ds_ret (de_lst (da_cons (de_tup (da_cons de_str (da_cons (dnm 7) (da_cons (dnm 8) (da_cons (de_call G_q23 (hr.mono (by lia)) rfl En.m_q23 En.k_q23 En.b_q23 passG ux (da_cons (dnm 0) (da_cons (dnm 1) (da_cons (dnm 2) (da_cons (de_op op_add' (dnm 3) de_int) (da_cons de_int da_nil)))))) da_nil))))) da_nil)))) dss_nil)
  (dss_cons (ds_if (dt_cmp (op_eq' hU) (dnm 9) de_int (nomark _)) (dss_one (ds_ret (de_lst (da_cons (de_tup (da_cons de_str (da_cons (dnm 7) (da_cons (dnm 8) da_nil)))) da_nil)))) dss_nil)
  (dss_cons (ds_set (i:=10) sc_q18.nd rfl (Or.inl rfl) (de_ix (ix_all hu) (dnm 5) (de_frz (de_call G_q24 (hr.mono (by lia)) rfl En.m_q24 En.k_q24 En.b_q24 passG ux (da_cons (dnm 0) (da_cons (de_callB call_len' rfl En.z_len bt_len' (da_cons (dnm 5) da_nil)) da_nil)))) (fun _ _=>rfl)))
  (dss_one (ds_ret (de_lst (da_cons (de_tup (da_cons de_str (da_cons (dnm 7) (da_cons (de_call G_q24 (hr.mono (by lia)) rfl En.m_q24 En.k_q24 En.b_q24 passG ux (da_cons (dnm 0) (da_cons (de_callB (call_min' rfl) rfl En.z_min bt_min' (da_cons (dnm 4) (da_cons de_int da_nil))) da_nil))) da_nil)))) (da_cons (de_tup (da_cons de_str (da_cons (dnm 10) (da_cons (de_op op_sub' (dnm 4) de_int) da_nil)))) (da_cons (de_tup (da_cons de_str (da_cons (dnm 7) (da_cons (de_op op_add' (dnm 8) (de_tup (da_cons (de_tup (da_cons de_str (da_cons (dnm 7) (da_cons (dnm 7) (da_cons (dnm 10) da_nil))))) da_nil))) da_nil)))) da_nil)))))))))))))
theorem ok1__law_rows(En:En w K mg ad)(G_q24:FnOk P w K mg base (CXG P w) 2 ad.a_q24 ad.d_q24 ["pot","many"] (liftSp K 2 (S_q24 ad)))(G_q29:FnOk P w K mg base (CXG P w) 3 ad.a_q29 ad.d_q29 ["pot","told"] (liftSp K 2 (S_q29 ad)))(n:Nat)(G_q18:FnOk P w K mg base (CXG P w) (3+n) ad.a_q18 ad.d_q18 ["pot","told","room","deep"] (liftSp K 4 (S_q18 ad n)))(G_q23:FnOk P w K mg base (CXG P w) (3+n) ad.a_q23 ad.d_q23 ["pot","told","room","deep","most"] (liftSp K 5 (S_q23 ad n))):FnOk P w K mg base (CXG P w) (3+n+1) ad.a_q23 ad.d_q23 ["pot","told","room","deep","most"] (liftSp K 5 (S_q23 ad (n+1))):=by
 refine fnD (k:=3+n) (T:=T_q23 ad (S_q18 ad n) (S_q23 ad n)) En.F_q23 sc_q23 fun cdv A outer s H E B EE hr ux=>?_;have hU:=hr.units;have hu:=hu_of hr;unfold T_q23
 exact (dss_cons (ds_set (i:=5) sc_q23.nd rfl (Or.inl rfl) (de_lst da_nil))
  (dss_cons (ds_for PassesOwn.leaving rfl (di_range1 rfl En.z_range (da_cons (de_frz (de_call G_q24 (hr.mono (by lia)) rfl En.m_q24 En.k_q24 En.b_q24 passG ux (da_cons (dnm 0) (da_cons (dnm 4) da_nil)))) da_nil)) (dg_name (i:=6) sc_q23.nd rfl (Or.inl rfl)) (dss_one (ds_if (DW.dt (dw_and (dt_cmp op_gt' (de_ix (ix_all hu) (dnm 2) de_int (fun _ _=>rfl)) de_int (nomark _)) (dw_and (dt_cmp op_lt' (dnm 3) de_int (nomark _)) (dw_and1 (dt_cmp (op_eq' hU) (de_frz (de_call G_q24 (hr.mono (by lia)) rfl En.m_q24 En.k_q24 En.b_q24 passG ux (da_cons (dnm 0) (da_cons de_int da_nil)))) de_int (nomark _)))))) (dss_cons (ds_asg (de_op op_sub' (de_ix (ix_all hu) (dnm 2) de_int (fun _ _=>rfl)) de_int) (dg_sub hu (dnm 2) de_int))
    (dss_one (ds_set (i:=5) sc_q23.nd rfl (Or.inl rfl) (de_op op_add' (dnm 5) (de_frz (de_call G_q18 (hr.mono (by lia)) rfl En.m_q18 En.k_q18 En.b_q18 passG ux (da_cons (dnm 0) (da_cons (dnm 1) (da_cons (dnm 2) (da_cons (dnm 3) da_nil)))))))))) (dss_one (ds_if (dt_cmp op_gt' (de_ix (ix_all hu) (dnm 2) de_int (fun _ _=>rfl)) de_int (nomark _)) (dss_cons (ds_asg (de_op op_sub' (de_ix (ix_all hu) (dnm 2) de_int (fun _ _=>rfl)) de_int) (dg_sub hu (dnm 2) de_int))
     (dss_one (ds_expr (de_bm (Or.inl rfl) PySem.F.plainAttrs_list PySem.F.slot_list_append PySem.F.type_list_append mt_append' (dnm 5) (da_cons (de_frz (de_call G_q29 (hr.mono (by lia)) rfl En.m_q29 En.k_q29 En.b_q29 passG ux (da_cons (dnm 0) (da_cons (dnm 1) da_nil)))) da_nil))))) dss_nil)))))
  (dss_one (ds_ret (de_callTy call_tuple' rfl En.z_tuple bt_tuple' (da_cons (dnm 5) da_nil))))))
theorem okS__law_block(En:En w K mg ad)(G_q24:FnOk P w K mg base (CXG P w) 2 ad.a_q24 ad.d_q24 ["pot","many"] (liftSp K 2 (S_q24 ad)))(G_q29:FnOk P w K mg base (CXG P w) 3 ad.a_q29 ad.d_q29 ["pot","told"] (liftSp K 2 (S_q29 ad))):∀n:Nat,FnOk P w K mg base (CXG P w) (3+n) ad.a_q18 ad.d_q18 ["pot","told","room","deep"] (liftSp K 4 (S_q18 ad n))/\FnOk P w K mg base (CXG P w) (3+n) ad.a_q23 ad.d_q23 ["pot","told","room","deep","most"] (liftSp K 5 (S_q23 ad n))
 |0=>⟨fnNone,fnNone⟩
 |n+1=>by
  obtain ⟨G_q18,G_q23⟩:=okS__law_block En G_q24 G_q29 n;exact ⟨ok1__law_block En G_q24 G_q29 n G_q18 G_q23,ok1__law_rows En G_q24 G_q29 n G_q18 G_q23⟩
theorem ok_q20(En:En w K mg ad)(G_q24:FnOk P w K mg base (CXG P w) 2 ad.a_q24 ad.d_q24 ["pot","many"] (liftSp K 2 (S_q24 ad)))(G_q17:FnOk P w K mg base (CXG P w) 3 ad.a_q17 ad.d_q17 ["pot","many"] (liftSp K 2 (S_q17 ad)))(G_q23:FnOk P w K mg base (CXG P w) 27 ad.a_q23 ad.d_q23 ["pot","told","room","deep","most"] (liftSp K 5 (S_q23 ad 24))):FnOk P w K mg base (CXG P w) 28 ad.a_q20 ad.d_q20 ["pot","most"] (liftSp K 2 (S_q20 ad)):=by
 refine fnD (k:=27) (T:=T_q20 ad) En.F_q20 sc_q20 fun cdv A outer s H E B EE hr ux=>?_;have hU:=hr.units;have hu:=hu_of hr;unfold T_q20
 exact (dss_cons (ds_set (i:=2) sc_q20.nd rfl (Or.inl rfl) (de_ix (ix_all hu) (de_frz (de_lst (da_cons de_int (da_cons de_int (da_cons (de_op op_add' de_int (de_frz (de_call G_q24 (hr.mono (by decide)) rfl En.m_q24 En.k_q24 En.b_q24 passG ux (da_cons (dnm 0) (da_cons de_int da_nil))))) (da_cons (de_op op_add' de_int (de_frz (de_call G_q24 (hr.mono (by decide)) rfl En.m_q24 En.k_q24 En.b_q24 passG ux (da_cons (dnm 0) (da_cons de_int da_nil))))) da_nil)))))) (de_frz (de_call G_q24 (hr.mono (by decide)) rfl En.m_q24 En.k_q24 En.b_q24 passG ux (da_cons (dnm 0) (da_cons de_int da_nil)))) (fun _ _=>rfl)))
  (dss_cons (ds_set (i:=3) sc_q20.nd rfl (Or.inl rfl) (de_frz (de_call G_q17 (hr.mono (by decide)) rfl En.m_q17 En.k_q17 En.b_q17 passG ux (da_cons (dnm 0) (da_cons (de_op op_add' de_int (de_frz (de_call G_q24 (hr.mono (by decide)) rfl En.m_q24 En.k_q24 En.b_q24 passG ux (da_cons (dnm 0) (da_cons (de_ix (ix_all hu) (de_frz (de_lst (da_cons de_int (da_cons de_int (da_cons de_int da_nil))))) (de_frz (de_call G_q24 (hr.mono (by decide)) rfl En.m_q24 En.k_q24 En.b_q24 passG ux (da_cons (dnm 0) (da_cons de_int da_nil)))) (fun _ _=>rfl)) da_nil))))) da_nil)))))
  (dss_cons (ds_set (i:=4) sc_q20.nd rfl (Or.inl rfl) (de_ix (ix_all hu) (de_frz (de_lst (da_cons de_int (da_cons (de_op op_add' de_int (de_frz (de_call G_q24 (hr.mono (by decide)) rfl En.m_q24 En.k_q24 En.b_q24 passG ux (da_cons (dnm 0) (da_cons de_int da_nil))))) (da_cons (de_frz (de_call G_q24 (hr.mono (by decide)) rfl En.m_q24 En.k_q24 En.b_q24 passG ux (da_cons (dnm 0) (da_cons de_int da_nil)))) da_nil))))) (de_frz (de_call G_q24 (hr.mono (by decide)) rfl En.m_q24 En.k_q24 En.b_q24 passG ux (da_cons (dnm 0) (da_cons de_int da_nil)))) (fun _ _=>rfl)))
  (dss_cons (ds_set (i:=5) sc_q20.nd rfl (Or.inl rfl) (de_frz (de_call G_q23 (hr.mono (by decide)) rfl En.m_q23 En.k_q23 En.b_q23 passG ux (da_cons (dnm 0) (da_cons (de_tup (da_cons (dnm 2) (da_cons (dnm 3) (da_cons (dnm 4) da_nil)))) (da_cons (de_lst (da_cons (dnm 1) da_nil)) (da_cons de_int (da_cons (de_ix (ix_all hu) (de_frz (de_lst (da_cons de_int (da_cons de_int (da_cons de_int da_nil))))) (de_frz (de_call G_q24 (hr.mono (by decide)) rfl En.m_q24 En.k_q24 En.b_q24 passG ux (da_cons (dnm 0) (da_cons de_int da_nil)))) (fun _ _=>rfl)) da_nil))))))))
  (dss_one (ds_ret (de_tup (da_cons (dnm 2) (da_cons (dnm 3) (da_cons (dnm 4) (da_cons (dnm 5) (da_cons (de_ix (ix_all hu) (dnm 3) (de_frz (de_call G_q24 (hr.mono (by decide)) rfl En.m_q24 En.k_q24 En.b_q24 passG ux (da_cons (dnm 0) (da_cons (de_callB call_len' rfl En.z_len bt_len' (da_cons (dnm 3) da_nil)) da_nil)))) (fun _ _=>rfl)) da_nil))))))))))))
theorem ok1__law_put_names(En:En w K mg ad)  (n:Nat)(G_q6:FnOk P w K mg base (CXG P w) (0+n) ad.a_q6 ad.d_q6 ["rows","names"] (liftSp K 2 (S_q6 ad n))):FnOk P w K mg base (CXG P w) (0+n+1) ad.a_q6 ad.d_q6 ["rows","names"] (liftSp K 2 (S_q6 ad (n+1))):=by
 refine fnD (k:=0+n) (T:=T_q6 ad (S_q6 ad n)) En.F_q6 sc_q6 fun cdv A outer s H E B EE hr ux=>?_;have hU:=hr.units;have hu:=hu_of hr;unfold T_q6
 exact (dss_cons (ds_set (i:=2) sc_q6.nd rfl (Or.inl rfl) (de_lst da_nil))
  (dss_cons (ds_for PassesOwn.leaving rfl (di_seq (dnm 0)) (dg_name (i:=3) sc_q6.nd rfl (Or.inl rfl)) (dss_one (ds_if (dt_cmp (op_in' hU) (de_ix (ix_all hu) (dnm 3) de_int (fun _ _=>rfl)) (de_frz (de_lst (da_cons de_str (da_cons de_str da_nil)))) (by rfl)) (dss_one (ds_expr (de_bm (Or.inl rfl) PySem.F.plainAttrs_list PySem.F.slot_list_append PySem.F.type_list_append mt_append' (dnm 2) (da_cons (de_op op_add' (de_tup (da_cons (de_ix (ix_all hu) (dnm 3) de_int (fun _ _=>rfl)) (da_cons (de_ix (ix_all hu) (dnm 1) (de_ix (ix_all hu) (dnm 3) de_int (fun _ _=>rfl)) (fun _ _=>rfl)) da_nil))) (de_callTy call_tuple' rfl En.z_tuple bt_tuple' (da_cons (de_frz (de_comp (ls:=["some"]) (fs:=["names"]) (js:=[1]) rfl (compOkF (cs:=[s.heap.objs.size+1]) rfl (by decide +kernel) (by decide +kernel) rfl rfl (memC rfl memZ) (.cons rfl (.inl rfl) (.inl rfl) .nil)) (di_seq (de_frz (de_slice (dnm 3) (do_some de_int) do_none))) (fun C' s₀ H₀ fp pl'=>⟨(dg_name (i:=0) (show List.Nodup [("some":Str),("names":Str)] from (by decide +kernel)) rfl (Or.inl rfl)),dts_nil,(de_frz (de_call G_q6 (hr.mono (by lia)) rfl En.m_q6 En.k_q6 En.b_q6 pass00 uxN (da_cons (dnm 0) (da_cons (dnm 1) da_nil))))⟩))) da_nil))) da_nil)))) (dss_one (ds_expr (de_bm (Or.inl rfl) PySem.F.plainAttrs_list PySem.F.slot_list_append PySem.F.type_list_append mt_append' (dnm 2) (da_cons (de_op op_add' (de_tup (da_cons (de_ix (ix_all hu) (dnm 3) de_int (fun _ _=>rfl)) da_nil)) (de_callTy call_tuple' rfl En.z_tuple bt_tuple' (da_cons (de_frz (de_comp (ls:=["one"]) (fs:=["names"]) (js:=[1]) rfl (compOkF (cs:=[s.heap.objs.size+1]) rfl (by decide +kernel) (by decide +kernel) rfl rfl (memC rfl memZ) (.cons rfl (.inl rfl) (.inl rfl) .nil)) (di_seq (de_frz (de_slice (dnm 3) (do_some de_int) do_none))) (fun C' s₀ H₀ fp pl'=>⟨(dg_name (i:=0) (show List.Nodup [("one":Str),("names":Str)] from (by decide +kernel)) rfl (Or.inl rfl)),dts_nil,(de_ifExp (dt_tru (de_callB call_isinst' rfl En.z_isinstance bt_isinstance' (da_cons (dnm 0) (da_cons (de_ty rfl En.z_str bt_str') da_nil)))) (de_ix (ix_all hu) (dnm 1) (dnm 0) (fun _ _=>rfl)) (dnm 0))⟩))) da_nil))) da_nil)))))))
  (dss_one (ds_ret (de_callTy call_tuple' rfl En.z_tuple bt_tuple' (da_cons (dnm 2) da_nil))))))
theorem okS__law_put_names(En:En w K mg ad)  : ∀n:Nat,FnOk P w K mg base (CXG P w) (0+n) ad.a_q6 ad.d_q6 ["rows","names"] (liftSp K 2 (S_q6 ad n))
 |0=>fnNone
 |n+1=>ok1__law_put_names En  n (okS__law_put_names En  n)
theorem ok_q14(En:En w K mg ad)(G_q24:FnOk P w K mg base (CXG P w) 2 ad.a_q24 ad.d_q24 ["pot","many"] (liftSp K 2 (S_q24 ad)))(G_q6:FnOk P w K mg base (CXG P w) 24 ad.a_q6 ad.d_q6 ["rows","names"] (liftSp K 2 (S_q6 ad 24))):FnOk P w K mg base (CXG P w) 25 ad.a_q14 ad.d_q14 ["pot","plan"] (liftSp K 2 (S_q14 ad)):=by
 refine fnD (k:=24) (T:=T_q14 ad) En.F_q14 sc_q14 fun cdv A outer s H E B EE hr ux=>?_;have hU:=hr.units;have hu:=hu_of hr;unfold T_q14;refine dss_cons ?_ ?_
 ·refine ds_set (i:=2) (hs:=?_) (hf:=?_) ?_ ?_ ?_ ?_
  ·exact sc_q14.nd
  ·rfl
  ·exact Or.inl rfl
  ·refine de_frz ?_
   refine de_lst ?_;refine da_c ?_ ?_ ?_
   ·exact de_str
   ·refine da_c ?_ ?_ ?_
    ·exact de_str
    ·refine da_c ?_ ?_ ?_
     ·exact de_str
     ·refine da_c ?_ ?_ ?_
      ·exact de_str
      ·refine da_c ?_ ?_ ?_
       ·exact de_str
       ·refine da_c ?_ ?_ ?_
        ·exact de_str
        ·refine da_c ?_ ?_ ?_
         ·exact de_str
         ·refine da_c ?_ ?_ ?_
          ·exact de_str
          ·refine da_c ?_ ?_ ?_
           ·exact de_str
           ·refine da_c ?_ ?_ ?_
            ·exact de_str
            ·refine da_c ?_ ?_ ?_
             ·exact de_str
             ·exact da_nil
             ·rfl
            ·rfl
           ·rfl
          ·rfl
         ·rfl
        ·rfl
       ·rfl
      ·rfl
     ·rfl
    ·rfl
   ·rfl
  ·rfl
  ·exact .inl rfl
 refine dss_cons ?_ ?_
 ·exact (ds_set (i:=3) sc_q14.nd rfl (Or.inr rfl) de_newK)
 refine dss_cons ?_ ?_
 ·exact (ds_for PassesOwn.leaving rfl (di_seq (de_ix (ix_all hu) (dnm 1) de_int (fun _ _=>rfl))) (dg_name (i:=4) sc_q14.nd rfl (Or.inl rfl)) (dss_cons (ds_set (i:=5) sc_q14.nd rfl (Or.inl rfl) (de_ix (ix_all hu) (dnm 2) (de_frz (de_call G_q24 (hr.mono (by decide)) rfl En.m_q24 En.k_q24 En.b_q24 passG ux (da_cons (dnm 0) (da_cons de_int da_nil)))) (fun _ _=>rfl)))
   (dss_one (ds_asg (de_ifExp (DW.dt (dw_and (dt_cmp (op_eq' hU) (de_frz (de_call G_q24 (hr.mono (by decide)) rfl En.m_q24 En.k_q24 En.b_q24 passG ux (da_cons (dnm 0) (da_cons de_int da_nil)))) de_int (nomark _)) (dw_and1 (dt_cmp (op_notIn' hU) (dnm 5) (de_frz (de_listVals rfl rfl En.z_list (dnm 3))) (by rfl))))) (dnm 5) (dnm 4)) (dg_sub hu (dnm 3) (dnm 4))))))
 refine dss_cons ?_ ?_
 ·exact (ds_set (i:=6) sc_q14.nd rfl (Or.inl rfl) (de_callTy call_tuple' rfl En.z_tuple bt_tuple' (da_cons (de_frz (de_comp (ls:=["name"]) (fs:=["names"]) (js:=[3]) rfl (compOkF (cs:=[s.heap.objs.size+1]) rfl (by decide +kernel) (by decide +kernel) rfl rfl (memC rfl memZ) (.cons rfl (.inl rfl) (.inl rfl) .nil)) (di_seq (de_ix (ix_all hu) (dnm 1) de_int (fun _ _=>rfl))) (fun C' s₀ H₀ fp pl'=>⟨(dg_name (i:=0) (show List.Nodup [("name":Str),("names":Str)] from (by decide +kernel)) rfl (Or.inl rfl)),dts_nil,(de_ix (ix_all hu) (dnm 1) (dnm 0) (fun _ _=>rfl))⟩))) da_nil)))
 refine dss_one ?_;exact (ds_ret (de_tup (da_cons (de_ix (ix_all hu) (dnm 1) de_int (fun _ _=>rfl)) (da_cons (dnm 6) (da_cons (de_ix (ix_all hu) (dnm 1) de_int (fun _ _=>rfl)) (da_cons (de_call G_q6 (hr.mono (by decide)) rfl En.m_q6 En.k_q6 En.b_q6 passG ux (da_cons (de_ix (ix_all hu) (dnm 1) de_int (fun _ _=>rfl)) (da_cons (dnm 3) da_nil))) (da_cons (de_ix (ix_all hu) (dnm 3) (de_ix (ix_all hu) (dnm 1) de_int (fun _ _=>rfl)) (fun _ _=>rfl)) da_nil)))))))
theorem ok_q7(En:En w K mg ad)  : FnOk P w K mg base (CXG P w) 1 ad.a_q7 ad.d_q7 ["row"] (liftSp K 1 (S_q7 ad)):=by
 refine fnD (k:=0) (T:=T_q7 ad) En.F_q7 sc_q7 fun cdv A outer s H E B EE hr ux=>?_;have hU:=hr.units;have hu:=hu_of hr;unfold T_q7;refine dss_cons ?_ ?_
 ·exact (ds_if (dt_cmp (op_eq' hU) (de_ix (ix_all hu) (dnm 0) de_int (fun _ _=>rfl)) de_str (nomark _)) (dss_one (ds_ret (de_op op_add' (de_op op_add' (de_ix (ix_all hu) (dnm 0) de_int (fun _ _=>rfl)) de_str) (de_callTy call_str' rfl En.z_str bt_str' (da_cons (de_ix (ix_all hu) (dnm 0) de_int (fun _ _=>rfl)) da_nil))))) dss_nil)
 refine dss_cons ?_ ?_
 ·exact (ds_if (dt_cmp (op_eq' hU) (de_ix (ix_all hu) (dnm 0) de_int (fun _ _=>rfl)) de_str (nomark _)) (dss_one (ds_ret (de_op op_add' (de_op op_add' (de_ix (ix_all hu) (dnm 0) de_int (fun _ _=>rfl)) de_str) (de_callTy call_str' rfl En.z_str bt_str' (da_cons (de_ix (ix_all hu) (dnm 0) de_int (fun _ _=>rfl)) da_nil))))) dss_nil)
 refine dss_cons ?_ ?_
 ·exact (ds_if (dt_cmp (op_eq' hU) (de_ix (ix_all hu) (dnm 0) de_int (fun _ _=>rfl)) de_str (nomark _)) (dss_one (ds_ret (de_op op_add' (de_op op_add' (de_ix (ix_all hu) (dnm 0) de_int (fun _ _=>rfl)) de_str) (de_ix (ix_all hu) (dnm 0) de_int (fun _ _=>rfl))))) dss_nil)
 refine dss_cons ?_ ?_
 ·exact (ds_set (i:=1) sc_q7.nd rfl (Or.inl rfl) (de_ix (ix_all hu) (de_dispS (tab:=[("sum","+"),("by","*"),("less","<"),("same","==")]) (pps_str (pps_str (pps_str (pps_str pps_nil)))) rfl rfl (by simp) (by simp)) (de_ix (ix_all hu) (dnm 0) de_int (fun _ _=>rfl)) (fun _ _=>rfl)))
 refine dss_one ?_;refine ds_ret ?_;refine de_op ?_ ?_ ?_
 ·exact op_add'
 ·refine de_op ?_ ?_ ?_
  ·exact op_add'
  ·refine de_frz ?_
   refine de_op ?_ ?_ ?_
   ·exact op_add'
   ·refine de_op ?_ ?_ ?_
    ·exact op_add'
    ·exact (de_frz (de_op op_add' (de_op op_add' (de_ix (ix_all hu) (dnm 0) de_int (fun _ _=>rfl)) de_str) (de_ix (ix_all hu) (dnm 0) de_int (fun _ _=>rfl))))
    ·exact de_str
   ·exact (dnm 1)
  ·exact de_str
 ·exact (de_ix (ix_all hu) (dnm 0) de_int (fun _ _=>rfl))
theorem ok1__law_rows_texts(En:En w K mg ad)(G_q7:FnOk P w K mg base (CXG P w) 1 ad.a_q7 ad.d_q7 ["row"] (liftSp K 1 (S_q7 ad)))(n:Nat)(G_q2:FnOk P w K mg base (CXG P w) (1+n) ad.a_q2 ad.d_q2 ["rows"] (liftSp K 1 (S_q2 ad n))):FnOk P w K mg base (CXG P w) (1+n+1) ad.a_q2 ad.d_q2 ["rows"] (liftSp K 1 (S_q2 ad (n+1))):=by
 refine fnD (k:=1+n) (T:=T_q2 ad (S_q2 ad n)) En.F_q2 sc_q2 fun cdv A outer s H E B EE hr ux=>?_;have hU:=hr.units;have hu:=hu_of hr;unfold T_q2
 exact (dss_cons (ds_set (i:=1) sc_q2.nd rfl (Or.inl rfl) (de_lst da_nil))
  (dss_cons (ds_for PassesOwn.leaving rfl (di_seq (dnm 0)) (dg_name (i:=2) sc_q2.nd rfl (Or.inl rfl)) (dss_one (ds_if (dt_cmp (op_eq' hU) (de_ix (ix_all hu) (dnm 2) de_int (fun _ _=>rfl)) de_str (nomark _)) (dss_one (ds_set (i:=1) sc_q2.nd rfl (Or.inl rfl) (de_op op_add' (de_frz (de_op op_add' (de_frz (de_op op_add' (dnm 1) (de_frz (de_lst (da_cons (de_op op_add' de_str (de_ix (ix_all hu) (dnm 2) de_int (fun _ _=>rfl))) da_nil))))) (de_frz (de_call G_q2 (hr.mono (by lia)) rfl En.m_q2 En.k_q2 En.b_q2 passG ux (da_cons (de_ix (ix_all hu) (dnm 2) de_int (fun _ _=>rfl)) da_nil))))) (de_frz (de_lst (da_cons de_str da_nil)))))) (dss_one (ds_if (dt_cmp (op_eq' hU) (de_ix (ix_all hu) (dnm 2) de_int (fun _ _=>rfl)) de_str (nomark _)) (dss_cons (ds_set (i:=1) sc_q2.nd rfl (Or.inl rfl) (de_op op_add' (de_frz (de_op op_add' (de_frz (de_op op_add' (dnm 1) (de_frz (de_lst (da_cons (de_op op_add' de_str (de_ix (ix_all hu) (dnm 2) de_int (fun _ _=>rfl))) da_nil))))) (de_frz (de_call G_q2 (hr.mono (by lia)) rfl En.m_q2 En.k_q2 En.b_q2 passG ux (da_cons (de_ix (ix_all hu) (dnm 2) de_int (fun _ _=>rfl)) da_nil))))) (de_frz (de_lst (da_cons de_str da_nil)))))
     (dss_one (ds_set (i:=1) sc_q2.nd rfl (Or.inl rfl) (de_op op_add' (de_frz (de_op op_add' (dnm 1) (de_frz (de_call G_q2 (hr.mono (by lia)) rfl En.m_q2 En.k_q2 En.b_q2 passG ux (da_cons (de_ix (ix_all hu) (dnm 2) de_int (fun _ _=>rfl)) da_nil))))) (de_frz (de_lst (da_cons de_str da_nil))))))) (dss_one (ds_expr (de_bm (Or.inl rfl) PySem.F.plainAttrs_list PySem.F.slot_list_append PySem.F.type_list_append mt_append' (dnm 1) (da_cons (de_frz (de_call G_q7 (hr.mono (by lia)) rfl En.m_q7 En.k_q7 En.b_q7 passG ux (da_cons (dnm 2) da_nil))) da_nil)))))))))
  (dss_one (ds_ret (dnm 1)))))
theorem okS__law_rows_texts(En:En w K mg ad)(G_q7:FnOk P w K mg base (CXG P w) 1 ad.a_q7 ad.d_q7 ["row"] (liftSp K 1 (S_q7 ad))):∀n:Nat,FnOk P w K mg base (CXG P w) (1+n) ad.a_q2 ad.d_q2 ["rows"] (liftSp K 1 (S_q2 ad n))
 |0=>fnNone
 |n+1=>ok1__law_rows_texts En G_q7 n (okS__law_rows_texts En G_q7 n)
theorem ok_q3(En:En w K mg ad)(G_q2:FnOk P w K mg base (CXG P w) 25 ad.a_q2 ad.d_q2 ["rows"] (liftSp K 1 (S_q2 ad 24))):FnOk P w K mg base (CXG P w) 26 ad.a_q3 ad.d_q3 ["plan"] (liftSp K 1 (S_q3 ad)):=by
 refine fnD (k:=25) (T:=T_q3 ad) En.F_q3 sc_q3 fun cdv A outer s H E B EE hr ux=>?_;have hU:=hr.units;have hu:=hu_of hr;unfold T_q3
 exact (dss_cons (ds_set (i:=1) sc_q3.nd rfl (Or.inl rfl) (de_frz (de_lst (da_cons (de_op op_add' de_str (de_callTy call_str' rfl En.z_str bt_str' (da_cons (de_ix (ix_all hu) (dnm 0) de_int (fun _ _=>rfl)) da_nil))) (da_cons (de_bm (Or.inr (Or.inl rfl)) PySem.F.plainAttrs_str PySem.F.slot_str_join PySem.F.type_str_join mt_join' de_str (da_cons (de_frz (de_op op_add' (de_frz (de_lst (da_cons de_str da_nil))) (de_frz (de_callTy call_list' rfl En.z_list bt_list' (da_cons (de_ix (ix_all hu) (dnm 0) de_int (fun _ _=>rfl)) da_nil))))) da_nil)) (da_cons (de_op op_add' de_str (de_callTy call_str' rfl En.z_str bt_str' (da_cons (de_ix (ix_all hu) (dnm 0) de_int (fun _ _=>rfl)) da_nil))) da_nil))))))
  (dss_one (ds_ret (de_op op_add' (de_frz (de_op op_add' (dnm 1) (de_frz (de_lst (da_cons (de_op op_add' de_str (de_ix (ix_all hu) (dnm 0) de_int (fun _ _=>rfl))) da_nil))))) (de_frz (de_call G_q2 (hr.mono (by decide)) rfl En.m_q2 En.k_q2 En.b_q2 passG ux (da_cons (de_ix (ix_all hu) (dnm 0) de_int (fun _ _=>rfl)) da_nil)))))))
theorem ok1__law_alike(En:En w K mg ad)  (n:Nat)(G_q19:FnOk P w K mg base (CXG P w) (0+n) ad.a_q19 ad.d_q19 ["found","due"] (liftSp K 2 (S_q19 ad n))):FnOk P w K mg base (CXG P w) (0+n+1) ad.a_q19 ad.d_q19 ["found","due"] (liftSp K 2 (S_q19 ad (n+1))):=by
 refine fnD (k:=0+n) (T:=T_q19 ad (S_q19 ad n)) En.F_q19 sc_q19 fun cdv A outer s H E B EE hr ux=>?_;have hU:=hr.units;have hu:=hu_of hr;unfold T_q19
 exact (dss_cons (ds_if (dt_cmp op_isN' (dnm 1) de_non (nomark _)) (dss_one (ds_ret (de_cmp op_isN' (dnm 0) de_non (nomark _)))) dss_nil)
  (dss_cons (ds_if (dt_tru (de_callB call_isinst' rfl En.z_isinstance bt_isinstance' (da_cons (dnm 1) (da_cons (de_ty rfl En.z_bool bt_bool') da_nil)))) (dss_one (ds_ret (de_and (de_callB call_isinst' rfl En.z_isinstance bt_isinstance' (da_cons (dnm 0) (da_cons (de_ty rfl En.z_bool bt_bool') da_nil))) (de_one (de_cmp (op_eq' hU) (dnm 0) (dnm 1) (nomark _)))))) dss_nil)
  (dss_cons (ds_if (dt_tru (de_callB call_isinst' rfl En.z_isinstance bt_isinstance' (da_cons (dnm 1) (da_cons (de_ty rfl En.z_int bt_int') da_nil)))) (dss_one (ds_ret (de_and (de_callB call_isinst' rfl En.z_isinstance bt_isinstance' (da_cons (dnm 0) (da_cons (de_ty rfl En.z_int bt_int') da_nil))) (de_and (de_not (de_callB call_isinst' rfl En.z_isinstance bt_isinstance' (da_cons (dnm 0) (da_cons (de_ty rfl En.z_bool bt_bool') da_nil)))) (de_one (de_cmp (op_eq' hU) (dnm 0) (dnm 1) (nomark _))))))) dss_nil)
  (dss_cons (ds_if (dt_tru (de_callB call_isinst' rfl En.z_isinstance bt_isinstance' (da_cons (dnm 1) (da_cons (de_ty rfl En.z_str bt_str') da_nil)))) (dss_one (ds_ret (de_and (de_callB call_isinst' rfl En.z_isinstance bt_isinstance' (da_cons (dnm 0) (da_cons (de_ty rfl En.z_str bt_str') da_nil))) (de_one (de_cmp (op_eq' hU) (dnm 0) (dnm 1) (nomark _)))))) dss_nil)
  (dss_cons (ds_if (DW.dt (dw_or (dt_cmp (op_ne' hU) (de_callB call_isinst' rfl En.z_isinstance bt_isinstance' (da_cons (dnm 1) (da_cons (de_ty rfl En.z_tuple bt_tuple') da_nil))) (de_callB call_isinst' rfl En.z_isinstance bt_isinstance' (da_cons (dnm 0) (da_cons (de_ty rfl En.z_tuple bt_tuple') da_nil))) (nomark _)) (dw_or1 (dt_cmp (op_ne' hU) (de_callB call_isinst' rfl En.z_isinstance bt_isinstance' (da_cons (dnm 1) (da_cons (de_ty rfl En.z_list bt_list') da_nil))) (de_callB call_isinst' rfl En.z_isinstance bt_isinstance' (da_cons (dnm 0) (da_cons (de_ty rfl En.z_list bt_list') da_nil))) (nomark _))))) (dss_one (ds_ret de_bl)) dss_nil)
  (dss_cons (ds_if (dt_cmp (op_ne' hU) (de_callB call_len' rfl En.z_len bt_len' (da_cons (dnm 0) da_nil)) (de_callB call_len' rfl En.z_len bt_len' (da_cons (dnm 1) da_nil)) (nomark _)) (dss_one (ds_ret de_bl)) dss_nil)
  (dss_one (ds_ret (de_callB (call_all' rfl) rfl En.z_all bt_all' (da_cons (de_frz (de_comp (ls:=["one","other"]) (fs:=[]) (js:=[]) rfl (compOkZ rfl (by decide +kernel) (by decide +kernel)) (di_zip rfl En.z_zip (da_cons (dnm 0) (da_cons (dnm 1) da_nil))) (fun C' s₀ H₀ fp pl'=>⟨(dg_tup (n:=2) rfl (dgs_cons (dg_name (i:=0) (show List.Nodup [("one":Str),("other":Str)] from (by decide +kernel)) rfl (Or.inl rfl)) (dgs_cons (dg_name (i:=1) (show List.Nodup [("one":Str),("other":Str)] from (by decide +kernel)) rfl (Or.inl rfl)) dgs_nil))),dts_nil,(de_frz (de_call G_q19 (hr.mono (by lia)) rfl En.m_q19 En.k_q19 En.b_q19 pass00 uxN (da_cons (dnm 0) (da_cons (dnm 1) da_nil))))⟩))) da_nil))))))))))
theorem okS__law_alike(En:En w K mg ad)  : ∀n:Nat,FnOk P w K mg base (CXG P w) (0+n) ad.a_q19 ad.d_q19 ["found","due"] (liftSp K 2 (S_q19 ad n))
 |0=>fnNone
 |n+1=>ok1__law_alike En  n (okS__law_alike En  n)
theorem ok_law(En:En w K mg ad)(G_q19:FnOk P w K mg base (CXG P w) 24 ad.a_q19 ad.d_q19 ["found","due"] (liftSp K 2 (S_q19 ad 24)))(G_q24:FnOk P w K mg base (CXG P w) 2 ad.a_q24 ad.d_q24 ["pot","many"] (liftSp K 2 (S_q24 ad)))(G_q20:FnOk P w K mg base (CXG P w) 28 ad.a_q20 ad.d_q20 ["pot","most"] (liftSp K 2 (S_q20 ad)))(G_q3:FnOk P w K mg base (CXG P w) 26 ad.a_q3 ad.d_q3 ["plan"] (liftSp K 1 (S_q3 ad)))(G_q27:FnOk P w K mg base (CXG P w) 1 ad.a_q27 ad.d_q27 ["script"] (liftSp K 1 (S_q27 ad)))(G_q14:FnOk P w K mg base (CXG P w) 25 ad.a_q14 ad.d_q14 ["pot","plan"] (liftSp K 2 (S_q14 ad)))(G_q21:FnOk P w K mg base (CXG P w) 26 ad.a_q21 ad.d_q21 ["plan"] (liftSp K 1 (S_q21 ad)))(G_q25:FnOk P w K mg base (CXG P w) 6 ad.a_q25 ad.d_q25 ["rows"] (liftSp K 1 (S_q25 ad))):FnOk P w K mg base (CXG P w) 29 ad.a_law ad.d_law ["script"] (liftSp K 1 (S_law ad)):=by
 refine fnD (k:=28) (T:=T_law ad) En.F_law sc_law fun cdv A outer s H E B EE hr ux=>?_;have hU:=hr.units;have hu:=hu_of hr;unfold T_law
 exact (dss_cons (ds_set (i:=1) sc_law.nd rfl (Or.inl rfl) (de_call G_q27 (hr.mono (by decide)) rfl En.m_q27 En.k_q27 En.b_q27 passG ux (da_cons (dnm 0) da_nil)))
  (dss_cons (ds_set (i:=2) sc_law.nd rfl (Or.inl rfl) (de_frz (de_call G_q20 (hr.mono (by decide)) rfl En.m_q20 En.k_q20 En.b_q20 passG ux (da_cons (dnm 1) (da_cons de_int da_nil)))))
  (dss_cons (ds_if (dt_cmp (op_eq' hU) (de_frz (de_call G_q24 (hr.mono (by decide)) rfl En.m_q24 En.k_q24 En.b_q24 passG ux (da_cons (dnm 1) (da_cons de_int da_nil)))) de_int (nomark _)) (dss_one (ds_set (i:=2) sc_law.nd rfl (Or.inl rfl) (de_frz (de_call G_q14 (hr.mono (by decide)) rfl En.m_q14 En.k_q14 En.b_q14 passG ux (da_cons (dnm 1) (da_cons (dnm 2) da_nil)))))) dss_nil)
  (dss_cons (ds_set (i:=3) sc_law.nd rfl (Or.inl rfl) (de_frz (de_call G_q3 (hr.mono (by decide)) rfl En.m_q3 En.k_q3 En.b_q3 passG ux (da_cons (dnm 2) da_nil))))
  (dss_cons (ds_set (i:=4) sc_law.nd rfl (Or.inl rfl) (de_callTy call_list' rfl En.z_list bt_list' (da_cons (dnm 3) da_nil)))
  (dss_cons (ds_set (i:=5) sc_law.nd rfl (Or.inl rfl) (de_frz (de_call G_q25 (hr.mono (by decide)) rfl En.m_q25 En.k_q25 En.b_q25 passG ux (da_cons (dnm 4) da_nil))))
  (dss_cons (ds_if (DW.dt (dw_or (dt_not (dt_tru (de_frz (de_call G_q19 (hr.mono (by decide)) rfl En.m_q19 En.k_q19 En.b_q19 passG ux (da_cons (dnm 5) (da_cons (dnm 2) da_nil)))))) (dw_or1 (dt_not (dt_tru (de_frz (de_call G_q19 (hr.mono (by decide)) rfl En.m_q19 En.k_q19 En.b_q19 passG ux (da_cons (dnm 4) (da_cons (dnm 3) da_nil))))))))) (dss_one (ds_ret de_bl)) dss_nil)
  (dss_cons (ds_expr (de_bm0 (Or.inl rfl) PySem.F.plainAttrs_list PySem.F.slot_list_clear PySem.F.type_list_clear mt_clear' (dnm 4) ))
  (dss_one (ds_ret (de_and (de_frz (de_call G_q19 (hr.mono (by decide)) rfl En.m_q19 En.k_q19 En.b_q19 passG ux (da_cons (dnm 5) (da_cons (dnm 2) da_nil)))) (de_one (de_frz (de_call G_q19 (hr.mono (by decide)) rfl En.m_q19 En.k_q19 En.b_q19 passG ux (da_cons (de_frz (de_call G_q21 (hr.mono (by decide)) rfl En.m_q21 En.k_q21 En.b_q21 passG ux (da_cons (de_frz (de_call G_q25 (hr.mono (by decide)) rfl En.m_q25 En.k_q25 En.b_q25 passG ux (da_cons (dnm 3) da_nil))) da_nil))) (da_cons (dnm 3) da_nil))))))))))))))))
theorem ok_all(En:En w K mg ad):FnOk P w K mg base (CXG P w) 29 ad.a_law ad.d_law ["script"] (liftSp K 1 (S_law ad)):=by
 have G_q13:=ok_q13 (P:=P) (w:=w) (base:=base) En;have G_q16:=ok_q16 (P:=P) (w:=w) (base:=base) En G_q13;have G_q31:=ok_q31 (P:=P) (w:=w) (base:=base) En;have G_q22:=ok_q22 (P:=P) (w:=w) (base:=base) En G_q31;have G_q8:=ok_q8 (P:=P) (w:=w) (base:=base) En;have G_q30:=okS_written (P:=P) (w:=w) (base:=base) En G_q8 24;have G_q21:=ok_q21 (P:=P) (w:=w) (base:=base) En G_q30;have G_q5:=ok_q5 (P:=P) (w:=w) (base:=base) En;have G_q1:=ok_q1 (P:=P) (w:=w) (base:=base) En G_q5;have G_q9:=ok_q9 (P:=P) (w:=w) (base:=base) En;have G_q28:=ok_q28 (P:=P) (w:=w) (base:=base) En;have G_q15:=ok_q15 (P:=P) (w:=w) (base:=base) En G_q16 G_q28;have G_q0:=ok_q0 (P:=P) (w:=w) (base:=base) En G_q5 G_q15;have G_q10:=ok_q10 (P:=P) (w:=w) (base:=base) En;have G_q26:=ok_q26 (P:=P) (w:=w) (base:=base) En G_q22 G_q16;have G_q11:=ok_q11 (P:=P) (w:=w) (base:=base) En G_q9 G_q0 G_q10 G_q26;have G_q4:=ok_q4 (P:=P) (w:=w) (base:=base) En;have G_q25:=ok_q25 (P:=P) (w:=w) (base:=base) En G_q1 G_q4 G_q11;have G_q12:=ok_q12 (P:=P) (w:=w) (base:=base) En;have G_q27:=ok_q27 (P:=P) (w:=w) (base:=base) En;have G_q24:=ok_q24 (P:=P) (w:=w) (base:=base) En G_q12;have G_q17:=ok_q17 (P:=P) (w:=w) (base:=base) En G_q24;have G_q29:=ok_q29 (P:=P) (w:=w) (base:=base) En G_q24;obtain ⟨G_q18,G_q23⟩:=okS__law_block (P:=P) (w:=w) (base:=base) En G_q24 G_q29 24;have G_q20:=ok_q20 (P:=P) (w:=w) (base:=base) En G_q24 G_q17 G_q23;have G_q6:=okS__law_put_names (P:=P) (w:=w) (base:=base) En  24;have G_q14:=ok_q14 (P:=P) (w:=w) (base:=base) En G_q24 G_q6;have G_q7:=ok_q7 (P:=P) (w:=w) (base:=base) En;have G_q2:=okS__law_rows_texts (P:=P) (w:=w) (base:=base) En G_q7 24;have G_q3:=ok_q3 (P:=P) (w:=w) (base:=base) En G_q2;have G_q19:=okS__law_alike (P:=P) (w:=w) (base:=base) En  24;have G_law:=ok_law (P:=P) (w:=w) (base:=base) En G_q19 G_q24 G_q20 G_q3 G_q27 G_q14 G_q21 G_q25;exact G_law
end
end Tw
namespace L3
open PySem L2
theorem calls_ro{T:Sd}{EE:DX}{ds:List D}{M:Mem}{Q:DK}{b:BxQ EE Q}{d:D}(hm:∀Q' E',Q' d M->T ds M Q' E')(h:Q d M):calls T EE ds M Q b:=
 calls_of fun Q' E' hq _=>hm Q' E' (hq d M h)
theorem atI_nn{α:Type}{xs:List α}{i:Int}(h:0<=i):atI xs i=xs[i.toNat]?:=by
 unfold atI ixN;rw [if_pos h]
 by_cases hi:i<xs.length
 ·rw [if_pos hi];rfl
 ·rw [if_neg hi,List.getElem?_eq_none (by lia)];rfl
@[simp] theorem atI_0 {α:Type} {xs:List α}:atI xs 0=xs[0]?:=atI_nn (by decide)
@[simp] theorem atI_1 {α:Type} {xs:List α}:atI xs 1=xs[1]?:=atI_nn (by decide)
@[simp] theorem atI_2 {α:Type} {xs:List α}:atI xs 2=xs[2]?:=atI_nn (by decide)
@[simp] theorem atI_3 {α:Type} {xs:List α}:atI xs 3=xs[3]?:=atI_nn (by decide)
@[simp] theorem atI_4 {α:Type} {xs:List α}:atI xs 4=xs[4]?:=atI_nn (by decide)
theorem forD_inv{g:dTG}{tb:dTS}{DD:DEnds}{ok:Mem->Prop}{b:BxF g tb DD ok}(I:List D->Dl->Mem->Prop)(hok:∀xs δ M,I xs δ M->ok M)(h0:∀δ M,I [] δ M->DD.nx δ M)
  (hs:∀x xs δ M,I (x::xs) δ M->∀D':DEnds,(∀δ' M',I xs δ' M'->D'.nx δ' M')->(∀δ' M',I xs δ' M'->D'.ct δ' M')->D'.rt=DD.rt->D'.bk=DD.nx->g x δ M fun δ2 M2=>tb D' δ2 M2):∀xs δ M,I xs δ M->forD g tb DD ok b xs δ M
 |[],δ,M,h=>⟨hok _ _ _ h,h0 δ M h⟩
 |x::xs,δ,M,h=>⟨hok _ _ _ h,hs x xs δ M h _ (fun δ' M' h'=>forD_inv I hok h0 hs xs δ' M' h') (fun δ' M' h'=>forD_inv I hok h0 hs xs δ' M' h') rfl rfl⟩
theorem compD_inv{g:dTG}{tt:dTT}{te:dTE}{ok:Mem->Prop}{Q:List D->Mem->Prop}{b:BxC g tt te ok Q}(I:List D->List D->Dl->Mem->Prop)(hok:∀xs acc δ M,I xs acc δ M->ok M)(h0:∀acc δ M,I [] acc δ M->Q acc M)
  (hs:∀x xs acc δ M,I (x::xs) acc δ M->∀N:Bool->D->Dl->Mem->Prop,(∀y δ' M',acc.length<sizeLine->I xs (acc++[y]) δ' M'->N true y δ' M')->(∀y δ' M',I xs acc δ' M'->N false y δ' M')->g x δ M fun δ2 M2=>tt δ2 M2 fun c M3=>if c=true then te δ2 M3 fun y M4=>N true y δ2 M4 else N false .non δ2 M3)
  (hl:∀x xs acc δ M,I (x::xs) acc δ M->acc.length<sizeLine):∀xs acc δ M,I xs acc δ M->compD g tt te ok Q b xs acc δ M
 |[],acc,δ,M,h=>⟨hok _ _ _ _ h,h0 acc δ M h⟩
 |x::xs,acc,δ,M,h=>⟨hok _ _ _ _ h,hs x xs acc δ M h (fun k y δ' M'=>if k=true then acc.length<sizeLine/\compD g tt te ok Q b xs (acc++[y]) δ' M' else compD g tt te ok Q b xs acc δ' M')
   (fun y δ' M' hlen h'=>by rw [if_pos rfl];exact ⟨hlen,compD_inv I hok h0 hs hl xs _ δ' M' h'⟩) (fun y δ' M' h'=>by rw [if_neg (by simp)];exact compD_inv I hok h0 hs hl xs _ δ' M' h') |> fun z=>by simpa using z⟩
theorem szl{n:Nat}(h:n<=1000000):n<=sizeLine:=Nat.le_trans h (by decide)
theorem szs{n:Nat}(h:n<1000000):n<sizeLine:=Nat.lt_of_lt_of_le h (by decide)
end L3
namespace Tw
open PySem L2 L3
inductive Rw where
 |put (x:Str) (k:Int)|take (x:Str) (i:Int)|pick (x y:Str)|two (w x y z:Str)|ifr (x:Str) (a b:List Rw)|again (x:Str) (a:List Rw)
mutual
noncomputable def Rw.d:Rw->D
 |.put x k=>.tup [.str "put",.str x,.int k]
 |.take x i=>.tup [.str "take",.str x,.int i]
 |.pick x y=>.tup [.str "pick",.str x,.str y]
 |.two w x y z=>.tup [.str w,.str x,.str y,.str z]
 |.ifr x a b=>.tup [.str "if",.str x,.tup (rowsD a),.tup (rowsD b)]
 |.again x a=>.tup [.str "again",.str x,.tup (rowsD a)]
noncomputable def rowsD:List Rw->List D
 |[]=>[]
 |r::rs=>r.d::rowsD rs
end
theorem rowsD_map:∀rs:List Rw,rowsD rs=rs.map Rw.d
 |[]=>rfl
 |r::rs=>by rw [rowsD,rowsD_map rs];rfl
structure Cf where
 m:Int
 pieces:List Int
 most:Nat
noncomputable def rwX:Rw->Str
 |.put x _=>x
 |.take x _=>x
 |.pick x _=>x
 |.two _ x _ _=>x
 |.ifr x _ _=>x
 |.again x _=>x
theorem sne_put_take:((Str.ofString "put":Str)=Str.ofString "take")=False:=eq_false (by decide +kernel)
theorem sne_put_pick:((Str.ofString "put":Str)=Str.ofString "pick")=False:=eq_false (by decide +kernel)
theorem sne_put_if:((Str.ofString "put":Str)=Str.ofString "if")=False:=eq_false (by decide +kernel)
theorem sne_put_again:((Str.ofString "put":Str)=Str.ofString "again")=False:=eq_false (by decide +kernel)
theorem sne_take_put:((Str.ofString "take":Str)=Str.ofString "put")=False:=eq_false (by decide +kernel)
theorem sne_take_pick:((Str.ofString "take":Str)=Str.ofString "pick")=False:=eq_false (by decide +kernel)
theorem sne_take_if:((Str.ofString "take":Str)=Str.ofString "if")=False:=eq_false (by decide +kernel)
theorem sne_take_again:((Str.ofString "take":Str)=Str.ofString "again")=False:=eq_false (by decide +kernel)
theorem sne_pick_put:((Str.ofString "pick":Str)=Str.ofString "put")=False:=eq_false (by decide +kernel)
theorem sne_pick_take:((Str.ofString "pick":Str)=Str.ofString "take")=False:=eq_false (by decide +kernel)
theorem sne_pick_if:((Str.ofString "pick":Str)=Str.ofString "if")=False:=eq_false (by decide +kernel)
theorem sne_pick_again:((Str.ofString "pick":Str)=Str.ofString "again")=False:=eq_false (by decide +kernel)
theorem sne_sum_put:((Str.ofString "sum":Str)=Str.ofString "put")=False:=eq_false (by decide +kernel)
theorem sne_sum_take:((Str.ofString "sum":Str)=Str.ofString "take")=False:=eq_false (by decide +kernel)
theorem sne_sum_pick:((Str.ofString "sum":Str)=Str.ofString "pick")=False:=eq_false (by decide +kernel)
theorem sne_sum_by:((Str.ofString "sum":Str)=Str.ofString "by")=False:=eq_false (by decide +kernel)
theorem sne_sum_less:((Str.ofString "sum":Str)=Str.ofString "less")=False:=eq_false (by decide +kernel)
theorem sne_sum_same:((Str.ofString "sum":Str)=Str.ofString "same")=False:=eq_false (by decide +kernel)
theorem sne_sum_if:((Str.ofString "sum":Str)=Str.ofString "if")=False:=eq_false (by decide +kernel)
theorem sne_sum_again:((Str.ofString "sum":Str)=Str.ofString "again")=False:=eq_false (by decide +kernel)
theorem sne_by_put:((Str.ofString "by":Str)=Str.ofString "put")=False:=eq_false (by decide +kernel)
theorem sne_by_take:((Str.ofString "by":Str)=Str.ofString "take")=False:=eq_false (by decide +kernel)
theorem sne_by_pick:((Str.ofString "by":Str)=Str.ofString "pick")=False:=eq_false (by decide +kernel)
theorem sne_by_sum:((Str.ofString "by":Str)=Str.ofString "sum")=False:=eq_false (by decide +kernel)
theorem sne_by_less:((Str.ofString "by":Str)=Str.ofString "less")=False:=eq_false (by decide +kernel)
theorem sne_by_same:((Str.ofString "by":Str)=Str.ofString "same")=False:=eq_false (by decide +kernel)
theorem sne_by_if:((Str.ofString "by":Str)=Str.ofString "if")=False:=eq_false (by decide +kernel)
theorem sne_by_again:((Str.ofString "by":Str)=Str.ofString "again")=False:=eq_false (by decide +kernel)
theorem sne_less_put:((Str.ofString "less":Str)=Str.ofString "put")=False:=eq_false (by decide +kernel)
theorem sne_less_take:((Str.ofString "less":Str)=Str.ofString "take")=False:=eq_false (by decide +kernel)
theorem sne_less_pick:((Str.ofString "less":Str)=Str.ofString "pick")=False:=eq_false (by decide +kernel)
theorem sne_less_sum:((Str.ofString "less":Str)=Str.ofString "sum")=False:=eq_false (by decide +kernel)
theorem sne_less_by:((Str.ofString "less":Str)=Str.ofString "by")=False:=eq_false (by decide +kernel)
theorem sne_less_same:((Str.ofString "less":Str)=Str.ofString "same")=False:=eq_false (by decide +kernel)
theorem sne_less_if:((Str.ofString "less":Str)=Str.ofString "if")=False:=eq_false (by decide +kernel)
theorem sne_less_again:((Str.ofString "less":Str)=Str.ofString "again")=False:=eq_false (by decide +kernel)
theorem sne_same_put:((Str.ofString "same":Str)=Str.ofString "put")=False:=eq_false (by decide +kernel)
theorem sne_same_take:((Str.ofString "same":Str)=Str.ofString "take")=False:=eq_false (by decide +kernel)
theorem sne_same_pick:((Str.ofString "same":Str)=Str.ofString "pick")=False:=eq_false (by decide +kernel)
theorem sne_same_sum:((Str.ofString "same":Str)=Str.ofString "sum")=False:=eq_false (by decide +kernel)
theorem sne_same_by:((Str.ofString "same":Str)=Str.ofString "by")=False:=eq_false (by decide +kernel)
theorem sne_same_less:((Str.ofString "same":Str)=Str.ofString "less")=False:=eq_false (by decide +kernel)
theorem sne_same_if:((Str.ofString "same":Str)=Str.ofString "if")=False:=eq_false (by decide +kernel)
theorem sne_same_again:((Str.ofString "same":Str)=Str.ofString "again")=False:=eq_false (by decide +kernel)
theorem sne_if_again:((Str.ofString "if":Str)=Str.ofString "again")=False:=eq_false (by decide +kernel)
theorem sne_again_if:((Str.ofString "again":Str)=Str.ofString "if")=False:=eq_false (by decide +kernel)
end Tw
namespace L3
open PySem L2
theorem ok_nil{xs:List D}{M:Mem}:DIt.ok ⟨xs,[]⟩ M:=fun _ h=>by cases h
end L3
namespace Tw
open PySem L2 L3
noncomputable def RwOk(names:List Str)(m many:Int):Rw->Prop
 |.put x k=>x∈names/\0<=k/\k<m
 |.take x i=>x∈names/\0<=i/\i<many
 |.pick x y=>x∈names/\y∈names/\0<many
 |.two w x y z=>(w="sum"\/w="by"\/w="less"\/w="same")/\x∈names/\y∈names/\z∈names
 |_=>False
mutual
noncomputable def OkR(names:List Str)(m many:Int):Rw->Prop
 |.ifr x a b=>x∈names/\OkRs names m many a/\OkRs names m many b
 |.again x a=>x∈names/\OkRs names m many a
 |.put x k=>RwOk names m many (.put x k)
 |.take x k=>RwOk names m many (.take x k)
 |.pick x k=>RwOk names m many (.pick x k)
 |.two w x y z=>RwOk names m many (.two w x y z)
noncomputable def OkRs(names:List Str)(m many:Int):List Rw->Prop
 |[]=>True
 |r::rs=>OkR names m many r/\OkRs names m many rs
end
mutual
noncomputable def hR:Rw->Nat
 |.ifr _ a b=>1+max (hRs a) (hRs b)
 |.again _ a=>1+hRs a
 |_=>0
noncomputable def hRs:List Rw->Nat
 |[]=>0
 |r::rs=>max (hR r) (hRs rs)
end
end Tw
open PySem in
theorem Tw.SNE_all:((Str.ofString "put":Str)=Str.ofString "take")=False/\((Str.ofString "put":Str)=Str.ofString "pick")=False/\((Str.ofString "put":Str)=Str.ofString "if")=False/\((Str.ofString "put":Str)=Str.ofString "again")=False/\((Str.ofString "take":Str)=Str.ofString "put")=False/\((Str.ofString "take":Str)=Str.ofString "pick")=False/\((Str.ofString "take":Str)=Str.ofString "if")=False/\((Str.ofString "take":Str)=Str.ofString "again")=False/\((Str.ofString "pick":Str)=Str.ofString "put")=False/\((Str.ofString "pick":Str)=Str.ofString "take")=False/\((Str.ofString "pick":Str)=Str.ofString "if")=False/\((Str.ofString "pick":Str)=Str.ofString "again")=False/\((Str.ofString "sum":Str)=Str.ofString "put")=False/\((Str.ofString "sum":Str)=Str.ofString "take")=False/\((Str.ofString "sum":Str)=Str.ofString "pick")=False/\((Str.ofString "sum":Str)=Str.ofString "by")=False/\((Str.ofString "sum":Str)=Str.ofString "less")=False/\((Str.ofString "sum":Str)=Str.ofString "same")=False/\((Str.ofString "sum":Str)=Str.ofString "if")=False/\((Str.ofString "sum":Str)=Str.ofString "again")=False/\((Str.ofString "by":Str)=Str.ofString "put")=False/\((Str.ofString "by":Str)=Str.ofString "take")=False/\((Str.ofString "by":Str)=Str.ofString "pick")=False/\((Str.ofString "by":Str)=Str.ofString "sum")=False/\((Str.ofString "by":Str)=Str.ofString "less")=False/\((Str.ofString "by":Str)=Str.ofString "same")=False/\((Str.ofString "by":Str)=Str.ofString "if")=False/\((Str.ofString "by":Str)=Str.ofString "again")=False/\((Str.ofString "less":Str)=Str.ofString "put")=False/\((Str.ofString "less":Str)=Str.ofString "take")=False/\((Str.ofString "less":Str)=Str.ofString "pick")=False/\((Str.ofString "less":Str)=Str.ofString "sum")=False/\((Str.ofString "less":Str)=Str.ofString "by")=False/\((Str.ofString "less":Str)=Str.ofString "same")=False/\((Str.ofString "less":Str)=Str.ofString "if")=False/\((Str.ofString "less":Str)=Str.ofString "again")=False/\((Str.ofString "same":Str)=Str.ofString "put")=False/\((Str.ofString "same":Str)=Str.ofString "take")=False/\((Str.ofString "same":Str)=Str.ofString "pick")=False/\((Str.ofString "same":Str)=Str.ofString "sum")=False/\((Str.ofString "same":Str)=Str.ofString "by")=False/\((Str.ofString "same":Str)=Str.ofString "less")=False/\((Str.ofString "same":Str)=Str.ofString "if")=False/\((Str.ofString "same":Str)=Str.ofString "again")=False/\((Str.ofString "if":Str)=Str.ofString "again")=False/\((Str.ofString "again":Str)=Str.ofString "if")=False:=
 ⟨Tw.sne_put_take,Tw.sne_put_pick,Tw.sne_put_if,Tw.sne_put_again,Tw.sne_take_put,Tw.sne_take_pick,Tw.sne_take_if,Tw.sne_take_again,Tw.sne_pick_put,Tw.sne_pick_take,Tw.sne_pick_if,Tw.sne_pick_again,Tw.sne_sum_put,Tw.sne_sum_take,Tw.sne_sum_pick,Tw.sne_sum_by,Tw.sne_sum_less,Tw.sne_sum_same,Tw.sne_sum_if,Tw.sne_sum_again,Tw.sne_by_put,Tw.sne_by_take,Tw.sne_by_pick,Tw.sne_by_sum,Tw.sne_by_less,Tw.sne_by_same,Tw.sne_by_if,Tw.sne_by_again,Tw.sne_less_put,Tw.sne_less_take,Tw.sne_less_pick,Tw.sne_less_sum,Tw.sne_less_by,Tw.sne_less_same,Tw.sne_less_if,Tw.sne_less_again,Tw.sne_same_put,Tw.sne_same_take,Tw.sne_same_pick,Tw.sne_same_sum,Tw.sne_same_by,Tw.sne_same_less,Tw.sne_same_if,Tw.sne_same_again,Tw.sne_if_again,Tw.sne_again_if⟩
open PySem L2 L3 Tw
local macro_rules | `(tactic| simp_arith only [$a,*]) => do let p <- ("T_q13_1 T_q16_1 T_q16_2 T_q31_1 T_q22_1 T_q8_1 T_q8_2 T_q8_3 T_q8_4 T_q8_5 T_q8_6 T_q30_1 T_q30_2 T_q30_3 T_q30_4 T_q30_5 T_q30_6 T_q21_1 T_q5_1 T_q5_2 T_q1_1 T_q9_1 T_q9_2 T_q9_3 T_q15_1 T_q15_2 T_q15_3 T_q15_4 T_q15_5 T_q15_6 T_q15_7 T_q15_8 T_q15_9 T_q0_1 T_q0_2 T_q0_3 T_q0_4 T_q0_5 T_q0_6 T_q10_1 T_q10_2 T_q10_3 T_q26_1 T_q26_2 T_q26_3 T_q26_4 T_q26_5 T_q26_6 T_q26_7 T_q26_8 T_q11_1 T_q11_2 T_q11_3 T_q11_4 T_q11_5 T_q11_6 T_q11_7 T_q11_8 T_q25_1 T_q25_2 T_q25_3 T_q25_4 T_q25_5 T_q12_1 T_q27_1 T_q27_2 T_q27_3 T_q24_1 T_q24_2 T_q24_3 T_q24_4 T_q24_5 T_q24_6 T_q24_7 T_q24_8 T_q17_1 T_q17_2 T_q17_3 T_q29_1 T_q29_2 T_q29_3 T_q29_4 T_q29_5 T_q29_6 T_q29_7 T_q29_8 T_q29_9 T_q29_10 T_q29_11 T_q18_1 T_q18_2 T_q18_3 T_q18_4 T_q18_5 T_q18_6 T_q18_7 T_q18_8 T_q18_9 T_q23_1 T_q23_2 T_q23_3 T_q23_4 T_q23_5 T_q23_6 T_q23_7 T_q20_1 T_q20_2 T_q20_3 T_q20_4 T_q6_1 T_q6_2 T_q6_3 T_q6_4 T_q14_1 T_q14_2 T_q14_3 T_q14_4 T_q14_5 T_q7_1 T_q7_2 T_q7_3 T_q7_4 T_q7_5 T_q7_6 T_q7_7 T_q2_1 T_q2_2 T_q2_3 T_q2_4 T_q2_5 T_q2_6 T_q2_7 T_q3_1 T_q19_1 T_q19_2 T_q19_3 T_q19_4 T_q19_5 T_q19_6 T_q19_7 T_q19_8 T_q19_9 T_law_1 T_law_2 T_law_3 T_law_4 T_law_5 T_law_6 T_law_7 T_law_8 T_law_9 cStr mJoin mSplit cIntS oLeS wStr dListVals dDispS oIxT oInT dLenSet mClear dFldAdd dFail bodyD startN dSeq dIfS dTest dTru tru dOp oEq oNe dv fit fits deq deqs dVar dC dRet dIf dNext dNot dAnd dOr dAndV dOrV dNotV oI oI0 oMul oIx seqD seqL dFrz frz oAdd oIsN oNotN isNon oNeg dAsg hName hTup hCons hNil hSub sSet dCons dNil dTup dLst dCB cLen cList cTuple cInst tyName cAll bools cMin dFld dFldS dDrop dBM mAppend mExtend mPop strsOf dNewK keysOf keyOf keyT dget oSl dSl dPart dNoPart dCall dMeth dMake wSeq wRng1 wEnum wZip srcOf dAll dChain isIn oIn oNotIn".splitOn " ").toArray.mapM (fun s => `(Lean.Parser.Tactic.simpLemma| ↓$(Lean.mkIdent s.toName):ident)); let q <- ("List.map_cons List.map_nil List.cons_append List.nil_append List.length_cons List.length_nil List.getElem?_cons_succ List.getElem?_cons_zero List.set_cons_succ List.set_cons_zero Nat.zero_add Nat.reduceAdd Nat.reduceSub List.replicate_succ List.replicate_zero List.append_nil true_and and_true if_true if_false Bool.false_eq_true decide_eq_true_eq decide_eq_false_iff_not Bool.not_true Bool.not_false Bool.and_true Bool.true_and Bool.and_false Bool.false_and Mem.upd_same Option.isSome_some Option.isSome_none SNE_all".splitOn " ").toArray.mapM (fun s => `(Lean.Parser.Tactic.simpLemma| $(Lean.mkIdent s.toName):ident)); let r : Lean.TSyntaxArray [`Lean.Parser.Tactic.simpStar, `Lean.Parser.Tactic.simpErase, `Lean.Parser.Tactic.simpLemma] := (p.map (⟨·.raw⟩)) ++ (q.map (⟨·.raw⟩)) ++ a.getElems; `(tactic| simp -dsimp only [$r,*])
namespace Tw
open PySem L2 L3
structure Pt where
 p:Addr
 q:Addr
 ne:p≠q
noncomputable def Has(k:Pt)(M:Mem):Prop:=∃(cells:List Int) (t h sd:Int),cells.length<=63/\M k.p=some (.lst [.ref k.q,.int t,.int h,.int sd])/\M k.q=some (.lst (cells.map D.int))
noncomputable def Dr(k:Pt)(M M':Mem):Prop:=Has k M'/\∀b,b≠k.p->b≠k.q->M' b=M b
theorem Has.refl{k:Pt}{M:Mem}(h:Has k M):Dr k M M:=⟨h,fun _ _ _=>rfl⟩
theorem Dr.trans{k:Pt}{M M1 M2:Mem}(a:Dr k M M1)(b:Dr k M1 M2):Dr k M M2:=⟨b.1,fun x h1 h2=>(b.2 x h1 h2).trans (a.2 x h1 h2)⟩
theorem Has.nep{k:Pt}{M:Mem}(h:Has k M){l:Addr}(hl:M l=none):l≠k.p/\l≠k.q:=by
 obtain ⟨cells,t,hh,sd,_,e1,e2⟩:=h;exact ⟨fun e=>(by rw [e,e1] at hl;cases hl),fun e=>(by rw [e,e2] at hl;cases hl)⟩
theorem Has.upd{k:Pt}{M:Mem}{l:Addr}{o:MO}(h:Has k M)(h1:l≠k.p/\l≠k.q):Has k (M.upd l o):=by
 obtain ⟨cells,t,hh,sd,hc,e1,e2⟩:=h;exact ⟨cells,t,hh,sd,hc,by rw [Mem.upd_ne (Ne.symm h1.1)];exact e1,by rw [Mem.upd_ne (Ne.symm h1.2)];exact e2⟩
theorem Has.del{k:Pt}{M:Mem}{l:Addr}(h:Has k M)(h1:l≠k.p/\l≠k.q):Has k (M.del l):=by
 obtain ⟨cells,t,hh,sd,hc,e1,e2⟩:=h;refine ⟨cells,t,hh,sd,hc,?_,?_⟩
 ·unfold Mem.del;rw [if_neg (Ne.symm h1.1)];exact e1
 ·unfold Mem.del;rw [if_neg (Ne.symm h1.2)];exact e2
theorem Dr.none{k:Pt}{M M':Mem}(h0:Has k M)(h:Dr k M M'){l:Addr}(hl:M l=none):M' l=none:=by
 have:=h0.nep hl;rw [h.2 l this.1 this.2];exact hl
theorem fits_ints:∀(n:Nat) (cs:List Int),fits n (cs.map D.int)=true
 |_,[]=>by unfold fits;rfl
 |n,c::cs=>by
  rw [List.map_cons];unfold fits;rw [fits_ints n cs];cases n<;>rfl
theorem stirred_spec{ad:Ad}{M:Mem}{Q:DK}{E:DX}{a b:Int}(h:∀r,Q (.int r) M):S_q12 ad [.int a,.int b] M Q E:=by
 simp_arith only [u_q12,T_q12];refine ⟨.inr (by decide),.inr (by decide),by decide,⟨by decide,by decide⟩,.inr (by decide),by decide,⟨by decide,by decide⟩,drp_id (h _)⟩
theorem atL0{α:Type}{x:α}{xs:List α}:atI (x::xs) 0=some x:=by rw [atI_0];rfl
theorem emod_rng{a m:Int}(h:0<m):0<=a % m/\a % m<m:=⟨Int.emod_nonneg _ (by lia),Int.emod_lt_of_pos _ h⟩
theorem ixN_nn{n:Nat}{i:Int}(h:0<=i)(h2:i<n):ixN n i=some i.toNat:=by unfold ixN;rw [if_pos h,if_pos h2]
theorem ix0{n:Nat}:ixN (n+1) 0=some 0:=ixN_nn (by decide) (by lia)
theorem ix4_2:ixN 4 2=some 2:=rfl
theorem seq_go0{s u:dTS}{D0:DEnds}{δ:Dl}{M:Mem}(h:s { D0 with nx:=u D0 } δ M):dSeq s u D0 δ M:=h
theorem st_tick{D0:DEnds}{δ:Dl}{M:Mem}{k:Pt}{t hh sd:Int}(h0:δ[0]?=some (some (.ref k.p)))(e1:M k.p=some (.lst [.ref k.q,.int t,.int hh,.int sd]))(h:D0.nx δ (M.upd k.p (.lst [.ref k.q,.int (t+1),.int hh,.int sd]))):
  dAsg (dOp oAdd (dOp oIx (dVar 0) (dC (.int 1))) (dC (.int 1))) (hSub (dVar 0) (dC (.int 1))) D0 δ M:=by
 simp_arith only [h0,e1,atI_1,ixN_nn (n:=4) (i:=1) (by decide) (by decide),show (1:Int).toNat=1 from rfl]
 exact h
theorem st_rest{ad:Ad}{EE:DX}{D0:DEnds}{M:Mem}{k:Pt}{t hh sd many:Int}{c2:Option D}(h0:0<many)(h1:many<2 ^ 62)(e1:M k.p=some (.lst [.ref k.q,.int t,.int hh,.int sd]))
  (ha:∀r,D0.rt (.int (r % many)) M) (hb:D0.rt (.int (hh % many)) (M.upd k.p (.lst [.ref k.q,.int t,.int (hh / many),.int sd]))):
  (dSeq (dIfS (dTest (dOp oEq (dOp oIx (dVar 0) (dC (.int 2))) (dC (.int 0)))) (dRet (dOp oMod (dFrz (dCall (S_q12 ad) EE 2 (dCons (dOp oIx (dVar 0) (dC (.int 3))) (dCons (dOp oIx (dVar 0) (dC (.int 1))) dNil)))) (dVar 1))) dNext)
  (dSeq (dAsg (dOp oMod (dOp oIx (dVar 0) (dC (.int 2))) (dVar 1)) (hName 3))
  (dSeq (dAsg (dOp oFdiv (dOp oIx (dVar 0) (dC (.int 2))) (dVar 1)) (hSub (dVar 0) (dC (.int 2))))
  (dRet (dVar 3))))) D0 [some (.ref k.p),some (.int many),c2,none] M:=by
 simp_arith only [e1,atI_1,atI_2,atI_3]
 by_cases ez:hh=0
 ·rw [if_pos ez]
  refine calls_of fun Q' E' hq _=>stirred_spec fun r=>hq _ _ ?_;simp_arith only [];exact ⟨h0,ha r⟩
 ·rw [if_neg ez]
  simp_arith only [e1,ix4_2];exact ⟨h0,⟨h0,by lia⟩,hb⟩
theorem st_take{ad:Ad}{EE:DX}{D0:DEnds}{M:Mem}{k:Pt}{t hh sd many:Int}{cells:List Int}(h0:0<many)(e1:M k.p=some (.lst [.ref k.q,.int t,.int hh,.int sd]))(e2:M k.q=some (.lst (cells.map D.int)))
  (hA:D0.nx [some (.ref k.p),some (.int many),none,none] M)
  (hB:∀c cs,hh=0->cells=c::cs->∀r,D0.rt (.int (r % many)) (M.upd k.q (.lst (cs.map D.int))))
  (hC:∀c cs,hh=0->cells=c::cs->¬c<10 ^ Int.toNat 18->D0.nx [some (.ref k.p),some (.int many),some (.int c),none] ((M.upd k.q (.lst (cs.map D.int))).upd k.p (.lst [.ref k.q,.int t,.int c,.int sd]))):
  dIfS (dAnd (dTest (dOp oEq (dOp oIx (dVar 0) (dC (.int 2))) (dC (.int 0)))) (dTest (dOp oNe (dOp oIx (dVar 0) (dC (.int 0))) (dFrz (dLst dNil))))) (dSeq (dAsg (dBM "list" mPop (dOp oIx (dVar 0) (dC (.int 0))) (dCons (dC (.int 0)) dNil)) (hName 2))
   (dSeq (dIfS (dTest (dOp oLt (dVar 2) (dOp oPow (dC (.int 10)) (dC (.int 18))))) (dRet (dOp oMod (dFrz (dCall (S_q12 ad) EE 2 (dCons (dVar 2) (dCons (dOp oIx (dVar 0) (dC (.int 1))) dNil)))) (dVar 1))) dNext)
   (dAsg (dVar 2) (hSub (dVar 0) (dC (.int 2)))))) dNext D0 [some (.ref k.p),some (.int many),none,none] M:=by
 have hne:=k.ne;simp_arith only [e1,atI_2,atL0]
 by_cases ez:hh=0
 ·rw [if_pos ez]
  refine ⟨szl (by decide),fun p hp=>?_⟩
  simp only [Mem.upd_del,Mem.del_none hp,e2];cases cells with
  |nil=>
   simp_arith only [];exact hA
  |cons c cs=>
   have g2:∀o',(M.upd k.q o') k.p=some (.lst [.ref k.q,.int t,.int hh,.int sd]):=fun o'=>by rw [Mem.upd_ne hne,e1]
   simp_arith only [atL0,e1,e2,g2,fits_ints,ix0,ix4_2,List.eraseIdx_zero,List.tail_cons,atI_1,atI_2,atI_3];refine ⟨⟨by decide,by decide,by decide⟩,?_⟩
   by_cases hb:c<10 ^ Int.toNat 18
   ·rw [if_pos hb]
    refine calls_of fun Q' E' hq _=>stirred_spec fun r=>hq _ _ ?_;simp_arith only [];exact ⟨h0,hB c cs ez rfl r⟩
   ·rw [if_neg hb]
    exact hC c cs ez rfl hb
 ·rw [if_neg ez]
  exact hA
theorem draw_spec{ad:Ad}{M:Mem}{Q:DK}{E:DX}{k:Pt}{many:Int}(hp:Has k M)(h0:0<many)(h1:many<2 ^ 62)(h:∀r M',0<=r->r<many->Dr k M M'->Q (.int r) M'):
  S_q24 ad [.ref k.p,.int many] M Q E:=by
 obtain ⟨cells,t,hh,sd,hc,e1,e2⟩:=hp;have hne:=k.ne;have fin:∀(r:Int) (M':Mem) (cells':List Int) (t' hh' sd':Int),cells'.length<=63->(∀b,b≠k.p->b≠k.q->M' b=M b)->M' k.p=some (.lst [.ref k.q,.int t',.int hh',.int sd'])->M' k.q=some (.lst (cells'.map D.int))->drp Q (.int (r % many)) M':=by
  intro r M' cells' t' hh' sd' a1 a2 a3 a4;exact drp_id (h _ _ (emod_rng h0).1 (emod_rng h0).2 ⟨⟨cells',t',hh',sd',a1,a3,a4⟩,a2⟩)
 have g1:∀o,(M.upd k.p o) k.q=some (.lst (cells.map D.int)):=fun o=>by rw [Mem.upd_ne (Ne.symm hne)];exact e2
 rw [u_q24 (n:=0)];unfold T_q24;refine seq_go0 (st_tick rfl e1 ?_);dsimp only;refine seq_go0 (st_take h0 Mem.upd_same (g1 _) ?_ (fun c cs ez ec r=>?_) (fun c cs ez ec hb=>?_))
 ·dsimp only
  refine st_rest h0 h1 Mem.upd_same (fun r=>?_) ?_
  ·exact fin _ _ cells _ _ _ hc (fun b b1 b2=>Mem.upd_ne b1) Mem.upd_same (g1 _)
  ·exact fin _ _ cells _ _ _ hc (fun b b1 b2=>by rw [Mem.upd_ne b1,Mem.upd_ne b1]) Mem.upd_same (by rw [Mem.upd_ne (Ne.symm hne),g1])
 ·subst ec
  exact fin _ _ cs _ _ _ (by simp at hc;lia) (fun b b1 b2=>by rw [Mem.upd_ne b2,Mem.upd_ne b1]) (by rw [Mem.upd_ne hne,Mem.upd_same]) Mem.upd_same
 ·subst ec
  dsimp only;refine st_rest h0 h1 Mem.upd_same (fun r=>?_) ?_
  ·exact fin _ _ cs _ _ _ (by simp at hc;lia) (fun b b1 b2=>by rw [Mem.upd_ne b1,Mem.upd_ne b2,Mem.upd_ne b1]) Mem.upd_same (by rw [Mem.upd_ne (Ne.symm hne),Mem.upd_same])
  ·exact fin _ _ cs _ _ _ (by simp at hc;lia) (fun b b1 b2=>by rw [Mem.upd_ne b1,Mem.upd_ne b1,Mem.upd_ne b2,Mem.upd_ne b1]) Mem.upd_same (by rw [Mem.upd_ne (Ne.symm hne),Mem.upd_ne (Ne.symm hne),Mem.upd_same])
end Tw
namespace Tw
open PySem L2 L3
theorem cutD_hi{xs:List D}{k:Nat}:cutD xs none (some (k:Int))=xs.take k:=by
 unfold cutD;rw [HT.sIx_none,HT.sIx_nat,List.drop_zero,Nat.sub_zero];rcases Nat.le_total k xs.length with h|h
 ·rw [Nat.min_eq_left h]
 ·rw [Nat.min_eq_right h,List.take_of_length_le (Nat.le_refl _),List.take_of_length_le h]
theorem cutD_lo{xs:List D}{k:Nat}:cutD xs (some (k:Int)) none=xs.drop k:=by
 unfold cutD;rw [HT.sIx_none,HT.sIx_nat];rcases Nat.le_total k xs.length with h|h
 ·rw [Nat.min_eq_left h,List.take_of_length_le (by simp)]
 ·rw [Nat.min_eq_right h,List.drop_of_length_le (Nat.le_refl _),List.drop_of_length_le h];simp
theorem pot_spec{ad:Ad}{M:Mem}{Q:DK}{E:DX}{ns:List Int}(h:∀(k:Pt) M',Has k M'->(∀b,b≠k.p->b≠k.q->M' b=M b)->Q (.ref k.p) M'):S_q27 ad [.ml (ns.map D.int)] M Q E:=by
 have c63:cutD (ns.map D.int) none (some 63)=(ns.take 63).map D.int:=by rw [List.map_take];exact cutD_hi (k:=63)
 simp_arith only [u_q27,T_q27,dFor,c63];intro a ha;refine forD_inv (fun xs δ M'=>∃(cs:List Int) (sd:Int) (c2:Option D),xs=cs.map D.int/\δ=[some (.ml (ns.map D.int)),some (.int sd),c2]/\M'=M) (fun _ _ _ _=>ok_nil) ?_ ?_ _ _ _ ⟨ns.take 63,7,none,rfl,rfl,by rw [Mem.upd_del,Mem.del_none ha]⟩
 ·rintro δ M' ⟨cs,sd,c2,_,rfl,rfl⟩
  simp_arith only [c63];intro b hb;rw [Mem.upd_del,Mem.del_none hb];intro q hq;refine ⟨szl (by decide),fun p hp=>?_⟩
  have ne:p≠q:=by intro e;subst e;rw [Mem.upd_same] at hp;cases hp
  refine drp_id (h ⟨p,q,ne⟩ _ ⟨ns.take 63,0,0,sd,by simp;lia,Mem.upd_same,?_⟩ fun b b1 b2=>?_)
  ·show ((M'.upd q _).upd p _) q=_
   rw [Mem.upd_ne (Ne.symm ne),Mem.upd_same]
  ·rw [Mem.upd_ne b1,Mem.upd_ne b2]
 ·rintro x xs δ M' ⟨cs,sd,c2,e1,rfl,rfl⟩ D' hnx _ _ _
  cases cs with
  |nil=>simp at e1
  |cons c cs=>
   simp only [List.map_cons,List.cons.injEq] at e1;obtain ⟨rfl,rfl⟩:=e1;simp_arith only [];exact ⟨.inr (by decide),by decide,hnx _ _ ⟨cs,_,_,rfl,rfl,rfl⟩⟩
noncomputable def alpha:Str:="abcdefghijklmnopqrstuvwxyz"
theorem alpha_at:∀i<26,alpha.cps.toList[i]?=some (97+i):=by decide +kernel
theorem alpha_len:alpha.length<=sizeLine:=Nat.le_trans (show alpha.length<=100 by decide +kernel) (by decide)
theorem nodup_first{names:List Str}{t:Nat}(hl:names.length<=12)(h:∀(j:Nat) (hj:j<names.length),names[j].cps[0]?=some (97+(t+7*j) % 26)):names.Nodup:=by
 refine List.pairwise_iff_getElem.mpr fun i j hi hj hij e=>?_;have h1:=h i hi;have h2:=h j hj;rw [e,h2] at h1;have h3:=Option.some.inj h1;lia
noncomputable def OneC(x:Str):Prop:=∃(n c:Nat),1<=n/\n<=8/\97<=c/\c<=122/\x=⟨Array.replicate n c⟩
theorem names_spec{ad:Ad}{M:Mem}{Q:DK}{E:DX}{k:Pt}{many:Nat}(hp:Has k M)(h1:many<=12)(h:∀(names:List Str) (M':Mem),names.length=many->names.Nodup->(∀x∈names,OneC x)->Dr k M M'->Q (.tup (names.map D.str)) M'):S_q17 ad [.ref k.p,.int many] M Q E:=by
 simp_arith only [u_q17,T_q17,dFor];refine calls_of fun Q' E' hq _=>draw_spec hp (by decide) (by decide) fun turn M1 t0 t1 d1=>hq _ _ ?_
 simp_arith only [];refine ⟨szl (by decide),fun l hl=>?_⟩
 have nel:=d1.1.nep hl;refine ⟨by lia,by lia,?_⟩
 obtain ⟨t,rfl⟩:=Int.eq_ofNat_of_zero_le t0
 refine forD_inv (fun xs δ M'=>∃(j:Nat) (acc:List Str) (c4 c5:Option D),j<=many/\xs=(List.range' j (many-j)).map (fun (i:Nat)=>D.int (0+(i:Int)))/\δ=[some (.ref k.p),some (.int (many:Nat)),some (.int (t:Nat)),some (.ref l),c4,c5]/\acc.length=j/\(∀(i:Nat) (hi:i<acc.length),acc[i].cps[0]?=some (97+(t+7*i) % 26))/\(∀x∈acc,OneC x)/\
  Has k M'/\M' l=some (.lst (acc.map D.str))/\∀b,b≠k.p->b≠k.q->b≠l->M' b=M1 b) (fun _ _ _ _=>ok_nil) ?_ ?_ _ _ _ ⟨0,[],none,none,Nat.zero_le _,?_,rfl,rfl,?_,by simp,d1.1.upd nel,Mem.upd_same,fun b _ _ hb=>Mem.upd_ne hb⟩
 ·rintro δ M' ⟨j,acc,c4,c5,hj,e,rfl,ha,hf,hone,hh,hm,hs⟩
  have:j=many:=by
   have:=congrArg List.length e;simp at this;lia
  subst this;simp_arith only [hm];refine ⟨M'.del l,fun b o e=>?_,h acc _ ha (nodup_first (by lia) hf) hone ⟨hh.del nel,fun b b1 b2=>?_⟩⟩
  ·unfold Mem.del at e;split at e
   ·cases e
   ·exact e
  ·unfold Mem.del
   split
   ·rename_i e;subst e;rw [<- d1.2 b b1 b2];exact hl.symm
   ·rename_i e;rw [hs b b1 b2 e,d1.2 b b1 b2]
 ·rintro x xs δ M' ⟨j,acc,c4,c5,hj,e,rfl,ha,hf,hone,hh,hm,hs⟩ D' hnx _ _ _
  have hjl:j<many:=by
   have:=congrArg List.length e;simp at this;lia
  obtain ⟨n,hn⟩:∃n,many-j=n+1:=⟨many-j-1,by lia⟩
  rw [hn,List.range'_succ,List.map_cons,List.cons.injEq] at e;obtain ⟨rfl,rfl⟩:=e;have hidx:atI alpha.cps.toList (((t:Nat)+7*(0+(j:Int))) % 26)=some (97+(t+7*j) % 26):=by
   have:(((t:Nat):Int)+7*(0+(j:Int))) % 26=(((t+7*j) % 26:Nat):Int):=by lia
   rw [this,atI_nn (by lia),Int.toNat_natCast,alpha_at _ (by lia)]
  simp only [alpha] at hidx;simp_arith only [hidx,hm];refine ⟨.inl (by decide),by decide,alpha_len,?_⟩
  refine calls_of fun Q' E' hq _=>draw_spec hh (by decide) (by decide) fun r M2 r0 r1 d2=>hq _ _ ?_
  have hm2:M2 l=some (.lst (acc.map D.str)):=by rw [d2.2 l nel.1 nel.2];exact hm
  simp_arith only [hm2];refine ⟨by lia,by lia,by simp;exact szs (by lia),hnx _ _ ⟨j+1,acc++[⟨Array.replicate (1+r).toNat (97+(t+7*j) % 26)⟩],_,_,by lia,?_,rfl,by simp [ha],?_,?_,d2.1.upd nel,?_,?_⟩⟩
  ·rw [show many-(j+1)=n by lia]
  ·intro i hi
   by_cases hij:i<acc.length
   ·rw [List.getElem_append_left hij];exact hf i hij
   ·have:i=acc.length:=by simp at hi;lia
    subst this;rw [List.getElem_append_right (Nat.le_refl _)];simp only [Nat.sub_self,List.getElem_cons_zero];rw [Array.getElem?_replicate,if_pos (by lia),ha]
  ·intro x hx
   rcases List.mem_append.mp hx with hx|hx
   ·exact hone x hx
   ·simp at hx;subst hx
    exact ⟨(1+r).toNat,97+(t+7*j) % 26,by lia,by lia,by lia,by lia,rfl⟩
  ·rw [Mem.upd_same];simp
  ·intro b b1 b2 b3
   rw [Mem.upd_ne b3,d2.2 b b1 b2,hs b b1 b2 b3]
 ·simp [rngD,List.range_eq_range']
 ·intro i hi;simp at hi
end Tw
namespace Tw
open PySem L2 L3
@[simp] theorem atI_5 {α:Type} {xs:List α}:atI xs 5=xs[5]?:=atI_nn (by decide)
@[simp] theorem atI_6 {α:Type} {xs:List α}:atI xs 6=xs[6]?:=atI_nn (by decide)
@[simp] theorem atI_7 {α:Type} {xs:List α}:atI xs 7=xs[7]?:=atI_nn (by decide)
@[simp] theorem atI_8 {α:Type} {xs:List α}:atI xs 8=xs[8]?:=atI_nn (by decide)
theorem at_name{names:List Str}{r:Int}(h0:0<=r)(h1:r<names.length):∃y,y∈names/\atI (names.map D.str) r=some (.str y):=by
 have hr:r.toNat<names.length:=by lia
 refine ⟨names[r.toNat],List.getElem_mem hr,?_⟩;rw [atI_nn h0,List.getElem?_map,List.getElem?_eq_getElem hr];rfl
structure ToldOk(names:List Str)(m many:Int):Prop where
 m2:2<=m
 m1:m<=997
 n0:0<names.length
 n1:names.length<=12
 k0:0<=many
 k1:many<=40
noncomputable def toldD(names:List Str)(m many:Int):D:=.tup [.int m,.tup (names.map D.str),.int many]
theorem draw_call{ad:Ad}{M:Mem}{Q:DK}{EE:DX}{b:BxQ EE Q}{k:Pt}{many:Int}(hp:Has k M)(h0:0<many)(h1:many<2 ^ 62)(h:∀r M',0<=r->r<many->Dr k M M'->Q (.int r) M'):calls (S_q24 ad) EE [.ref k.p,.int many] M Q b:=
 calls_of fun Q' E' hq _=>draw_spec hp h0 h1 fun r M' r0 r1 d=>hq _ _ (h r M' r0 r1 d)
section
variable {ad:Ad}{EE:DX}{D0:DEnds}{δ:Dl}{M:Mem}{k:Pt}
theorem asg0{te:dTE}{i:Nat}(h:te δ M fun d M1=>D0.nx (δ.set i (some d)) M1):dAsg te (hName i) D0 δ M:=h
theorem var0{i:Nat}{d:D}(h:δ[i]?=some (some d)){K:DK}(hK:K d M):dVar i δ M K:=by simp only [dVar,h];exact hK
theorem ifs_go{i:Nat}{w c:Str}{A B:dTS}(hv:δ[i]?=some (some (.str w)))(h1:w=c->A D0 δ M)(h2:w≠c->B D0 δ M):dIfS (dTest (dOp oEq (dVar i) (dC (.str c)))) A B D0 δ M:=by
 have e:dIfS (dTest (dOp oEq (dVar i) (dC (.str c)))) A B D0 δ M=(if w=c then A D0 δ M else B D0 δ M):=by
  simp [dIfS,dTest,dOp,dVar,dC,oEq,fit,dv,deq,hv]
 rw [e]
 by_cases q:w=c
 ·rw [if_pos q];exact h1 q
 ·rw [if_neg q];exact h2 q
theorem dr_e{te:dTE}{v:Int}{K:DK}(h0:δ[0]?=some (some (.ref k.p)))(ht:∀K:DK,K (.int v) M->te δ M K)(hp:Has k M)(v0:0<v)(v1:v<2 ^ 62)(h:∀r M',0<=r->r<v->Dr k M M'->K (.int r) M'):
  dCall (S_q24 ad) EE 2 (dCons (dVar 0) (dCons te dNil)) δ M K:=by
 simp only [dCall,dCons,dVar,dNil,h0];refine ht _ ?_;exact ⟨rfl,draw_call hp v0 v1 h⟩
theorem frz_int{K:DK}{te:dTE}(h:te δ M fun d M'=>frz d M' K):dFrz te δ M K:=h
theorem drf_e{te:dTE}{v:Int}{K:DK}(h0:δ[0]?=some (some (.ref k.p)))(ht:∀K:DK,K (.int v) M->te δ M K)(hp:Has k M)(v0:0<v)(v1:v<2 ^ 62)(h:∀r M',0<=r->r<v->Dr k M M'->K (.int r) M'):
  dFrz (dCall (S_q24 ad) EE 2 (dCons (dVar 0) (dCons te dNil))) δ M K:=
 frz_int (dr_e h0 ht hp v0 v1 fun r M' a b d=>by simp only [frz];exact h r M' a b d)
theorem nm_e{i:Nat}{names:List Str}{K:DK}(h0:δ[0]?=some (some (.ref k.p)))(h3:δ[i]?=some (some (.tup (names.map D.str))))(hp:Has k M)(n0:0<names.length)(n1:names.length<=12)(h:∀x M',x∈names->Dr k M M'->K (.str x) M'):
  dOp oIx (dVar i) (dFrz (dCall (S_q24 ad) EE 2 (dCons (dVar 0) (dCons (dCB cLen (dCons (dVar i) dNil)) dNil)))) δ M K:=by
 have hl:∀K:DK,K (.int names.length) M->dCB cLen (dCons (dVar i) dNil) δ M K:=fun K hK=>by
  simp_arith only [h3,List.length_map];exact hK
 simp only [dOp];refine var0 h3 (drf_e h0 hl hp (by lia) (by lia) fun r M' a b d=>?_)
 obtain ⟨x,hx,ex⟩:=at_name a b;simp_arith only [ex];exact h x M' hx d
theorem ret3{a b:D}{i j:Nat}{te:dTE}(hi:δ[i]?=some (some a))(hj:δ[j]?=some (some b))(h:te δ M fun d M'=>3<=sizeLine/\D0.rt (.tup [a,b,d]) M'):dRet (dTup (dCons (dVar i) (dCons (dVar j) (dCons te dNil)))) D0 δ M:=by
 simp only [dRet,dTup,dCons,dNil,dVar,hi,hj];exact h
theorem ret4{a b c:D}{i j l:Nat}{te:dTE}(hi:δ[i]?=some (some a))(hj:δ[j]?=some (some b))(hl:δ[l]?=some (some c))(h:te δ M fun d M'=>4<=sizeLine/\D0.rt (.tup [a,b,c,d]) M'):dRet (dTup (dCons (dVar i) (dCons (dVar j) (dCons (dVar l) (dCons te dNil))))) D0 δ M:=by
 simp only [dRet,dTup,dCons,dNil,dVar,hi,hj,hl];exact h
theorem told_go{a:Option D}{names:List Str}{m many:Int}{s:Dl}(h:D0.nx (a::some (toldD names m many)::some (.int m)::some (.tup (names.map D.str))::some (.int many)::s) M){b c d:Option D}:
  dAsg (dVar 1) (hTup 3 (hCons (hName 2) (hCons (hName 3) (hCons (hName 4) hNil)))) D0 (a::some (toldD names m many)::b::c::d::s) M:=by
 unfold toldD at h ⊢;simp_arith only [];exact h
end
noncomputable def waysL:List Str:=["put","sum","by","less","same","sum","put","take","pick"]
noncomputable def WayOk(many:Int)(w:Str):Prop:=w="put"\/(w="sum"\/w="by"\/w="less"\/w="same")\/(0<many/\(w="take"\/w="pick"))
section
variable {ad:Ad}{EE:DX}{D0:DEnds}{δ:Dl}{M:Mem}{k:Pt}{many:Int}
theorem ways_go(h:D0.nx (δ.set 5 (some (.lst (waysL.map D.str)))) M):
  dAsg (dFrz (dLst (dCons (dC (.str "put")) (dCons (dC (.str "sum")) (dCons (dC (.str "by")) (dCons (dC (.str "less")) (dCons (dC (.str "same")) (dCons (dC (.str "sum")) (dCons (dC (.str "put")) (dCons (dC (.str "take")) (dCons (dC (.str "pick")) dNil))))))))))) (hName 5) D0 δ M:=by
 simp_arith only [];refine ⟨szl (by decide),fun p hpn=>?_⟩
 rw [Mem.upd_del,Mem.del_none hpn];exact h
theorem way_ok(r:Nat)(h1:r<if 0<many then 9 else 7):∃w,atI (waysL.map D.str) (r:Int)=some (.str w)/\WayOk many w:=by
 rw [atI_nn (by lia),Int.toNat_natCast]
 by_cases hm:0<many
 ·rw [if_pos hm] at h1
  match r,h1 with
  |0,_=>exact ⟨_,rfl,.inl rfl⟩
  |1,_=>exact ⟨_,rfl,.inr (.inl (.inl rfl))⟩
  |2,_=>exact ⟨_,rfl,.inr (.inl (.inr (.inl rfl)))⟩
  |3,_=>exact ⟨_,rfl,.inr (.inl (.inr (.inr (.inl rfl))))⟩
  |4,_=>exact ⟨_,rfl,.inr (.inl (.inr (.inr (.inr rfl))))⟩
  |5,_=>exact ⟨_,rfl,.inr (.inl (.inl rfl))⟩
  |6,_=>exact ⟨_,rfl,.inl rfl⟩
  |7,_=>exact ⟨_,rfl,.inr (.inr ⟨hm,.inl rfl⟩)⟩
  |8,_=>exact ⟨_,rfl,.inr (.inr ⟨hm,.inr rfl⟩)⟩
 ·rw [if_neg hm] at h1
  match r,h1 with
  |0,_=>exact ⟨_,rfl,.inl rfl⟩
  |1,_=>exact ⟨_,rfl,.inr (.inl (.inl rfl))⟩
  |2,_=>exact ⟨_,rfl,.inr (.inl (.inr (.inl rfl)))⟩
  |3,_=>exact ⟨_,rfl,.inr (.inl (.inr (.inr (.inl rfl))))⟩
  |4,_=>exact ⟨_,rfl,.inr (.inl (.inr (.inr (.inr rfl))))⟩
  |5,_=>exact ⟨_,rfl,.inr (.inl (.inl rfl))⟩
  |6,_=>exact ⟨_,rfl,.inl rfl⟩
theorem way_e{K:DK}(h0:δ[0]?=some (some (.ref k.p)))(h4:δ[4]?=some (some (.int many)))(h5:δ[5]?=some (some (.lst (waysL.map D.str))))(hp:Has k M)(h:∀w M',WayOk many w->Dr k M M'->K (.str w) M'):
  dOp oIx (dVar 5) (dFrz (dCall (S_q24 ad) EE 2 (dCons (dVar 0) (dCons (dIf (dTest (dOp oGt (dVar 4) (dC (.int 0)))) (dC (.int 9)) (dC (.int 7))) dNil)))) δ M K:=by
 have hl:∀K:DK,K (.int (if 0<many then 9 else 7)) M->dIf (dTest (dOp oGt (dVar 4) (dC (.int 0)))) (dC (.int 9)) (dC (.int 7)) δ M K:=fun K hK=>by
  simp_arith only [h4]
  by_cases hm:0<many
  ·rw [if_pos hm] at hK ⊢;exact hK
  ·rw [if_neg hm] at hK ⊢;exact hK
 simp only [dOp];refine var0 h5 (drf_e h0 hl hp (by split<;>decide) (by split<;>decide) fun r M' a b d=>?_)
 obtain ⟨r,rfl⟩:=Int.eq_ofNat_of_zero_le a;obtain ⟨w,ew,hw⟩:=way_ok (many:=many) r (by split at b<;>(split<;>lia))
 simp_arith only [ew];exact h w M' hw d
end
theorem row_spec{ad:Ad}{M:Mem}{Q:DK}{E:DX}{k:Pt}{names:List Str}{m many:Int}(hp:Has k M)(ht:ToldOk names m many)(h:∀(r:Rw) M',RwOk names m many r->Dr k M M'->Q r.d M'):S_q29 ad [.ref k.p,toldD names m many] M Q E:=by
 obtain ⟨m2,m1,n0,n1,k0,k1⟩:=ht;rw [u_q29 (n:=0)];unfold T_q29;refine seq_go0 (told_go ?_);dsimp only;refine seq_go0 (ways_go ?_);dsimp only;refine seq_go0 (asg0 (way_e rfl rfl rfl hp fun w M1 hw d1=>?_));dsimp only;refine seq_go0 (asg0 (nm_e rfl rfl d1.1 n0 n1 fun x M2 hx d2=>?_));dsimp only;refine seq_go0 (ifs_go rfl (fun e=>?_) fun e1=>?_)
 ·subst e
  refine ret3 rfl rfl (dr_e rfl (fun K q=>var0 rfl q) d2.1 (by lia) (by lia) fun r M3 a b d3=>?_)
  exact ⟨szl (by decide),drp_id (h (.put x r) M3 ⟨hx,a,b⟩ (d1.trans (d2.trans d3)))⟩
 dsimp only [dNext];refine seq_go0 (ifs_go rfl (fun e=>?_) fun e2=>?_)
 ·subst e
  have hm:0<many:=by
   rcases hw with e|(e|e|e|e)|e
   ·exact (e1 e).elim
   ·exact absurd e (by decide +kernel)
   ·exact absurd e (by decide +kernel)
   ·exact absurd e (by decide +kernel)
   ·exact absurd e (by decide +kernel)
   ·exact e.1
  refine ret3 rfl rfl (dr_e rfl (fun K q=>var0 rfl q) d2.1 (by lia) (by lia) fun r M3 a b d3=>?_)
  exact ⟨szl (by decide),drp_id (h (.take x r) M3 ⟨hx,a,b⟩ (d1.trans (d2.trans d3)))⟩
 dsimp only [dNext];refine seq_go0 (asg0 (nm_e rfl rfl d2.1 n0 n1 fun y M3 hy d3=>?_));dsimp only;refine seq_go0 (ifs_go rfl (fun e=>?_) fun e3=>?_)
 ·subst e
  have hm:0<many:=by
   rcases hw with e|(e|e|e|e)|e
   ·exact (e1 e).elim
   ·exact absurd e (by decide +kernel)
   ·exact absurd e (by decide +kernel)
   ·exact absurd e (by decide +kernel)
   ·exact absurd e (by decide +kernel)
   ·exact e.1
  exact ret3 rfl rfl (var0 rfl ⟨szl (by decide),drp_id (h (.pick x y) M3 ⟨hx,hy,hm⟩ (d1.trans (d2.trans d3)))⟩)
 dsimp only [dNext];have w4:w="sum"\/w="by"\/w="less"\/w="same":=by
  rcases hw with e|e|⟨_,e|e⟩
  ·exact (e1 e).elim
  ·exact e
  ·exact (e2 e).elim
  ·exact (e3 e).elim
 refine ret4 rfl rfl rfl (nm_e rfl rfl d3.1 n0 n1 fun z M4 hz d4=>?_);exact ⟨szl (by decide),drp_id (h (.two w x y z) M4 ⟨w4,hx,hy,hz⟩ (d1.trans (d2.trans (d3.trans d4))))⟩
end Tw
namespace Tw
open PySem L2 L3
mutual
noncomputable def LnR:Rw->Prop
 |.ifr _ a b=>(a.length<=200/\LnRs a)/\b.length<=200/\LnRs b
 |.again _ a=>a.length<=200/\LnRs a
 |_=>True
noncomputable def LnRs:List Rw->Prop
 |[]=>True
 |r::rs=>LnR r/\LnRs rs
end
theorem LnRs_append:∀{a b:List Rw},LnRs (a++b)↔LnRs a/\LnRs b
 |[],b=>by simp [LnRs]
 |r::a,b=>by simp [LnRs,LnRs_append,and_assoc]
mutual
noncomputable def cR:Rw->Nat
 |.ifr _ a b=>1+cRs a+cRs b
 |.again _ a=>1+cRs a
 |.put _ _=>1
 |.take _ _=>1
 |.pick _ _=>1
 |.two _ _ _ _=>1
noncomputable def cRs:List Rw->Nat
 |[]=>0
 |r::rs=>cR r+cRs rs
end
theorem cRs_append:∀{a b:List Rw},cRs (a++b)=cRs a+cRs b
 |[],b=>by simp [cRs]
 |r::a,b=>by simp only [List.cons_append,cRs,cRs_append];lia
theorem cR_of{names:List Str}{m many:Int}{r:Rw}(h:RwOk names m many r):cR r=1:=by
 cases r with
 |ifr=>exact h.elim
 |again=>exact h.elim
 |_=>simp only [cR]
noncomputable def Rv(rm:Addr)(M:Mem)(v:Int):Prop:=M rm=some (.lst [.int v])/\0<=v
noncomputable def Kp(k:Pt)(rm:Addr)(M M':Mem):Prop:=Has k M'/\(∃v:Int,M' rm=some (.lst [.int v]))/\∀b o,b≠k.p->b≠k.q->b≠rm->M b=some o->M' b=some o
theorem Kp.trans{k:Pt}{rm:Addr}{M M1 M2:Mem}(a:Kp k rm M M1)(b:Kp k rm M1 M2):Kp k rm M M2:=⟨b.1,b.2.1,fun x o h1 h2 h3 h=>b.2.2 x o h1 h2 h3 (a.2.2 x o h1 h2 h3 h)⟩
structure Rm(k:Pt)(rm:Addr)(M:Mem):Prop where
 h:Has k M
 n1:rm≠k.p
 n2:rm≠k.q
 v:∃v:Int,M rm=some (.lst [.int v])
theorem Rm.kp{k:Pt}{rm:Addr}{M:Mem}(r:Rm k rm M):Kp k rm M M:=⟨r.h,r.v,fun _ _ _ _ _ e=>e⟩
theorem Rm.go{k:Pt}{rm:Addr}{M M':Mem}(r:Rm k rm M)(d:Kp k rm M M'):Rm k rm M':=⟨d.1,r.n1,r.n2,d.2.1⟩
theorem Rm.dr{k:Pt}{rm:Addr}{M M':Mem}(r:Rm k rm M)(d:Dr k M M'):Kp k rm M M':=⟨d.1,by obtain ⟨v,e⟩:=r.v;exact ⟨v,by rw [d.2 rm r.n1 r.n2];exact e⟩,fun b o h1 h2 _ e=>by rw [d.2 b h1 h2];exact e⟩
theorem Rm.new{k:Pt}{rm:Addr}{M:Mem}(r:Rm k rm M){l:Addr}(hl:M l=none)(o:MO):Kp k rm M (M.upd l o):=by
 have a:=r.h.nep hl;obtain ⟨v,e⟩:=r.v;have b:rm≠l:=Mem.ne e hl;exact ⟨r.h.upd a,⟨v,by rw [Mem.upd_ne b];exact e⟩,fun c o _ _ _ e=>by rw [Mem.upd_ne (Mem.ne e hl)];exact e⟩
theorem Rm.set{k:Pt}{rm:Addr}{M:Mem}(r:Rm k rm M)(v:Int):Kp k rm M (M.upd rm (.lst [.int v])):=
 ⟨r.h.upd ⟨r.n1,r.n2⟩,⟨v,Mem.upd_same⟩,fun c o _ _ h e=>by rw [Mem.upd_ne h];exact e⟩
section
variable {ad:Ad}{k:Pt}{rm:Addr}{names:List Str}{m many:Int}
noncomputable def PRo(ad:Ad)(k:Pt)(rm:Addr)(names:List Str)(m many:Int)(n:Nat):Prop:=∀(deep:Nat) (most:Int) (M:Mem) (Q:DK) (E:DX),deep<=4->2*(4-deep)+1<=n->0<most->most<=30->Rm k rm M->∀v:Int,Rv rm M v->
 (∀(rs:List Rw) (M':Mem),(∃v',Rv rm M' v'/\(cRs rs:Int)+v'<=v)->OkRs names m many rs/\LnRs rs->hRs rs+deep<=4->rs.length<=100->Kp k rm M M'->Q (.tup (rowsD rs)) M')->S_q23 ad n [.ref k.p,toldD names m many,.ref rm,.int deep,.int most] M Q E
noncomputable def PBl(ad:Ad)(k:Pt)(rm:Addr)(names:List Str)(m many:Int)(n:Nat):Prop:=∀(deep:Nat) (M:Mem) (Q:DK) (E:DX),deep<4->2*(4-deep)<=n->Rm k rm M->∀v:Int,Rv rm M v->
 (∀(rs:List Rw) (l:Addr) (M':Mem),(∃v',Rv rm M' v'/\(cRs rs:Int)+v'<=v+4)->OkRs names m many rs/\LnRs rs->hRs rs+deep<=4->rs.length<=3->Kp k rm M M'->M' l=none->Q (.ref l) (M'.upd l (.lst (rowsD rs))))->S_q18 ad n [.ref k.p,toldD names m many,.ref rm,.int deep] M Q E
theorem OkRs_append:∀{a b:List Rw},OkRs names m many (a++b)↔OkRs names m many a/\OkRs names m many b
 |[],b=>by simp [OkRs]
 |r::a,b=>by simp [OkRs,OkRs_append,and_assoc]
theorem hRs_append:∀{a b:List Rw},hRs (a++b)=max (hRs a) (hRs b)
 |[],b=>by simp [hRs]
 |r::a,b=>by simp only [List.cons_append,hRs,hRs_append,Nat.max_assoc]
theorem rowsD_append:∀{a b:List Rw},rowsD (a++b)=rowsD a++rowsD b
 |[],b=>rfl
 |r::a,b=>by simp [rowsD,rowsD_append]
theorem rowsD_len:∀{a:List Rw},(rowsD a).length=a.length
 |[]=>rfl
 |r::a=>by simp [rowsD,rowsD_len]
theorem OkR_of{r:Rw}(h:RwOk names m many r):OkR names m many r:=by
 cases r with
 |ifr=>exact h.elim
 |again=>exact h.elim
 |_=>simpa only [OkR] using h
theorem hR_of{r:Rw}(h:RwOk names m many r):hR r=0:=by
 cases r with
 |ifr=>exact h.elim
 |again=>exact h.elim
 |_=>simp only [hR]
theorem LnR_of{r:Rw}(h:RwOk names m many r):LnR r:=by
 cases r with
 |ifr=>exact h.elim
 |again=>exact h.elim
 |_=>simp only [LnR]
theorem block_step(ht:ToldOk names m many){n:Nat}(ih:PRo ad k rm names m many n):PBl ad k rm names m many (n+1):=by
 intro deep M Q E hd hn r v rv h;obtain ⟨m2,m1,n0,n1,k0,k1⟩:=ht;have dd:(deep:Int)+1=((deep+1:Nat):Int):=by lia
 simp_arith only [u_q18,T_q18,toldD,List.length_map];refine draw_call r.h (by lia) (by lia) fun r1 M1 a1 b1 d1=>?_
 have R1:=r.go (r.dr d1);have rv1:Rv rm M1 v:=⟨by rw [d1.2 rm r.n1 r.n2];exact rv.1,rv.2⟩
 obtain ⟨x,hx,ex⟩:=at_name a1 b1;simp_arith only [ex,dd];refine calls_of fun Q' E' hq _=>ih (deep+1) 5 M1 Q' E' (by lia) (by lia) (by decide) (by decide) R1 v rv1 fun first M2 c2 o2 h2 l2 d2=>hq _ _ ?_
 obtain ⟨v2,rv2,c2⟩:=c2;have R2:=R1.go d2;simp_arith only [];refine draw_call R2.h (by decide) (by decide) fun w M3 a3 b3 d3=>?_
 have R3:=R2.go (R2.dr d3);have rv3:Rv rm M3 v2:=⟨by rw [d3.2 rm r.n1 r.n2];exact rv2.1,rv2.2⟩
 simp_arith only [dd]
 by_cases hw:w<2
 ·rw [if_pos hw]
  refine calls_of fun Q' E' hq _=>ih (deep+1) 5 M3 Q' E' (by lia) (by lia) (by decide) (by decide) R3 v2 rv3 fun second M4 c4 o4 h4 l4 d4=>hq _ _ ?_
  obtain ⟨v4,rv4,c4⟩:=c4;simp_arith only [];refine ⟨szl (by decide),szl (by decide),fun l hl=>drp_id (h [.ifr x first second] l M4 ⟨v4,rv4,by simp only [cRs,cR];lia⟩ ?_ ?_ (by simp) ((r.dr d1).trans (d2.trans ((R2.dr d3).trans d4))) hl)⟩
  ·simp only [OkRs,OkR,LnRs,LnR];exact ⟨⟨⟨hx,o2.1,o4.1⟩,trivial⟩,⟨⟨by lia,o2.2⟩,by lia,o4.2⟩,trivial⟩
  ·simp only [hRs,hR];lia
 ·rw [if_neg hw]
  by_cases hw2:w=2
  ·rw [if_pos hw2]
   refine ⟨szl (by decide),szl (by decide),fun l hl=>drp_id (h [.again x first] l M3 ⟨v2,rv3,by simp only [cRs,cR];lia⟩ ?_ ?_ (by simp) ((r.dr d1).trans (d2.trans (R2.dr d3))) hl)⟩
   ·simp only [OkRs,OkR,LnRs,LnR];exact ⟨⟨⟨hx,o2.1⟩,trivial⟩,⟨by lia,o2.2⟩,trivial⟩
   ·simp only [hRs,hR];lia
  ·rw [if_neg hw2]
   simp only [List.length_map];refine draw_call R3.h (by lia) (by lia) fun r4 M4 a4 b4 d4=>?_
   have R4:=R3.go (R3.dr d4);obtain ⟨y,hy,ey⟩:=at_name a4 b4;simp_arith only [ey];refine draw_call R4.h (by split<;>lia) (by split<;>lia) fun r5 M5 a5 b5 d5=>?_
   have b5':r5<m:=by split at b5<;>lia
   simp_arith only [];refine ⟨szl (by decide),szl (by decide),szl (by decide),szl (by decide),szl (by rw [rowsD_len];lia),szl (by decide),szl (by decide),fun l hl=>drp_id ?_⟩
   have:=h [.put x r5,.put y (m-1),.again x (first++[.two "sum" x x y])] l M5 ⟨v2,⟨by rw [d5.2 rm r.n1 r.n2,d4.2 rm r.n1 r.n2];exact rv3.1,rv3.2⟩,by simp only [cRs,cR,cRs_append];lia⟩ ?_ ?_ (by simp) ((r.dr d1).trans (d2.trans ((R2.dr d3).trans ((R3.dr d4).trans (R4.dr d5))))) hl
   ·simp only [rowsD,Rw.d,rowsD_append] at this
    exact this
   ·simp only [OkRs,OkR,RwOk,OkRs_append,LnRs,LnR,LnRs_append]
    exact ⟨⟨⟨hx,a5,b5'⟩,⟨hy,by lia,by lia⟩,⟨hx,o2.1,⟨.inl trivial,hx,hx,hy⟩,trivial⟩,trivial⟩,trivial,trivial,⟨by simp;lia,o2.2,trivial,trivial⟩,trivial⟩
   ·simp only [hRs,hR,hRs_append];lia
theorem frz_d{r:Rw}{M:Mem}{Q:DK}:frz r.d M Q=Q r.d M:=by cases r<;>rfl
theorem room_go{c v:Int}{D0:DEnds}{δ:Dl}{M:Mem}(h2:δ[2]?=some (some (.ref rm)))(hv:M rm=some (.lst [.int v]))(h:D0.nx δ (M.upd rm (.lst [.int (v-c)]))):
  dAsg (dOp oSub (dOp oIx (dVar 2) (dC (.int 0))) (dC (.int c))) (hSub (dVar 2) (dC (.int 0))) D0 δ M:=by
 simp_arith only [h2,hv,atL0,ix0];exact h
theorem rif_go{EE:DX}{A B:dTS}{D0:DEnds}{δ:Dl}{M:Mem}{v:Int}{deep:Int}(h0:δ[0]?=some (some (.ref k.p)))(h2:δ[2]?=some (some (.ref rm)))(h3:δ[3]?=some (some (.int deep)))(hp:Has k M)(hv:M rm=some (.lst [.int v]))
  (hA:∀M',4<v->deep<4->Dr k M M'->A D0 δ M') (hB:∀M',Dr k M M'->B D0 δ M'):
  dIfS (dAnd (dTest (dOp oGt (dOp oIx (dVar 2) (dC (.int 0))) (dC (.int 4)))) (dAnd (dTest (dOp oLt (dVar 3) (dC (.int 4)))) (dTest (dOp oEq (dFrz (dCall (S_q24 ad) EE 2 (dCons (dVar 0) (dCons (dC (.int 4)) dNil)))) (dC (.int 0)))))) A B D0 δ M:=by
 simp_arith only [h0,h2,h3,hv,atL0]
 by_cases h4:4<v
 ·rw [if_pos h4]
  by_cases h5:deep<4
  ·rw [if_pos h5]
   refine draw_call hp (by decide) (by decide) fun w M2 a2 b2 d2=>?_
   simp_arith only []
   by_cases h6:w=0
   ·rw [if_pos h6];exact hA _ h4 h5 d2
   ·rw [if_neg h6];exact hB _ d2
  ·rw [if_neg h5];exact hB _ hp.refl
 ·rw [if_neg h4];exact hB _ hp.refl
theorem rpos_go{A:dTS}{D0:DEnds}{δ:Dl}{M:Mem}{v:Int}(h2:δ[2]?=some (some (.ref rm)))(hv:M rm=some (.lst [.int v]))(hA:0<v->A D0 δ M)(hB:D0.nx δ M):
  dIfS (dTest (dOp oGt (dOp oIx (dVar 2) (dC (.int 0))) (dC (.int 0)))) A dNext D0 δ M:=by
 simp_arith only [h2,hv,atL0]
 by_cases h4:0<v
 ·rw [if_pos h4];exact hA h4
 ·rw [if_neg h4];exact hB
theorem rapp_go{EE:DX}{D0:DEnds}{δ:Dl}{M:Mem}{l:Addr}{acc:List Rw}(h0:δ[0]?=some (some (.ref k.p)))(h1:δ[1]?=some (some (toldD names m many)))(h5:δ[5]?=some (some (.ref l)))(hp:Has k M)(ht:ToldOk names m many)(n1:l≠k.p)(n2:l≠k.q)
  (hl:M l=some (.lst (rowsD acc))) (ha:acc.length<=1000) (h:∀(r:Rw) M',RwOk names m many r->Dr k M M'->D0.nx δ (M'.upd l (.lst (rowsD acc++[r.d])))):
  dDrop (dBM "list" mAppend (dVar 5) (dCons (dFrz (dCall (S_q29 ad) EE 2 (dCons (dVar 0) (dCons (dVar 1) dNil)))) dNil)) D0 δ M:=by
 simp_arith only [h0,h1,h5,hl];refine calls_of fun Q' E' hq _=>row_spec hp ht fun rw1 M3 ok3 d3=>hq _ _ ?_;have hl3:M3 l=some (.lst (rowsD acc)):=by rw [d3.2 l n1 n2];exact hl
 have fin:=h rw1 M3 ok3 d3;have sz:(rowsD acc).length+1<=sizeLine:=by rw [rowsD_len];exact szs (by lia)
 rw [frz_d];simp_arith only [hl3];exact ⟨sz,fin⟩
theorem rblk_go{n:Nat}(ih:PBl ad k rm names m many n){EE:DX}{D0:DEnds}{δ:Dl}{M:Mem}{l:Addr}{acc:List Rw}{deep:Nat}(h0:δ[0]?=some (some (.ref k.p)))(h1:δ[1]?=some (some (toldD names m many)))(h2:δ[2]?=some (some (.ref rm)))(h3:δ[3]?=some (some (.int deep)))(h5:δ[5]?=some (some (.ref l)))
  (hd:deep<4) (hn:2*(4-deep)<=n) (R:Rm k rm M) (n1:l≠k.p) (n2:l≠k.q) (n3:l≠rm) (hl:M l=some (.lst (rowsD acc))) (ha:acc.length<=1000) {v:Int} (rv:Rv rm M v)
  (h:∀(rs:List Rw) (l3:Addr) (M':Mem),(∃v',Rv rm M' v'/\(cRs rs:Int)+v'<=v+4)->OkRs names m many rs/\LnRs rs->hRs rs+deep<=4->rs.length<=3->Kp k rm M M'->M' l3=none->D0.nx (δ.set 5 (some (.ref l3))) (M'.upd l3 (.lst (rowsD acc++rowsD rs)))):
  dAsg (dOp oAdd (dVar 5) (dFrz (dCall (S_q18 ad n) EE 4 (dCons (dVar 0) (dCons (dVar 1) (dCons (dVar 2) (dCons (dVar 3) dNil))))))) (hName 5) D0 δ M:=by
 simp_arith only [h0,h1,h2,h3,h5];refine calls_of fun Q' E' hq _=>ih deep M Q' E' hd hn R v rv fun bl l2 M3 c3 ok3 hh len3 k3 nl3=>hq _ _ ?_;have hm3:M3 l=some (.lst (rowsD acc)):=k3.2.2 l _ n1 n2 n3 hl;simp_arith only [Mem.upd_del,Mem.del_none nl3,hm3];exact ⟨by rw [rowsD_len,rowsD_len];exact szl (by lia),fun l3 hl3=>h bl l3 M3 c3 ok3 hh len3 k3 hl3⟩
structure RInv(k:Pt)(rm:Addr)(names:List Str)(m many:Int)(M:Mem)(v:Int)(deep:Nat)(n j:Nat)(acc:List Rw)(l:Addr)(M':Mem):Prop where
 cv:∃v',Rv rm M' v'/\(cRs acc:Int)+v'<=v
 hj:n+j<=30
 ha:acc.length<=3*j
 ok:OkRs names m many acc
 ln:LnRs acc
 hh:hRs acc+deep<=4
 kp:Kp k rm M M'
 hm:M' l=some (.lst (rowsD acc))
 n1:l≠k.p
 n2:l≠k.q
 n3:l≠rm
 h0:M l=none
theorem RInv.len{M:Mem}{v:Int}{deep n j:Nat}{acc:List Rw}{l:Addr}{M':Mem}(I:RInv k rm names m many M v deep n j acc l M'):acc.length<=100:=by
 have:=I.hj;have:=I.ha;lia
theorem rows_draw_step(ht:ToldOk names m many){n:Nat}(ih:PBl ad k rm names m many n):PRo ad k rm names m many (n+1):=by
 intro deep most M Q E hd hn h0 h1 r v0 rv0 h;simp_arith only [u_q23,T_q23,dFor];refine ⟨szl (by decide),fun l hl=>?_⟩
 have R1:=r.go (r.new hl (.lst []));refine draw_call R1.h h0 (by lia) fun cnt M1 a1 b1 d1=>?_
 have nel:=r.h.nep hl;simp_arith only [];refine ⟨by lia,by lia,?_⟩
 refine forD_inv (fun xs δ M'=>∃(j:Nat) (acc:List Rw) (l:Addr) (c6:Option D),RInv k rm names m many M v0 deep xs.length j acc l M'/\δ=[some (.ref k.p),some (toldD names m many),some (.ref rm),some (.int deep),some (.int most),some (.ref l),c6]) (fun _ _ _ _=>ok_nil) ?_ ?_ _ _ _ ⟨0,[],l,none,⟨⟨v0,⟨?_,rv0.2⟩,by simp [cRs]⟩,?_,by simp,by simp only [OkRs],by simp only [LnRs],by simp only [hRs];lia,(r.new hl _).trans (R1.dr d1),?_,nel.1,nel.2,?_,hl⟩,rfl⟩
 ·rintro δ M' ⟨j,acc,l,c6,I,rfl⟩
  simp_arith only [I.hm];exact drp_id (h acc M' I.cv ⟨I.ok,I.ln⟩ I.hh I.len I.kp)
 ·rintro x xs δ M' ⟨j,acc,l,c6,I,rfl⟩ D' hnx _ _ _
  have R:=r.go I.kp;have hj:=I.hj;have ha:=I.ha;simp only [List.length_cons] at hj;obtain ⟨v,⟨hv,hv0⟩,hcv⟩:=I.cv;refine rif_go rfl rfl rfl R.h hv (fun M2 h4 h5 d2=>?_) fun M2 d2=>?_
  ·have k2:=I.kp.trans (R.dr d2)
   have R2:=r.go k2;refine seq_go0 (room_go rfl (by rw [d2.2 rm r.n1 r.n2];exact hv) ?_)
   have hs:=R2.set (v-4);dsimp only;refine rblk_go (deep:=deep) (acc:=acc) ih rfl rfl rfl rfl rfl (by lia) (by lia) (R2.go hs) I.n1 I.n2 I.n3 (by rw [Mem.upd_ne I.n3,d2.2 l I.n1 I.n2];exact I.hm) (by lia) (v:=v-4) ⟨Mem.upd_same,by lia⟩ fun bl l3 M3 c3 ok3 hh3 len3 k3 hl3=>?_
   have hk3:=(k2.trans hs).trans k3;have R3:=r.go hk3;have ne3:=R3.h.nep hl3;have ner:l3≠rm:=by
    obtain ⟨u,eu⟩:=R3.v;exact fun e=>by rw [e,eu] at hl3;cases hl3
   have hM3:M l3=none:=by
    cases e:M l3 with
    |none=>rfl
    |some o=>rw [hk3.2.2 l3 o ne3.1 ne3.2 ner e] at hl3;cases hl3
   obtain ⟨v3,rv3,c3⟩:=c3;exact hnx _ _ ⟨j+1,acc++bl,l3,_,⟨⟨v3,⟨by rw [Mem.upd_ne (Ne.symm ner)];exact rv3.1,rv3.2⟩,by rw [cRs_append];lia⟩,by lia,by rw [List.length_append];lia,OkRs_append.mpr ⟨I.ok,ok3.1⟩,LnRs_append.mpr ⟨I.ln,ok3.2⟩,by rw [hRs_append];exact Nat.le_trans (Nat.le_of_eq (Nat.add_max_add_right ..).symm) (Nat.max_le.mpr ⟨I.hh,hh3⟩),hk3.trans (R3.new hl3 _),by rw [Mem.upd_same,rowsD_append],ne3.1,ne3.2,ner,hM3⟩,rfl⟩
  ·have k2:=I.kp.trans (R.dr d2)
   have R2:=r.go k2;have hm2:M2 l=some (.lst (rowsD acc)):=by rw [d2.2 l I.n1 I.n2];exact I.hm
   refine rpos_go rfl (by rw [d2.2 rm r.n1 r.n2];exact hv) (fun hz=>?_) ?_
   ·refine seq_go0 (room_go rfl (by rw [d2.2 rm r.n1 r.n2];exact hv) ?_)
    have hs:=R2.set (v-1);dsimp only;refine rapp_go (acc:=acc) rfl rfl rfl hs.1 ht I.n1 I.n2 (by rw [Mem.upd_ne I.n3];exact hm2) (by lia) fun rw1 M3 ok3 d3=>?_
    have hk3:=(k2.trans hs).trans ((R2.go hs).dr d3);refine hnx _ _ ⟨j+1,acc++[rw1],l,_,⟨⟨v-1,⟨by rw [Mem.upd_ne (Ne.symm I.n3),d3.2 rm r.n1 r.n2,Mem.upd_same],by lia⟩,by rw [cRs_append];simp only [cRs,cR_of ok3];lia⟩,by lia,by rw [List.length_append,List.length_singleton];lia,OkRs_append.mpr ⟨I.ok,by simp only [OkRs];exact ⟨OkR_of ok3,trivial⟩⟩,LnRs_append.mpr ⟨I.ln,by simp only [LnRs];exact ⟨LnR_of ok3,trivial⟩⟩,by rw [hRs_append];simp only [hRs,hR_of ok3,Nat.max_zero,Nat.max_self];exact I.hh,?_,by rw [Mem.upd_same,rowsD_append];rfl,I.n1,I.n2,I.n3,I.h0⟩,rfl⟩
    refine ⟨hk3.1.upd ⟨I.n1,I.n2⟩,?_,fun b o h1 h2 h3 e=>?_⟩
    ·obtain ⟨u,eu⟩:=hk3.2.1
     exact ⟨u,by rw [Mem.upd_ne (Ne.symm I.n3)];exact eu⟩
    ·rw [Mem.upd_ne (Mem.ne e I.h0)];exact hk3.2.2 b o h1 h2 h3 e
   ·exact hnx _ _ ⟨j,acc,l,_,⟨⟨v,⟨by rw [d2.2 rm r.n1 r.n2];exact hv,hv0⟩,hcv⟩,by lia,ha,I.ok,I.ln,I.hh,k2,hm2,I.n1,I.n2,I.n3,I.h0⟩,rfl⟩
 ·rw [d1.2 rm r.n1 r.n2,Mem.upd_ne (fun z=>by rw [<- z,rv0.1] at hl;cases hl)];exact rv0.1
 ·simp [rngD];lia
 ·rw [d1.2 l nel.1 nel.2,Mem.upd_same];rfl
 ·obtain ⟨v,e⟩:=r.v
  exact fun e'=>by rw [e',e] at hl;cases hl
theorem all_draws(ht:ToldOk names m many):∀n:Nat,PRo ad k rm names m many n/\PBl ad k rm names m many n
 |0=>⟨fun deep most M Q E _ h=>by lia,fun deep M Q E _ h=>by lia⟩
 |n+1=>⟨rows_draw_step ht (all_draws ht n).2,block_step ht (all_draws ht n).1⟩
end
end Tw
namespace Tw
open PySem L2 L3
section
variable {ad:Ad}{k:Pt}{M:Mem}{Q:DK}{E:DX}
noncomputable def Kq(k:Pt)(M M':Mem):Prop:=Has k M'/\∀b o,b≠k.p->b≠k.q->M b=some o->M' b=some o
theorem Kq.trans{M1 M2:Mem}(a:Kq k M M1)(b:Kq k M1 M2):Kq k M M2:=⟨b.1,fun x o h1 h2 h=>b.2 x o h1 h2 (a.2 x o h1 h2 h)⟩
theorem Dr.kq{M':Mem}(d:Dr k M M'):Kq k M M':=⟨d.1,fun b o h1 h2 e=>by rw [d.2 b h1 h2];exact e⟩
structure PlG(m many:Int)(names:List Str)(rows:List Rw)(mk:Str):Prop where
 t:ToldOk names m many
 nd:names.Nodup
 ok:OkRs names m many rows
 h:hRs rows<=4
 cn:cRs rows<=60
 l:rows.length<=100
 ln:LnRs rows
 mkm:mk∈names
 one:∀x∈names,OneC x
noncomputable def plnD(m many:Int)(names:List Str)(rows:List Rw)(mk:Str):D:=.tup [.int m,.tup (names.map D.str),.int many,.tup (rowsD rows),.str mk]
theorem plan_spec{v:Int}(v0:0<=v)(v60:v<=60)(hp:Has k M)(h:∀(m many:Int) (names:List Str) (rows:List Rw) (mk:Str) (M':Mem),PlG m many names rows mk->Kq k M M'->Q (plnD m many names rows mk) M'):S_q20 ad [.ref k.p,.int v] M Q E:=by
 simp_arith only [u_q20,T_q20];refine draw_call hp (by decide) (by decide) fun x1 M1 a1 b1 d1=>?_
 simp_arith only [];refine draw_call d1.1 (by decide) (by decide) fun x2 M2 a2 b2 d2=>?_
 simp_arith only [];refine ⟨szl (by decide),fun p hpn=>?_⟩
 rw [Mem.upd_del,Mem.del_none hpn];refine draw_call d2.1 (by decide) (by decide) fun x3 M3 a3 b3 d3=>?_
 obtain ⟨m,em,m2,m1⟩:∃m:Int,atI [D.int 2,.int 3,.int (2+x1),.int (2+x2)] x3=some (.int m)/\2<=m/\m<=997:=by
  have:x3=0\/x3=1\/x3=2\/x3=3:=by lia
  rcases this with rfl|rfl|rfl|rfl
  ·exact ⟨2,by simp,by lia,by lia⟩
  ·exact ⟨3,by simp,by lia,by lia⟩
  ·exact ⟨2+x1,by simp,by lia,by lia⟩
  ·exact ⟨2+x2,by simp,by lia,by lia⟩
 simp_arith only [em];refine ⟨szl (by decide),fun p hpn=>?_⟩
 rw [Mem.upd_del,Mem.del_none hpn];refine draw_call d3.1 (by decide) (by decide) fun x4 M4 a4 b4 d4=>?_
 obtain ⟨w,ew,w2,w1⟩:∃m:Int,atI [D.int 3,.int 5,.int 12] x4=some (.int m)/\0<m/\m<=12:=by
  have:x4=0\/x4=1\/x4=2:=by lia
  rcases this with rfl|rfl|rfl
  ·exact ⟨3,by simp,by lia,by lia⟩
  ·exact ⟨5,by simp,by lia,by lia⟩
  ·exact ⟨12,by simp,by lia,by lia⟩
 simp_arith only [ew];refine draw_call d4.1 w2 (by lia) fun x5 M5 a5 b5 d5=>?_
 simp_arith only [];obtain ⟨nn,hnn⟩:∃nn:Nat,(1:Int)+x5=nn:=⟨(1+x5).toNat,by lia⟩
 rw [hnn];refine calls_of fun Q' E' hq _=>names_spec d5.1 (by lia) fun names M6 n6 nd6 on6 d6=>hq _ _ ?_
 simp_arith only [];refine draw_call d6.1 (by decide) (by decide) fun x7 M7 a7 b7 d7=>?_
 simp_arith only [];refine draw_call d7.1 (by decide) (by decide) fun x8 M8 a8 b8 d8=>?_
 simp_arith only [];refine ⟨szl (by decide),fun p hpn=>?_⟩
 rw [Mem.upd_del,Mem.del_none hpn];refine draw_call d8.1 (by decide) (by decide) fun x9 M9 a9 b9 d9=>?_
 obtain ⟨many,ek,k0,k1⟩:∃m:Int,atI [D.int 0,.int (1+x7),.int x8] x9=some (.int m)/\0<=m/\m<=40:=by
  have:x9=0\/x9=1\/x9=2:=by lia
  rcases this with rfl|rfl|rfl
  ·exact ⟨0,by simp,by lia,by lia⟩
  ·exact ⟨1+x7,by simp,by lia,by lia⟩
  ·exact ⟨x8,by simp,by lia,by lia⟩
 simp_arith only [ek];refine ⟨szl (by decide),szl (by decide),fun rm hrm=>⟨szl (by decide),fun p hpn=>?_⟩⟩
 rw [Mem.upd_del,Mem.del_none hpn];have D9:=d1.trans (d2.trans (d3.trans (d4.trans (d5.trans (d6.trans (d7.trans (d8.trans d9)))))));have nrm:=d9.1.nep hrm;have R9:Rm k rm (M9.upd rm (.lst [.int v])):=⟨d9.1.upd nrm,nrm.1,nrm.2,v,Mem.upd_same⟩;refine draw_call R9.h (by decide) (by decide) fun x10 M10 a10 b10 d10=>?_
 have R10:=R9.go (R9.dr d10);obtain ⟨most,eo,o0,o1⟩:∃m:Int,atI [D.int 6,.int 12,.int 30] x10=some (.int m)/\0<m/\m<=30:=by
  have:x10=0\/x10=1\/x10=2:=by lia
  rcases this with rfl|rfl|rfl
  ·exact ⟨6,by simp,by lia,by lia⟩
  ·exact ⟨12,by simp,by lia,by lia⟩
  ·exact ⟨30,by simp,by lia,by lia⟩
 simp_arith only [eo];have ht:ToldOk names m many:=⟨m2,m1,by lia,by lia,k0,k1⟩
 refine calls_of fun Q' E' hq _=>(all_draws ht 24).1 0 most M10 Q' E' (by decide) (by decide) o0 o1 R10 v ⟨by rw [d10.2 rm nrm.1 nrm.2,Mem.upd_same],v0⟩ fun rows M11 c11 ok11 h11 l11 k11=>hq _ _ ?_
 obtain ⟨v11,rv11,c11⟩:=c11;have v110:=rv11.2;simp_arith only [List.length_map];refine draw_call k11.1 (by lia) (by lia) fun x12 M12 a12 b12 d12=>?_
 obtain ⟨mk,hmk,emk⟩:=at_name a12 b12;simp_arith only [emk];refine ⟨szl (by decide),drp_id (h m many names rows mk M12 ⟨ht,nd6,ok11.1,by lia,by lia,l11,ok11.2,hmk,on6⟩ ?_)⟩
 refine D9.kq.trans (Kq.trans ?_ d12.kq);refine ⟨k11.1,fun b o h1 h2 e=>?_⟩;have hb:b≠rm:=Mem.ne e hrm;have:=(R9.dr d10).2.2 b o h1 h2 hb (by rw [Mem.upd_ne hb];exact e)
 exact k11.2.2 b o h1 h2 hb this
end
end Tw
namespace Tw
open PySem L2 L3
noncomputable def okv:Nat->D->Prop
 |_,.non=>True
 |_,.bl _=>True
 |_,.int _=>True
 |_,.str _=>True
 |n+1,.tup xs=>xs.length<=100000/\∀x∈xs,okv n x
 |n+1,.lst xs=>xs.length<=100000/\∀x∈xs,okv n x
 |_,_=>False
theorem bools_true:∀n:Nat,bools (List.replicate n (.bl true))=some (List.replicate n true)
 |0=>rfl
 |n+1=>by rw [List.replicate_succ,bools,bools_true n];rfl
theorem all_true{n:Nat}:(List.replicate n true).all id=true:=by simp
theorem i1:isInst "tuple" "bool"=false:=by decide +kernel
theorem i2:isInst "tuple" "int"=false:=by decide +kernel
theorem i3:isInst "tuple" "str"=false:=by decide +kernel
theorem i4:isInst "tuple" "tuple"=true:=by decide +kernel
theorem i5:isInst "tuple" "list"=false:=by decide +kernel
theorem i6:isInst "list" "bool"=false:=by decide +kernel
theorem i7:isInst "list" "int"=false:=by decide +kernel
theorem i8:isInst "list" "str"=false:=by decide +kernel
theorem i9:isInst "list" "tuple"=false:=by decide +kernel
theorem i10:isInst "list" "list"=true:=by decide +kernel
theorem i11:isInst "bool" "bool"=true:=by decide +kernel
theorem i12:isInst "int" "bool"=false:=by decide +kernel
theorem i13:isInst "int" "int"=true:=by decide +kernel
theorem i14:isInst "str" "bool"=false:=by decide +kernel
theorem i15:isInst "str" "int"=false:=by decide +kernel
theorem i16:isInst "str" "str"=true:=by decide +kernel
theorem t1:tyOk "bool"=true:=by decide +kernel
theorem t2:tyOk "int"=true:=by decide +kernel
theorem t3:tyOk "str"=true:=by decide +kernel
theorem t4:tyOk "tuple"=true:=by decide +kernel
theorem t5:tyOk "list"=true:=by decide +kernel
theorem zip_self:∀xs:List D,zipD xs xs=xs.map (fun z=>D.tup [z,z])
 |[]=>rfl
 |x::xs=>by
  have:=zip_self xs;simp only [zipD] at this ⊢;simp [this]
theorem alike_spec{ad:Ad}:∀(n:Nat) (x:D) (M:Mem) (Q:DK) (E:DX),okv n x->Q (.bl true) M->S_q19 ad (n+1) [x,x] M Q E
 |n,x,M,Q,E,hx,h=>by
  cases x with
  |non=>simp_arith only [u_q19,T_q19];exact drp_id h
  |bl b=>simp_arith only [u_q19,T_q19,i11,t1,beq_self_eq_true];exact drp_id h
  |int i=>simp_arith only [u_q19,T_q19,i12,i13,t1,t2];exact drp_id h
  |str i=>simp_arith only [u_q19,T_q19,i14,i15,i16,t1,t2,t3];exact drp_id h
  |tup xs=>
   cases n with
   |zero=>exact hx.elim
   |succ n=>
    obtain ⟨hl,hx⟩:=hx;simp_arith only [u_q19,T_q19,i1,i2,i3,i4,i5,t1,t2,t3,t4,t5,dComp];rw [if_neg (by decide),if_neg (by decide),if_neg (by decide)]
    refine compD_inv (fun ys acc δ M'=>∃(zs:List D) (j:Nat) (c0 c1:Option D),ys=zs.map (fun z=>D.tup [z,z])/\(∀z∈zs,okv n z)/\zs.length+j<=100000/\acc=List.replicate j (.bl true)/\δ=[c0,c1]/\M'=M) (fun _ _ _ _ _=>ok_nil) ?_ ?_ ?_ _ _ _ _ ⟨xs,0,none,none,zip_self xs,hx,by omega,rfl,rfl,rfl⟩
    ·rintro acc δ M' ⟨zs,j,c0,c1,e1,e2,e3,rfl,rfl,rfl⟩ p hpn
     simp_arith only [Mem.upd_del,Mem.del_none hpn,bools_true,all_true];exact drp_id h
    ·rintro y ys acc δ M' ⟨zs,j,c0,c1,e1,e2,e3,rfl,rfl,rfl⟩ N hN _
     cases zs with
     |nil=>simp at e1
     |cons z zs=>
      simp only [List.map_cons,List.cons.injEq] at e1;obtain ⟨rfl,rfl⟩:=e1;simp only [List.length_cons] at e3;simp_arith only [];refine calls_ro (d:=.bl true) (fun Q' E' q=>alike_spec n z M' Q' E' (e2 z (List.mem_cons_self ..)) q) ?_;simp_arith only [];exact hN _ _ _ (by simp;exact szs (by omega)) ⟨zs,j+1,_,_,rfl,fun w hw=>e2 w (List.mem_cons_of_mem _ hw),by omega,by rw [List.replicate_succ'],rfl,rfl⟩
    ·rintro y ys acc δ M' ⟨zs,j,c0,c1,e1,e2,e3,rfl,rfl,rfl⟩
     simp;exact szs (by omega)
  |lst xs=>
   cases n with
   |zero=>exact hx.elim
   |succ n=>
    obtain ⟨hl,hx⟩:=hx;simp_arith only [u_q19,T_q19,i6,i7,i8,i9,i10,t1,t2,t3,t4,t5,dComp];rw [if_neg (by decide),if_neg (by decide),if_neg (by decide)]
    refine compD_inv (fun ys acc δ M'=>∃(zs:List D) (j:Nat) (c0 c1:Option D),ys=zs.map (fun z=>D.tup [z,z])/\(∀z∈zs,okv n z)/\zs.length+j<=100000/\acc=List.replicate j (.bl true)/\δ=[c0,c1]/\M'=M) (fun _ _ _ _ _=>ok_nil) ?_ ?_ ?_ _ _ _ _ ⟨xs,0,none,none,zip_self xs,hx,by omega,rfl,rfl,rfl⟩
    ·rintro acc δ M' ⟨zs,j,c0,c1,e1,e2,e3,rfl,rfl,rfl⟩ p hpn
     simp_arith only [Mem.upd_del,Mem.del_none hpn,bools_true,all_true];exact drp_id h
    ·rintro y ys acc δ M' ⟨zs,j,c0,c1,e1,e2,e3,rfl,rfl,rfl⟩ N hN _
     cases zs with
     |nil=>simp at e1
     |cons z zs=>
      simp only [List.map_cons,List.cons.injEq] at e1;obtain ⟨rfl,rfl⟩:=e1;simp only [List.length_cons] at e3;simp_arith only [];refine calls_ro (d:=.bl true) (fun Q' E' q=>alike_spec n z M' Q' E' (e2 z (List.mem_cons_self ..)) q) ?_;simp_arith only [];exact hN _ _ _ (by simp;exact szs (by omega)) ⟨zs,j+1,_,_,rfl,fun w hw=>e2 w (List.mem_cons_of_mem _ hw),by omega,by rw [List.replicate_succ'],rfl,rfl⟩
    ·rintro y ys acc δ M' ⟨zs,j,c0,c1,e1,e2,e3,rfl,rfl,rfl⟩
     simp;exact szs (by omega)
  |_=>cases n<;>exact hx.elim
end Tw
namespace Tw
open PySem L2 L3 LS
noncomputable def Vv:Nat->D->Prop
 |_,.non=>True
 |_,.bl _=>True
 |_,.int i=>i.natAbs.log2<1920
 |_,.str x=>x.length<=100/\x.cps.all (· < 128)=true
 |n+1,.tup xs=>xs.length<=100/\∀x∈xs,Vv n x
 |n+1,.lst xs=>xs.length<=100/\∀x∈xs,Vv n x
 |_,_=>False
noncomputable def kd:D->String
 |.non=>"NoneType"|.bl _=>"bool"|.int _=>"int"|.str _=>"str"|.tup _=>"tuple"|.lst _=>"list"|_=>""
noncomputable def isT:D->Bool
 |.tup _=>true|_=>false
noncomputable def isS:D->Bool
 |.str _=>true|_=>false
noncomputable def isB:D->Bool
 |.bl _=>true|_=>false
noncomputable def kinds:List String:=["NoneType","bool","int","str","tuple","list"]
theorem inT:∀k∈kinds,isInst k "tuple"=decide (k="tuple"):=by decide +kernel
theorem inS:∀k∈kinds,isInst k "str"=decide (k="str"):=by decide +kernel
theorem kd_in{n:Nat}{d:D}(v:Vv n d):kd d∈kinds:=by
 cases d with
 |non=>simp [kd,kinds]
 |bl=>simp [kd,kinds]
 |int=>simp [kd,kinds]
 |str=>simp [kd,kinds]
 |tup=>simp [kd,kinds]
 |lst=>simp [kd,kinds]
 |_=>cases n<;>exact v.elim
theorem ty_kd{n:Nat}{d:D}{M:Mem}(v:Vv n d):tyName M d=some (kd d):=by
 cases d with
 |non=>rfl
 |bl=>rfl
 |int=>rfl
 |str=>rfl
 |tup=>rfl
 |lst=>rfl
 |_=>cases n<;>exact v.elim
theorem kd_T:∀d:D,decide (kd d="tuple")=isT d:=by intro d;cases d<;>rfl
theorem kd_S:∀d:D,decide (kd d="str")=isS d:=by intro d;cases d<;>rfl
section
variable {M:Mem}{δ:Dl}{K:DK}{n:Nat}{d:D}{te:dTE}
theorem ins_T(v:Vv n d)(ht:∀K:DK,K d M->te δ M K)(h:K (.bl (isT d)) M):dCB cInst (dCons te (dCons (dC (.ty "tuple")) dNil)) δ M K:=by
 refine ht (fun d M1=>cInst [d,.ty "tuple"] M1 K) ?_;simp only [cInst,ty_kd v,inT _ (kd_in v),kd_T];exact ⟨t4,h⟩
theorem ins_S(v:Vv n d)(ht:∀K:DK,K d M->te δ M K)(h:K (.bl (isS d)) M):dCB cInst (dCons te (dCons (dC (.ty "str")) dNil)) δ M K:=by
 refine ht (fun d M1=>cInst [d,.ty "str"] M1 K) ?_;simp only [cInst,ty_kd v,inS _ (kd_in v),kd_S];exact ⟨t3,h⟩
theorem ret_go{D0:DEnds}(h:te δ M D0.rt):dRet te D0 δ M:=h
theorem if_go{tc:dTT}{b:Bool}{A B:dTS}{D0:DEnds}(hc:∀K:Bool->Mem->Prop,K b M->tc δ M K)(h1:b=true->A D0 δ M)(h2:b=false->B D0 δ M):dIfS tc A B D0 δ M:=by
 refine hc (fun b M1=>if b=true then A D0 δ M1 else B D0 δ M1) ?_
 cases b with
 |true=>rw [if_pos rfl];exact h1 rfl
 |false=>rw [if_neg (by simp)];exact h2 rfl
theorem not_c{tc:dTT}{b:Bool}(hc:∀K:Bool->Mem->Prop,K b M->tc δ M K):∀K:Bool->Mem->Prop,K (!b) M->dNot tc δ M K:=fun K h=>hc (fun b M1=>K (!b) M1) h
theorem or_c{tc tu:dTT}{b c:Bool}(hc:∀K:Bool->Mem->Prop,K b M->tc δ M K)(hu:b=false->∀K:Bool->Mem->Prop,K c M->tu δ M K):∀K:Bool->Mem->Prop,K (b||c) M->dOr tc tu δ M K:=fun K h=>by
 refine hc (fun b M1=>if b=true then K true M1 else tu δ M1 K) ?_
 cases b with
 |true=>rw [if_pos rfl];exact h
 |false=>rw [if_neg (by simp)];exact hu rfl _ h
theorem and_c{tc tu:dTT}{b c:Bool}(hc:∀K:Bool->Mem->Prop,K b M->tc δ M K)(hu:b=true->∀K:Bool->Mem->Prop,K c M->tu δ M K):∀K:Bool->Mem->Prop,K (b&&c) M->dAnd tc tu δ M K:=fun K h=>by
 refine hc (fun b M1=>if b=true then tu δ M1 K else K false M1) ?_
 cases b with
 |true=>rw [if_pos rfl];exact hu rfl _ h
 |false=>rw [if_neg (by simp)];exact h
theorem tru_c{b:Bool}(ht:∀K:DK,K (.bl b) M->te δ M K):∀K:Bool->Mem->Prop,K b M->dTru te δ M K:=fun K h=>by
 refine ht (fun d M1=>match tru M1 d with|some k=>K k M1|none=>False) ?_
 exact h
theorem test_c{b:Bool}(ht:∀K:DK,K (.bl b) M->te δ M K):∀K:Bool->Mem->Prop,K b M->dTest te δ M K:=fun K h=>ht (fun d M'=>match d with|.bl k=>K k M'|_=>False) h
theorem andV_e{tu:dTE}{b c:Bool}(ht:∀K:DK,K (.bl b) M->te δ M K)(hu:b=true->∀K:DK,K (.bl c) M->tu δ M K)(h:K (.bl (b&&c)) M):dAndV te tu δ M K:=by
 refine ht (fun x M1=>match x with|.bl true=>tu δ M1 K|.bl false=>K (.bl false) M1|_=>False) ?_
 cases b with
 |true=>exact hu rfl _ h
 |false=>exact h
theorem comp_pf{tt:dTT}{ok:Mem->Prop}{Q:List D->Mem->Prop}{b:BxC (hName 0) tt te ok Q}{rest:Dl}{c:Option D}{xs:List D}(p:D->Bool)(f:D->D)(ho:ok M)(hl:xs.length<=100000)
  (ht:∀x∈xs,∀K:Bool->Mem->Prop,K (p x) M->tt (some x::rest) M K) (he:∀x∈xs,p x=true->∀K:DK,K (f x) M->te (some x::rest) M K) (h:Q ((xs.filter p).map f) M):
  compD (hName 0) tt te ok Q b xs [] (c::rest) M:=by
 refine compD_inv (fun ys acc δ N=>∃(us:List D) (c0:Option D),xs=us++ys/\acc=(us.filter p).map f/\δ=c0::rest/\M=N) (fun _ _ _ _ z=>by obtain ⟨_,_,_,_,_,rfl⟩:=z;exact ho) ?_ ?_ ?_ _ _ _ _ ⟨[],c,rfl,rfl,rfl,rfl⟩
 ·rintro acc δ N ⟨us,c0,e1,rfl,rfl,rfl⟩
  rw [List.append_nil] at e1;subst e1;exact h
 ·rintro y ys acc δ N ⟨us,c0,e1,rfl,rfl,rfl⟩ N' hN1 hN2
  have hy:y∈xs:=by rw [e1];simp
  have hlen:((us.filter p).map f).length<sizeLine:=by
   have h1:(us.filter p).length<=us.length:=List.length_filter_le ..;have h2:=congrArg List.length e1;rw [List.length_append] at h2;rw [List.length_map];exact szs (by lia)
  refine ht y hy (fun c M3=>if c=true then te (some y::rest) M3 fun z M4=>N' true z (some y::rest) M4 else N' false .non (some y::rest) M3) ?_
  cases hp:p y with
  |true=>
   rw [if_pos rfl];exact he y hy hp _ (hN1 _ _ _ hlen ⟨us++[y],_,by rw [e1];simp,by simp [hp],rfl,rfl⟩)
  |false=>
   rw [if_neg (by simp)]
   exact hN2 _ _ _ ⟨us++[y],_,by rw [e1];simp,by simp [hp],rfl,rfl⟩
 ·rintro y ys acc δ N ⟨us,c0,e1,rfl,rfl,rfl⟩
  have h1:(us.filter p).length<=us.length:=List.length_filter_le ..;have h2:=congrArg List.length e1;rw [List.length_append] at h2;rw [List.length_map];exact szs (by lia)
theorem comp_map{ok:Mem->Prop}{Q:List D->Mem->Prop}{b:BxC (hName 0) dAll te ok Q}{rest:Dl}{c:Option D}{xs:List D}(f:D->D)(ho:ok M)(hl:xs.length<=100000)
  (he:∀x∈xs,∀K:DK,K (f x) M->te (some x::rest) M K) (h:Q (xs.map f) M):compD (hName 0) dAll te ok Q b xs [] (c::rest) M:=by
 refine comp_pf (fun _=>true) f ho hl (fun x _ K q=>q) (fun x hx _=>he x hx) ?_;rw [List.filter_eq_self.mpr fun _ _=>rfl];exact h
theorem bools_map:∀bs:List Bool,bools (bs.map D.bl)=some bs
 |[]=>rfl
 |b::bs=>by rw [List.map_cons,bools,bools_map bs]
theorem all_map{wi:dTI}{x0:Str}{fr:List Nat}{xs:List D}{p:D->Bool}(hw:∀R:DIt->Mem->Prop,R ⟨xs,[]⟩ M->wi δ M R)(hl:xs.length<=100000)
  (he:∀x∈xs,∀K:DK,K (.bl (p x)) M->te (some x::fr.map fun j=>(δ[j]?).join) M K) (h:K (.bl (xs.all p)) M):dCB cAll (dCons (dFrz (dComp wi [x0] fr (hName 0) dAll te)) dNil) δ M K:=by
 refine hw (fun it M1=>compD (hName 0) dAll te it.ok (fun acc M'=>∀q,M' q=none->frz (.ref q) (M'.upd q (.lst acc)) fun d M2=>cAll [d] M2 K) ⟨⟩ it.items [] (startD [x0] fr δ) M1) ?_;refine comp_map (fun x=>.bl (p x)) ok_nil hl he fun q hq=>?_;have e:xs.map (fun x=>D.bl (p x))=(xs.map p).map D.bl:=by rw [List.map_map];rfl
 have e2:(xs.map p).all id=xs.all p:=by rw [List.all_map];rfl
 simp only [frz,Mem.upd_same,Mem.upd_del,Mem.del_none hq,cAll,seqL,seqD,e,bools_map,e2];exact h
end
section
variable {ad:Ad}{M:Mem}{Q:DK}{E:DX}{n:Nat}{d:D}{δ:Dl}{K:DK}{names:List Str}
theorem var_e{i:Nat}{d:D}(h:δ[i]?=some (some d)):∀K:DK,K d M->dVar i δ M K:=fun K hK=>var0 h hK
theorem chain_e{a b c:Int}{ta tb tc:dTE}(ha:∀K:DK,K (.int a) M->ta δ M K)(hb:∀K:DK,K (.int b) M->tb δ M K)(hc:∀K:DK,K (.int c) M->tc δ M K)(h:K (.bl (decide (a<=b)&&decide (b<=c))) M):dChain oLe oLe ta tb tc δ M K:=by
 unfold dChain;refine ha _ (hb _ ?_);simp_arith only []
 by_cases q:a<=b
 ·rw [decide_eq_true q] at h ⊢
  refine hc _ ?_;exact h
 ·rw [decide_eq_false q] at h ⊢
  exact h
theorem len_s{x:Str}(hx:x.length<=100){i:Nat}(h:δ[i]?=some (some (.str x))):∀K:DK,K (.int (x.length:Nat)) M->dCB cLen (dCons (dVar i) dNil) δ M K:=fun K q=>by
 simp_arith only [h];exact ⟨szl (by lia),q⟩
theorem strsOf_map:∀names:List Str,strsOf (names.map D.str)=some names
 |[]=>rfl
 |x::names=>by rw [List.map_cons,strsOf,strsOf_map names]
theorem len_t{xs:List D}{i:Nat}(h:δ[i]?=some (some (.tup xs))):∀K:DK,K (.int (xs.length:Nat)) M->dCB cLen (dCons (dVar i) dNil) δ M K:=fun K q=>by
 simp_arith only [h];exact q
theorem call_e{S:Sd}{EE:DX}{r:Nat}{ta:dTA}{ds:List D}{x:D}(ha:∀K:List D->Mem->Prop,K ds M->ta δ M K)(hr:ds.length=r)(hs:∀Q' E',Q' x M->S ds M Q' E')(h:K x M):dCall S EE r ta δ M K:=by
 refine ha _ ?_;exact ⟨hr,calls_ro hs h⟩
theorem frzB{te:dTE}{b:Bool}(ht:∀K:DK,K (.bl b) M->te δ M K):∀K:DK,K (.bl b) M->dFrz te δ M K:=fun K h=>ht (fun d M'=>frz d M' K) h
theorem fits_strs{n:Nat}:∀ss:List Str,fits n (ss.map D.str)=true
 |[]=>rfl
 |x::ss=>by rw [List.map_cons,fits,fits_strs ss,fit];rfl
theorem any_strs(x:Str):∀ss:List Str,((ss.map D.str).any fun d=>deq d (.str x))=decide (x∈ss)
 |[]=>by simp
 |y::ss=>by
  rw [List.map_cons,List.any_cons,any_strs x ss,deq]
  by_cases e:y=x
  ·subst e;simp
  ·simp [e,Ne.symm e]
theorem eqI_c{δ:Dl}{ta tb:dTE}{a b:Int}(ha:∀K:DK,K (.int a) M->ta δ M K)(hb:∀K:DK,K (.int b) M->tb δ M K):∀K:Bool->Mem->Prop,K (decide (a=b)) M->dTest (dOp oEq ta tb) δ M K:=fun K q=>by
 unfold dTest dOp;refine ha _ (hb _ ?_);simp_arith only [];exact q
theorem neI_c{δ:Dl}{ta tb:dTE}{a b:Int}(ha:∀K:DK,K (.int a) M->ta δ M K)(hb:∀K:DK,K (.int b) M->tb δ M K):∀K:Bool->Mem->Prop,K (!decide (a=b)) M->dTest (dOp oNe ta tb) δ M K:=fun K q=>by
 unfold dTest dOp;refine ha _ (hb _ ?_);simp_arith only [];exact q
theorem eqS_c{δ:Dl}{ta tb:dTE}{a b:Str}(ha:∀K:DK,K (.str a) M->ta δ M K)(hb:∀K:DK,K (.str b) M->tb δ M K):∀K:Bool->Mem->Prop,K (decide (a=b)) M->dTest (dOp oEq ta tb) δ M K:=fun K q=>by
 unfold dTest dOp;refine ha _ (hb _ ?_);simp_arith only [];exact q
theorem gt_c{δ:Dl}{ta tb:dTE}{a b:Int}(ha:∀K:DK,K (.int a) M->ta δ M K)(hb:∀K:DK,K (.int b) M->tb δ M K):∀K:Bool->Mem->Prop,K (decide (b<a)) M->dTest (dOp oGt ta tb) δ M K:=fun K q=>by
 unfold dTest dOp;refine ha _ (hb _ ?_);simp_arith only [];exact q
theorem lt_c{ta tb:dTE}{a b:Int}(ha:∀K:DK,K (.int a) M->ta δ M K)(hb:∀K:DK,K (.int b) M->tb δ M K):∀K:Bool->Mem->Prop,K (decide (a<b)) M->dTest (dOp oLt ta tb) δ M K:=fun K q=>by
 unfold dTest dOp;refine ha _ (hb _ ?_);simp_arith only [];exact q
theorem frzI{te:dTE}{i:Int}(ht:∀K:DK,K (.int i) M->te δ M K):∀K:DK,K (.int i) M->dFrz te δ M K:=fun K h=>ht (fun d M'=>frz d M' K) h
theorem eqI_e{ta tb:dTE}{a b:Int}(ha:∀K:DK,K (.int a) M->ta δ M K)(hb:∀K:DK,K (.int b) M->tb δ M K)(q:K (.bl (decide (a=b))) M):dOp oEq ta tb δ M K:=by
 unfold dOp;refine ha _ (hb _ ?_);simp_arith only [];exact q
end
end Tw
namespace Tw
open PySem L2 L3
section
variable {ad:Ad}{c:Cf}{names:List Str}{rows:List Rw}{mk:Str}{M:Mem}{nums:List Int}
end
section
variable {ad:Ad}{M:Mem}{Q:DK}{EE:DX}{b:BxQ EE Q}{k:Pt}
theorem pot_call{ns:List Int}(h:∀(k:Pt) M',Has k M'->(∀b,b≠k.p->b≠k.q->M' b=M b)->Q (.ref k.p) M'):calls (S_q27 ad) EE [.ml (ns.map D.int)] M Q b:=
 calls_of fun Q' E' hq _=>pot_spec fun k M1 h1 h2=>hq _ _ (h k M1 h1 h2)
theorem plan_call{v:Int}(v0:0<=v)(v60:v<=60)(hp:Has k M)(h:∀(m many:Int) (names:List Str) (rows:List Rw) (mk:Str) (M':Mem),PlG m many names rows mk->Kq k M M'->Q (plnD m many names rows mk) M'):calls (S_q20 ad) EE [.ref k.p,.int v] M Q b:=
 calls_of fun Q' E' hq _=>plan_spec v0 v60 hp fun m many names rows mk M2 pl k2=>hq _ _ (h m many names rows mk M2 pl k2)
theorem alike_call{n:Nat}{x y:D}(e:x=y)(hx:okv n x)(h:Q (.bl true) M):calls (S_q19 ad (n+1)) EE [x,y] M Q b:=by
 subst e;exact calls_ro (fun Q' E' q=>alike_spec n x M Q' E' hx q) h
end
end Tw
namespace Tw
open PySem L2 L3
noncomputable def SP:Str:=" "
noncomputable def cat:List (List Nat)->List Nat
 |[]=>[]
 |[w]=>w
 |w::v::r=>w++32::cat (v::r)
theorem first_cut:∀(a b:List Nat) {x y:List Nat},32∉a->32∉b->a++32::x=b++32::y->a=b/\x=y
 |[],[],_,_,_,_,h=>by simpa using h
 |[],c::b,_,_,_,hb,h=>by simp at h;exact absurd (by simp [<- h.1]) hb
 |c::a,[],_,_,ha,_,h=>by simp at h;exact absurd (by simp [h.1]) ha
 |c::a,d::b,_,_,ha,hb,h=>by
  simp only [List.cons_append,List.cons.injEq] at h;obtain ⟨rfl,h⟩:=h;obtain ⟨e,f⟩:=first_cut a b (fun z=>ha (List.mem_cons_of_mem _ z)) (fun z=>hb (List.mem_cons_of_mem _ z)) h;exact ⟨by rw [e],f⟩
theorem cat_inj:∀(a b:List (List Nat)),a≠[]->b≠[]->(∀w∈a,32∉w)->(∀w∈b,32∉w)->cat a=cat b->a=b
 |[],_,h,_,_,_,_=>absurd rfl h
 |_,[],_,h,_,_,_=>absurd rfl h
 |[w],[v],_,_,_,_,h=>by simp only [cat] at h;rw [h]
 |[w],v::u::r,_,_,ha,_,h=>by
  simp only [cat] at h;exact absurd (by rw [h];simp) (ha w (by simp))
 |w::u::r,[v],_,_,_,hb,h=>by
  simp only [cat] at h;exact absurd (by rw [<- h];simp) (hb v (by simp))
 |w::u::r,v::t::q,_,_,ha,hb,h=>by
  simp only [cat] at h;obtain ⟨e,f⟩:=first_cut w v (ha w (by simp)) (hb v (by simp)) h
  have:=cat_inj (u::r) (t::q) (by simp) (by simp) (fun x hx=>ha x (List.mem_cons_of_mem _ hx)) (fun x hx=>hb x (List.mem_cons_of_mem _ hx)) f
  rw [e,this]
theorem join_cat:∀ws:List Str,(PySem.Str.join SP ws).cps.toList=cat (ws.map (·.cps.toList))
 |[]=>by unfold Str.join;rfl
 |[w]=>by unfold Str.join;rfl
 |w::v::r=>by
  have ih:=join_cat (v::r);unfold Str.join;have e:SP.cps.toList=[32]:=by decide
  have:(w++SP++Str.join SP (v::r)).cps.toList=w.cps.toList++SP.cps.toList++(Str.join SP (v::r)).cps.toList:=by
   show (w.cps++SP.cps++(Str.join SP (v::r)).cps).toList=_;simp
  rw [this,ih,e];simp [cat]
theorem split_join{ws:List Str}(h:ws≠[])(hf:∀w∈ws,32∉w.cps.toList):PySem.Txt.split (PySem.Txt.join SP ws) SP=ws:=by
 have e1:PySem.Txt.join SP ws=Str.join SP ws:=StrLaws.glued_eq_join SP ws;rw [e1];have hs:SP=⟨#[32]⟩:=by decide
 have e2:Str.join SP (PySem.Txt.split (Str.join SP ws) SP)=Str.join SP ws:=StrLaws.join_split _ _;have e3:=congrArg (fun s:Str=>s.cps.toList) e2;simp only [join_cat] at e3;have hne:PySem.Txt.split (Str.join SP ws) SP≠[]:=by
  intro z;have:=PyProof.Rows.split_pos (Str.join SP ws) SP;rw [z] at this;exact absurd this (by decide)
 have e4:=cat_inj _ _ (by simpa using hne) (by simpa using h) (fun w hw=>by
  obtain ⟨p,hp,rfl⟩:=List.mem_map.mp hw;rw [hs] at hp;exact StrLaws.split_free _ _ p hp) (fun w hw=>by
  obtain ⟨p,hp,rfl⟩:=List.mem_map.mp hw;exact hf p hp) e3
 have inj:∀(a b:List Str),a.map (·.cps.toList)=b.map (·.cps.toList)->a=b:=by
  intro a
  induction a with
  |nil=>intro b h;cases b with
   |nil=>rfl
   |cons _ _=>cases h
  |cons x a ih=>intro b h;cases b with
   |nil=>cases h
   |cons y b=>
    simp only [List.map_cons,List.cons.injEq] at h;rw [ih b h.2];have:x=y:=by
     cases x;cases y;simp only [Str.mk.injEq];exact Array.toList_inj.mp h.1
    rw [this]
 exact inj _ _ e4
end Tw
namespace Tw
open PySem L2 L3 PySem.NumText
noncomputable def sg(w:Str):List Nat:=w.cps.toList
theorem sg_inj{a b:Str}(h:sg a=sg b):a=b:=by
 cases a;cases b;simp only [Str.mk.injEq];exact Array.toList_inj.mp h
theorem sg_len(w:Str):(sg w).length=w.length:=Array.length_toList
theorem sg_itx(n:Nat):sg (itx (n:Int))=(Nat.toDigits 10 n).map Char.toNat:=PySem.W.KIN.signs_num n
theorem rev_ind{P:List Nat->Prop}(h0:P [])(h1:∀l c,P l->P (l++[c])):∀l,P l:=fun l=>by
 have:∀r:List Nat,P r.reverse:=fun r=>by
  induction r with
  |nil=>simpa using h0
  |cons c r ih=>rw [List.reverse_cons];exact h1 _ _ ih
 have:=this l.reverse
 rwa [List.reverse_reverse] at this
noncomputable def Can(cs:List Nat):Prop:=cs=[48]\/cs.head?≠some 48
theorem dval_lt:∀(cs:List Nat),AllDigits cs->digitsVal cs<10 ^ cs.length:=by
 refine rev_ind (fun _=>by decide) fun cs c ih h=>?_
 rw [digitsVal_snoc];have h1:=ih fun d hd=>h d (by simp [hd])
 have h2:=h c (by simp)
 simp only [List.length_append,List.length_cons,List.length_nil,Nat.pow_add,Nat.zero_add,Nat.pow_one];lia
theorem dval_ge:∀(cs:List Nat),AllDigits cs->cs≠[]->cs.head?≠some 48->10 ^ (cs.length-1)<=digitsVal cs:=by
 refine rev_ind (fun _ h=>absurd rfl h) fun cs c ih h _ hh=>?_;rw [digitsVal_snoc];have h2:=h c (by simp)
 by_cases hz:cs=[]
 ·subst hz
  have:c≠48:=fun e=>hh (by simp [e])
  show 1<=0*10+(c-48);lia
 ·have h1:=ih (fun d hd=>h d (by simp [hd])) hz (by
   cases cs with
   |nil=>exact absurd rfl hz
   |cons a r=>simpa using hh)
  have hl:0<cs.length:=by cases cs with
   |nil=>exact absurd rfl hz
   |cons _ _=>simp
  have e:(cs++[c]).length-1=(cs.length-1)+1:=by simp;lia
  rw [e,Nat.pow_succ];lia
theorem head_pos:∀n:Nat,0<n->((Nat.toDigits 10 n).map Char.toNat).head?≠some 48:=by
 intro n
 induction n using Nat.strongRecOn with
 |_ n ih=>
  intro hn;have hch:∀d:Nat,d<10->(Nat.digitChar d).toNat=d+48:=by decide
  by_cases h:n<10
  ·rw [Nat.toDigits_of_lt_base h]
   simp only [List.map_cons,List.head?_cons,ne_eq,Option.some.injEq];rw [hch n h];lia
  ·have t:Nat.toDigits 10 (n / 10)++Nat.toDigits 10 (n % 10)=Nat.toDigits 10 (10*(n / 10)+n % 10):=Nat.toDigits_append_toDigits (by decide) (by lia) (Nat.mod_lt n (by decide))
   rw [Nat.div_add_mod] at t;have i:=ih (n / 10) (by lia) (by lia)
   rw [<- t,List.map_append];cases e:(Nat.toDigits 10 (n / 10)).map Char.toNat with
   |nil=>
    have:=congrArg List.length e;have h1:=PySem.W.KIN.val_back (n / 10);rw [e] at h1;have:n / 10=0:=h1.symm;lia
   |cons a r=>rw [e] at i;simpa using i
theorem back_can(n:Nat):Can ((Nat.toDigits 10 n).map Char.toNat):=by
 by_cases h:n=0
 ·subst h;left;decide
 ·exact .inr (head_pos n (by lia))
theorem digs_all(n:Nat):AllDigits ((Nat.toDigits 10 n).map Char.toNat):=by
 intro c hc;obtain ⟨ch,hch,e⟩:=List.mem_map.mp hc;have r:=Nat.isDigit_of_mem_toDigits (b:=10) (by decide) (by decide) hch
 subst e;simp only [Char.isDigit,Bool.and_eq_true,decide_eq_true_eq] at r;exact ⟨r.1,r.2⟩
theorem digs_ne(n:Nat):(Nat.toDigits 10 n).map Char.toNat≠[]:=by
 intro e;have h1:=PySem.W.KIN.val_back n;rw [e] at h1;have h2:n=0:=h1.symm;subst h2;exact absurd e (by decide)
noncomputable def wv(m:Nat)(w:Str):Option Nat:=open Classical in if AllDigits (sg w)/\sg w≠[]/\Can (sg w)/\digitsVal (sg w)<m then some (digitsVal (sg w)) else none
theorem wv_itx{m n:Nat}(h:n<m):wv m (itx (n:Int))=some n:=by
 unfold wv;rw [sg_itx];rw [if_pos ⟨digs_all n,digs_ne n,back_can n,by rw [PySem.W.KIN.val_back];exact h⟩,PySem.W.KIN.val_back]
theorem long_more{m:Nat}{w:Str}(hd:AllDigits (sg w))(hn:sg w≠[])(hc:Can (sg w))(hl:(itx (m:Int)).length<w.length):m<digitsVal (sg w):=by
 rw [<- sg_len,<- sg_len,sg_itx] at hl;have h1:m<10 ^ ((Nat.toDigits 10 m).map Char.toNat).length:=by
  have:=dval_lt _ (digs_all m)
  rwa [PySem.W.KIN.val_back] at this
 have hp:0<((Nat.toDigits 10 m).map Char.toNat).length:=List.length_pos_iff.mpr (digs_ne m);rcases hc with h|h
 ·rw [h] at hl
  simp only [List.length_cons,List.length_nil] at hl;lia
 ·have h2:=dval_ge _ hd hn h
  exact Nat.lt_of_lt_of_le h1 (Nat.le_trans (Nat.pow_le_pow_right (by decide) (by lia)) h2)
end Tw
namespace Tw
open PySem L2 L3 LS PySem.NumText
section
variable {ad:Ad}{M:Mem}{Q:DK}{E:DX}{δ:Dl}{K:DK}
theorem sgn_lo{c:Nat}(h:48<=c):(!decide (([c]:List Nat)<(Str.ofString "0").cps.toList))=true:=by
 have e:(Str.ofString "0").cps.toList=[48]:=by decide +kernel
 rw [e,<- decide_not,decide_eq_true_eq,List.cons_lt_cons_iff];simp;lia
theorem sgn_hi{c:Nat}(h:c<=57):(!decide ((Str.ofString "9").cps.toList<([c]:List Nat)))=true:=by
 have e:(Str.ofString "9").cps.toList=[57]:=by decide +kernel
 rw [e,<- decide_not,decide_eq_true_eq,List.cons_lt_cons_iff];simp;lia
theorem eqS0_c{ta tb:dTE}{a b:Str}(ha:∀K:DK,K (.str a) M->ta δ M K)(hb:∀K:DK,K (.str b) M->tb δ M K):∀K:Bool->Mem->Prop,K (decide (a=b)) M->dTest (dOp oEq ta tb) δ M K:=fun K q=>by
 unfold dTest dOp;refine ha _ (hb _ ?_);simp_arith only [];exact q
theorem var_e0{i:Nat}{d:D}(h:δ[i]?=some (some d)):∀K:DK,K d M->dVar i δ M K:=fun K hK=>var0 h hK
theorem figs_spec{w:Str}(hd:AllDigits (sg w))(hn:sg w≠[])(hc:Can (sg w))(hl:w.length<=100)(h:Q (.bl true) M):S_q13 ad [.str w] M Q E:=by
 rw [u_q13 (n:=0)];unfold T_q13;have n0:w≠Str.ofString "":=fun e=>hn (by rw [e];decide +kernel)
 have ha:w.cps.all (· < 128)=true:=by
  rw [<- Array.all_toList,List.all_eq_true];intro c hc;have:=hd c hc;simp;lia
 refine seq_go0 (if_go (b:=false) (fun K q=>or_c (b:=false) (fun K q=>eqS0_c (var_e0 rfl) (fun K q=>q) K (by rw [decide_eq_false n0];exact q)) (fun _=>not_c (b:=true) (tru_c fun K q=>all_map (xs:=signsD w) (p:=fun _=>true) (fun R q=>?_) (by simp only [signsD,List.length_map,Array.length_toList];exact Nat.le_trans hl (by decide)) (fun y hy K q=>?_) (by rw [show (signsD w).all (fun _=>true)=true by simp];exact q))) K q) (fun e=>by cases e) fun _=>?_)
 ·simp only [wStr]
  refine var0 (d:=.str w) rfl ?_;exact ⟨ha,q⟩
 ·simp only [signsD,List.mem_map] at hy
  obtain ⟨c,hc2,rfl⟩:=hy;have:=hd c hc2;simp_arith only [sgn_lo this.1,sgn_hi this.2];exact q
 dsimp only [dNext];refine ret_go ?_;have hz:w.length<=sizeLine:=szl (by lia)
 rcases hc with e|e
 ·have ew:w=Str.ofString "0":=sg_inj (by rw [e];decide +kernel)
  subst ew;simp_arith only [decide_true];exact drp_id h
 ·by_cases ew:w=Str.ofString "0"
  ·subst ew
   simp_arith only [decide_true];exact drp_id h
  ·obtain ⟨c,cs,ec⟩:∃c cs,sg w=c::cs:=by
    cases q:sg w with
    |nil=>exact absurd q hn
    |cons c cs=>exact ⟨c,cs,rfl⟩
   have ec2:w.cps.toList[0]?=some c:=by
    show (sg w)[0]?=some c;rw [ec];rfl
   have nc:(⟨#[c]⟩:Str)≠Str.ofString "0":=fun z=>by
    have:sg (⟨#[c]⟩:Str)=sg (Str.ofString "0"):=by rw [z]
    have e0:sg (Str.ofString "0")=[48]:=by decide +kernel
    rw [e0] at this;have:c=48:=by simpa [sg] using this
    rw [ec,this] at e;simp at e
   simp_arith only [decide_eq_false ew,atI_0,ec2,decide_eq_false nc];exact ⟨hz,drp_id h⟩
theorem num_spec{n:Nat}{lo hi:Int}(h1:n<=1000)(h2:lo<=n)(h3:(n:Int)<=hi)(h4:hi<=1000)(h:Q (.int (n:Nat)) M):S_q16 ad [.str (itx (n:Int)),.int lo,.int hi] M Q E:=by
 have hd:AllDigits (sg (itx (n:Int))):=by rw [sg_itx];exact digs_all n
 have hn:sg (itx (n:Int))≠[]:=by rw [sg_itx];exact digs_ne n
 have hc:Can (sg (itx (n:Int))):=by rw [sg_itx];exact back_can n
 have hl:(itx (n:Int)).length<=10:=PySem.W.KT.len_num (by lia) (by lia)
 obtain ⟨m,rfl⟩:=Int.eq_ofNat_of_zero_le (show 0<=hi by lia)
 have hv:digitsVal (sg (itx (n:Int)))=n:=by
  have:=wv_itx (Nat.lt_succ_self n);unfold wv at this
  split at this
  ·exact Option.some.inj this
  ·cases this
 have hlm:¬((itx (m:Int)).length<(itx (n:Int)).length):=fun z=>by
  have:=long_more (m:=m) hd hn hc z;lia
 have eI:intText? (itx (n:Int))=some (n:Int):=by
  have:=intText_digits hd hn (by lia)
  rw [this];exact congrArg (fun z:Nat=>some (z:Int)) hv
 rw [u_q16 (n:=0)];unfold T_q16;refine seq_go0 (if_go (b:=false) (fun K q=>or_c (b:=false) (not_c (b:=true) (tru_c (frzB fun K q=>call_e (ds:=[.str (itx (n:Int))]) (fun K q=>var0 rfl q) rfl (fun Q' E' z=>figs_spec hd hn hc (by lia) z) q))) (fun _ K q=>?_) K q) (fun e=>by cases e) fun _=>?_)
 ·have hlm2:¬((itx (m:Int)).length:Int)<((itx (n:Int)).length:Int):=by lia
  have e9:(itx (m:Int)).length<=10:=PySem.W.KT.len_num (by lia) (by lia)
  simp_arith only [];refine ⟨szl (by lia),⟨by lia,by lia⟩,szl (by lia),?_⟩
  rw [decide_eq_false hlm2];exact q
 dsimp only [dNext];simp_arith only [eI];refine ⟨by lia,?_⟩
 rw [decide_eq_true h2];simp only [if_pos h3];exact drp_id h
end
end Tw
namespace Tw
open PySem L2 L3 LS
theorem sapp(a b c:Str):a++b++c=a++(b++c):=congrArg Str.mk (Array.append_assoc (xs:=a.cps) (ys:=b.cps) (zs:=c.cps))
theorem slen(a b:Str):(a++b).length=a.length+b.length:=by
 show (a++b).cps.size=a.cps.size+b.cps.size;rw [show (a++b).cps=a.cps++b.cps from rfl,Array.size_append]
noncomputable def sgn(w:Str):Str:=if w="sum" then "+" else if w="by" then "*" else if w="less" then "<" else "=="
noncomputable def wth:Rw->Str
 |.put _ k=>itx k
 |.take _ k=>"piece "++itx k
 |.pick _ y=>"pick "++y
 |.two w _ y z=>y++" "++sgn w++" "++z
 |_=>""
mutual
noncomputable def txR:Rw->List Str
 |.ifr x a b=>("if "++x)::(txRs a++("else":Str)::(txRs b++[("end":Str)]))
 |.again x a=>("again "++x)::(txRs a++[("end":Str)])
 |.put x k=>[x++" = "++wth (.put x k)]
 |.take x k=>[x++" = "++wth (.take x k)]
 |.pick x y=>[x++" = "++wth (.pick x y)]
 |.two w x y z=>[x++" = "++wth (.two w x y z)]
noncomputable def txRs:List Rw->List Str
 |[]=>[]
 |r::rs=>txR r++txRs rs
end
theorem txRs_append:∀{a b:List Rw},txRs (a++b)=txRs a++txRs b
 |[],b=>rfl
 |r::a,b=>by simp only [List.cons_append,txRs,txRs_append,List.append_assoc]
noncomputable def Sh(x:Str):Prop:=x.length<=20
mutual
noncomputable def SmR:Rw->Prop
 |.ifr x a b=>Sh x/\SmRs a/\SmRs b
 |.again x a=>Sh x/\SmRs a
 |.put x k=>Sh x/\0<=k/\k<=1000
 |.take x k=>Sh x/\0<=k/\k<=1000
 |.pick x y=>Sh x/\Sh y
 |.two w x y z=>(w="sum"\/w="by"\/w="less"\/w="same")/\Sh x/\Sh y/\Sh z
noncomputable def SmRs:List Rw->Prop
 |[]=>True
 |r::rs=>SmR r/\SmRs rs
end
theorem SmRs_mem:∀{rs:List Rw} {r:Rw},SmRs rs->r∈rs->SmR r
 |s::rs,r,o,h=>by
  rcases List.mem_cons.mp h with rfl|h
  ·exact o.1
  ·exact SmRs_mem o.2 h
theorem hRs_mem:∀{rs:List Rw} {r:Rw},r∈rs->hR r<=hRs rs
 |s::rs,r,h=>by
  rcases List.mem_cons.mp h with rfl|h
  ·simp only [hRs];lia
  ·have:=hRs_mem h;simp only [hRs];lia
mutual
theorem txR_len:∀r:Rw,(txR r).length<=3*cR r
 |.ifr _ a b=>by have:=txRs_len a;have:=txRs_len b;simp only [txR,cR,List.length_append,List.length_cons,List.length_nil];lia
 |.again _ a=>by have:=txRs_len a;simp only [txR,cR,List.length_append,List.length_cons,List.length_nil];lia
 |.put _ _=>by simp [txR,cR]
 |.take _ _=>by simp [txR,cR]
 |.pick _ _=>by simp [txR,cR]
 |.two _ _ _ _=>by simp [txR,cR]
theorem txRs_len:∀rs:List Rw,(txRs rs).length<=3*cRs rs
 |[]=>by simp [txRs]
 |r::rs=>by have:=txR_len r;have:=txRs_len rs;simp only [txRs,cRs,List.length_append];lia
end
theorem itx_len{k:Int}(h0:0<=k)(h1:k<=1000):(itx k).length<=1002:=by
 have:=PyProof.Rows.len_str_of_int k;unfold itx;lia
theorem sg1:tabAt tab_SIGNS "sum"=some (.str "+"):=by simp_arith only [tab_SIGNS,tabAt]
theorem sg2:tabAt tab_SIGNS "by"=some (.str "*"):=by simp_arith only [tab_SIGNS,tabAt]
theorem sg3:tabAt tab_SIGNS "less"=some (.str "<"):=by simp_arith only [tab_SIGNS,tabAt]
theorem sg4:tabAt tab_SIGNS "same"=some (.str "=="):=by simp_arith only [tab_SIGNS,tabAt]
theorem sz20{n:Nat}(h:n<=100000):n<=sizeLine:=Nat.le_trans h (by decide)
section
variable {ad:Ad}{M:Mem}{Q:DK}{E:DX}
noncomputable def isW:Rw->Bool
 |.ifr _ _ _=>true
 |.again _ _=>true
 |_=>false
theorem l1:(Str.ofString " ").length=1:=by decide +kernel
theorem l2:(Str.ofString "piece ").length=6:=by decide +kernel
theorem l3:(Str.ofString "pick ").length=5:=by decide +kernel
theorem l4:(Str.ofString "+").length=1:=by decide +kernel
theorem l5:(Str.ofString "*").length=1:=by decide +kernel
theorem l6:(Str.ofString "<").length=1:=by decide +kernel
theorem l7:(Str.ofString "==").length=2:=by decide +kernel
theorem l8:(Str.ofString " = ").length=3:=by decide +kernel
theorem l9:(Str.ofString " = piece ").length=9:=by decide +kernel
theorem l10:(Str.ofString " = pick ").length=8:=by decide +kernel
theorem l11:(Str.ofString "if ").length=3:=by decide +kernel
theorem l12:(Str.ofString "again ").length=6:=by decide +kernel
theorem worth_spec{r:Rw}(s:SmR r)(hw:isW r=false)(h:Q (.str (wth r)) M):S_q8 ad [r.d] M Q E:=by
 cases r with
 |ifr=>cases hw
 |again=>cases hw
 |put x k=>
  simp_arith only [u_q8,T_q8,Rw.d,atI_0,atI_2];exact ⟨⟨by have:=s.2.1;lia,by have:=s.2.2;lia⟩,drp_id h⟩
 |take x k=>
  simp_arith only [u_q8,T_q8,Rw.d,atI_0,atI_2];have hl:=itx_len s.2.1 s.2.2;refine ⟨⟨by have:=s.2.1;lia,by have:=s.2.2;lia⟩,sz20 ?_,drp_id h⟩
  rw [l2];lia
 |pick x y=>
  simp_arith only [u_q8,T_q8,Rw.d,atI_0,atI_2];have hl:=s.2;unfold Sh at hl;refine ⟨sz20 ?_,drp_id h⟩;rw [l3];lia
 |two w x y z=>
  obtain ⟨o,s1,s2,s3⟩:=s;unfold Sh at s1 s2 s3;have e1:sgn "sum"="+":=by unfold sgn;decide +kernel
  have e2:sgn "by"="*":=by unfold sgn;decide +kernel
  have e3:sgn "less"="<":=by unfold sgn;decide +kernel
  have e4:sgn "same"="==":=by unfold sgn;decide +kernel
  rcases o with rfl|rfl|rfl|rfl
  ·simp_arith only [u_q8,T_q8,Rw.d,atI_0,atI_2,atI_3,sg1]
   simp only [wth,e1] at h;simp only [slen,l1,l4];exact ⟨sz20 (by lia),sz20 (by lia),sz20 (by lia),sz20 (by lia),drp_id h⟩
  ·simp_arith only [u_q8,T_q8,Rw.d,atI_0,atI_2,atI_3,sg2]
   simp only [wth,e2] at h;simp only [slen,l1,l5];exact ⟨sz20 (by lia),sz20 (by lia),sz20 (by lia),sz20 (by lia),drp_id h⟩
  ·simp_arith only [u_q8,T_q8,Rw.d,atI_0,atI_2,atI_3,sg3]
   simp only [wth,e3] at h;simp only [slen,l1,l6];exact ⟨sz20 (by lia),sz20 (by lia),sz20 (by lia),sz20 (by lia),drp_id h⟩
  ·simp_arith only [u_q8,T_q8,Rw.d,atI_0,atI_2,atI_3,sg4]
   simp only [wth,e4] at h;simp only [slen,l1,l7];exact ⟨sz20 (by lia),sz20 (by lia),sz20 (by lia),sz20 (by lia),drp_id h⟩
theorem wth_len{r:Rw}(s:SmR r):(wth r).length<=2000:=by
 cases r with
 |ifr=>simp only [wth];decide +kernel
 |again=>simp only [wth];decide +kernel
 |put x k=>have:=itx_len s.2.1 s.2.2;simp only [wth];lia
 |take x k=>have:=itx_len s.2.1 s.2.2;simp only [wth,slen,l2];lia
 |pick x y=>have:=s.2;unfold Sh at this;simp only [wth,slen,l3];lia
 |two w x y z=>
  obtain ⟨o,s1,s2,s3⟩:=s;unfold Sh at s1 s2 s3;have e:(sgn w).length<=2:=by rcases o with rfl|rfl|rfl|rfl<;>(unfold sgn;decide +kernel)
  simp only [wth,slen,l1];lia
end
end Tw
namespace Tw
open PySem L2 L3 LS
section
variable {ad:Ad}
theorem written_spec:∀(n:Nat) (rows:List Rw),hRs rows<n->SmRs rows->cRs rows<=60->∀(M:Mem) (Q:DK) (E:DX),(∀p,M p=none->Q (.ref p) (M.upd p (.lst ((txRs rows).map D.str))))->S_q30 ad n [.tup (rowsD rows)] M Q E
 |0,rows,hn,_,_,M,Q,E,h=>by lia
 |n+1,rows,hn,ok,cn,M,Q,E,h=>by
  simp_arith only [u_q30,T_q30,↓dFor];refine ⟨szl (by decide),fun p hp=>?_⟩
  refine forD_inv (fun xs δ N=>∃(dn rs:List Rw) (c2:Option D),rows=dn++rs/\xs=rowsD rs/\δ=[some (.tup (rowsD rows)),some (.ref p),c2]/\N=M.upd p (.lst ((txRs dn).map D.str))) (fun _ _ _ _=>ok_nil) ?_ ?_ _ _ _ ⟨[],rows,_,rfl,rfl,rfl,rfl⟩
  ·rintro δ N ⟨dn,rs,c2,e1,e2,rfl,rfl⟩
   have:rs=[]:=by cases rs with
    |nil=>rfl
    |cons r rs=>simp [rowsD] at e2
   subst this;rw [List.append_nil] at e1;subst e1;simp_arith only [];exact drp_id (h p hp)
  ·rintro x xs δ N ⟨dn,rs,c2,e1,e2,rfl,rfl⟩ D' hnx _ _ _
   cases rs with
   |nil=>simp [rowsD] at e2
   |cons r rs=>
    simp only [rowsD,List.cons.injEq] at e2;obtain ⟨rfl,rfl⟩:=e2;have hr:r∈rows:=by rw [e1];simp
    have sr:=SmRs_mem ok hr;have hh:=hRs_mem hr;have hcs:cRs rows=cRs dn+(cR r+cRs rs):=by rw [e1,cRs_append];simp only [cRs]
    have hl1:=txRs_len dn;have hl2:=txR_len r;have fin:∀(c2:Option D) (ts:List Str),ts=txR r->D'.nx [some (.tup (rowsD rows)),some (.ref p),c2] (M.upd p (.lst ((txRs dn).map D.str++ts.map D.str))):=fun c2 ts e=>hnx _ _ ⟨dn++[r],rs,c2,by rw [e1];simp,rfl,rfl,by rw [txRs_append,e];simp [txRs]⟩
    cases r with
    |ifr y a b=>
     simp only [SmR] at sr;simp only [hR] at hh;simp only [cR] at hcs;have sx:=sr.1;unfold Sh at sx;simp_arith only [Rw.d,atI_0,atI_1,atI_2];refine ⟨sz20 (by rw [l11];lia),szl (by decide),fun q hq=>?_⟩
     simp only [Mem.upd_del,Mem.del_none hq];refine calls_of fun Q' E' hq' _=>written_spec n a (by lia) sr.2.1 (by lia) _ _ _ fun q2 hq2=>hq' _ _ ?_
     simp_arith only [Mem.upd_del,Mem.del_none hq2];have hla:=txRs_len a;have hlb:=txRs_len b;simp only [List.length_map];refine ⟨sz20 (by lia),fun p1 h1=>?_⟩
     rw [Mem.del_none h1];refine ⟨szl (by decide),fun p2 h2=>?_⟩
     rw [Mem.del_none h2];refine ⟨sz20 (by lia),fun p3 h3=>?_⟩
     rw [Mem.del_none h3];simp_arith only [Rw.d,atI_3];refine calls_of fun Q' E' hq' _=>written_spec n b (by lia) sr.2.2 (by lia) _ _ _ fun q3 hq3=>hq' _ _ ?_
     simp_arith only [Mem.upd_del,Mem.del_none hq3,List.length_map,List.length_append];refine ⟨sz20 (by lia),fun p4 h4=>?_⟩
     rw [Mem.del_none h4];refine ⟨szl (by decide),fun p5 h5=>?_⟩
     rw [Mem.del_none h5];refine ⟨sz20 (by lia),fun p6 h6=>?_⟩
     rw [Mem.del_none h6];simp_arith only [List.length_map,List.length_append,Mem.upd_same,Mem.upd_upd];exact ⟨sz20 (by lia),by simpa [txR] using fin (some (Rw.ifr y a b).d) _ rfl⟩
    |again y a=>
     simp only [SmR] at sr;simp only [hR] at hh;simp only [cR] at hcs;have sx:=sr.1;unfold Sh at sx;have hla:=txRs_len a;simp_arith only [Rw.d,atI_0,atI_1,atI_2];refine ⟨sz20 (by rw [l12];lia),szl (by decide),fun q hq=>?_⟩
     simp only [Mem.upd_del,Mem.del_none hq];refine calls_of fun Q' E' hq' _=>written_spec n a (by lia) sr.2 (by lia) _ _ _ fun q2 hq2=>hq' _ _ ?_
     simp_arith only [Mem.upd_del,Mem.del_none hq2,List.length_map];refine ⟨sz20 (by lia),fun p1 h1=>?_⟩
     rw [Mem.del_none h1];refine ⟨szl (by decide),fun p2 h2=>?_⟩
     rw [Mem.del_none h2];refine ⟨sz20 (by lia),fun p3 h3=>?_⟩
     rw [Mem.del_none h3];simp_arith only [List.length_map,List.length_append,Mem.upd_same,Mem.upd_upd];exact ⟨sz20 (by lia),by simpa [txR] using fin (some (Rw.again y a).d) _ rfl⟩
    |put y k=>
     have hwl:=wth_len sr;have sx:=sr.1;unfold Sh at sx;simp_arith only [Rw.d,atI_0,atI_1];refine ⟨sz20 (by rw [l8];lia),?_⟩
     refine calls_ro (d:=.str (wth (.put y k))) (fun Q' E' q=>worth_spec (r:=.put y k) sr rfl q) ?_;simp_arith only [Mem.upd_same,Mem.upd_upd,List.length_map];exact ⟨sz20 (by rw [slen,l8];lia),szs (by lia),by simpa [txR] using fin (some (.put y k:Rw).d) _ rfl⟩
    |take y k=>
     have hwl:=wth_len sr;have sx:=sr.1;unfold Sh at sx;simp_arith only [Rw.d,atI_0,atI_1];refine ⟨sz20 (by rw [l8];lia),?_⟩
     refine calls_ro (d:=.str (wth (.take y k))) (fun Q' E' q=>worth_spec (r:=.take y k) sr rfl q) ?_;simp_arith only [Mem.upd_same,Mem.upd_upd,List.length_map];exact ⟨sz20 (by rw [slen,l8];lia),szs (by lia),by simpa [txR] using fin (some (.take y k:Rw).d) _ rfl⟩
    |pick y k=>
     have hwl:=wth_len sr;have sx:=sr.1;unfold Sh at sx;simp_arith only [Rw.d,atI_0,atI_1];refine ⟨sz20 (by rw [l8];lia),?_⟩
     refine calls_ro (d:=.str (wth (.pick y k))) (fun Q' E' q=>worth_spec (r:=.pick y k) sr rfl q) ?_;simp_arith only [Mem.upd_same,Mem.upd_upd,List.length_map];exact ⟨sz20 (by rw [slen,l8];lia),szs (by lia),by simpa [txR] using fin (some (.pick y k:Rw).d) _ rfl⟩
    |two w y u v=>
     rcases (show w="sum"\/w="by"\/w="less"\/w="same" from sr.1) with rfl|rfl|rfl|rfl
     ·have hwl:=wth_len sr
      have sx:=sr.2.1;unfold Sh at sx;simp_arith only [Rw.d,atI_0,atI_1];refine ⟨sz20 (by rw [l8];lia),?_⟩
      refine calls_ro (d:=.str (wth (.two "sum" y u v))) (fun Q' E' q=>worth_spec (r:=.two "sum" y u v) sr rfl q) ?_;simp_arith only [Mem.upd_same,Mem.upd_upd,List.length_map];exact ⟨sz20 (by rw [slen,l8];lia),szs (by lia),by simpa [txR] using fin (some (.two "sum" y u v:Rw).d) _ rfl⟩
     ·have hwl:=wth_len sr
      have sx:=sr.2.1;unfold Sh at sx;simp_arith only [Rw.d,atI_0,atI_1];refine ⟨sz20 (by rw [l8];lia),?_⟩
      refine calls_ro (d:=.str (wth (.two "by" y u v))) (fun Q' E' q=>worth_spec (r:=.two "by" y u v) sr rfl q) ?_;simp_arith only [Mem.upd_same,Mem.upd_upd,List.length_map];exact ⟨sz20 (by rw [slen,l8];lia),szs (by lia),by simpa [txR] using fin (some (.two "by" y u v:Rw).d) _ rfl⟩
     ·have hwl:=wth_len sr
      have sx:=sr.2.1;unfold Sh at sx;simp_arith only [Rw.d,atI_0,atI_1];refine ⟨sz20 (by rw [l8];lia),?_⟩
      refine calls_ro (d:=.str (wth (.two "less" y u v))) (fun Q' E' q=>worth_spec (r:=.two "less" y u v) sr rfl q) ?_;simp_arith only [Mem.upd_same,Mem.upd_upd,List.length_map];exact ⟨sz20 (by rw [slen,l8];lia),szs (by lia),by simpa [txR] using fin (some (.two "less" y u v:Rw).d) _ rfl⟩
     ·have hwl:=wth_len sr
      have sx:=sr.2.1;unfold Sh at sx;simp_arith only [Rw.d,atI_0,atI_1];refine ⟨sz20 (by rw [l8];lia),?_⟩
      refine calls_ro (d:=.str (wth (.two "same" y u v))) (fun Q' E' q=>worth_spec (r:=.two "same" y u v) sr rfl q) ?_;simp_arith only [Mem.upd_same,Mem.upd_upd,List.length_map];exact ⟨sz20 (by rw [slen,l8];lia),szs (by lia),by simpa [txR] using fin (some (.two "same" y u v:Rw).d) _ rfl⟩
end
end Tw
namespace Tw
open PySem L2 L3 LS
theorem eqs1(a b:Str):a++Str.ofString " = piece "++b=a++Str.ofString " = "++(Str.ofString "piece "++b):=by
 rw [sapp,sapp,<- sapp (Str.ofString " = ")];congr 2
theorem eqs2(a b:Str):a++Str.ofString " = pick "++b=a++Str.ofString " = "++(Str.ofString "pick "++b):=by
 rw [sapp,sapp,<- sapp (Str.ofString " = ")];congr 2
theorem vd1:valD (foldK [Sum.inr (Str.ofString "sum"),Sum.inr (Str.ofString "by"),Sum.inr (Str.ofString "less"),Sum.inr (Str.ofString "same")] [D.str (Str.ofString "+"),D.str (Str.ofString "*"),D.str (Str.ofString "<"),D.str (Str.ofString "==")]) (Sum.inr (Str.ofString "sum"))=some (.str "+"):=by rfl
theorem vd2:valD (foldK [Sum.inr (Str.ofString "sum"),Sum.inr (Str.ofString "by"),Sum.inr (Str.ofString "less"),Sum.inr (Str.ofString "same")] [D.str (Str.ofString "+"),D.str (Str.ofString "*"),D.str (Str.ofString "<"),D.str (Str.ofString "==")]) (Sum.inr (Str.ofString "by"))=some (.str "*"):=by rfl
theorem vd3:valD (foldK [Sum.inr (Str.ofString "sum"),Sum.inr (Str.ofString "by"),Sum.inr (Str.ofString "less"),Sum.inr (Str.ofString "same")] [D.str (Str.ofString "+"),D.str (Str.ofString "*"),D.str (Str.ofString "<"),D.str (Str.ofString "==")]) (Sum.inr (Str.ofString "less"))=some (.str "<"):=by rfl
theorem vd4:valD (foldK [Sum.inr (Str.ofString "sum"),Sum.inr (Str.ofString "by"),Sum.inr (Str.ofString "less"),Sum.inr (Str.ofString "same")] [D.str (Str.ofString "+"),D.str (Str.ofString "*"),D.str (Str.ofString "<"),D.str (Str.ofString "==")]) (Sum.inr (Str.ofString "same"))=some (.str "=="):=by rfl
theorem drp_new{Q:DK}{d:D}{M:Mem}{p:Addr}{o:MO}(hp:M p=none)(h:Q d M):drp Q d (M.upd p o):=
 ⟨M,fun b u e=>by rw [Mem.upd_ne (Mem.ne e hp)];exact e,h⟩
section
variable {ad:Ad}{M:Mem}{Q:DK}{E:DX}
theorem rowtext_spec{r:Rw}(s:SmR r)(hw:isW r=false)(h:Q (.str (rwX r++" = "++wth r)) M):S_q7 ad [r.d] M Q E:=by
 cases r with
 |ifr=>cases hw
 |again=>cases hw
 |put x k=>
  have hl:=itx_len s.2.1 s.2.2;have sx:=s.1;unfold Sh at sx;simp_arith only [u_q7,T_q7,Rw.d,atI_0,atI_1,atI_2,slen,l8];exact ⟨sz20 (by lia),⟨by have:=s.2.1;lia,by have:=s.2.2;lia⟩,sz20 (by lia),drp_id h⟩
 |take x k=>
  have hl:=itx_len s.2.1 s.2.2;have sx:=s.1;unfold Sh at sx;simp only [rwX,wth,<- eqs1] at h;simp_arith only [u_q7,T_q7,Rw.d,atI_0,atI_1,atI_2,slen,l9];exact ⟨sz20 (by lia),⟨by have:=s.2.1;lia,by have:=s.2.2;lia⟩,sz20 (by lia),drp_id h⟩
 |pick x y=>
  have sx:=s.1;have sy:=s.2;unfold Sh at sx sy;simp only [rwX,wth,<- eqs2] at h;simp_arith only [u_q7,T_q7,Rw.d,atI_0,atI_1,atI_2,slen,l10];exact ⟨sz20 (by lia),sz20 (by lia),drp_id h⟩
 |two w x y z=>
  obtain ⟨o,s1,s2,s3⟩:=s;unfold Sh at s1 s2 s3;have e1:sgn "sum"="+":=by unfold sgn;decide +kernel
  have e2:sgn "by"="*":=by unfold sgn;decide +kernel
  have e3:sgn "less"="<":=by unfold sgn;decide +kernel
  have e4:sgn "same"="==":=by unfold sgn;decide +kernel
  simp only [rwX,wth,<- sapp] at h;rcases o with rfl|rfl|rfl|rfl
  ·rw [e1] at h
   simp_arith only [u_q7,T_q7,Rw.d,atI_0,atI_1,atI_2,atI_3];refine ⟨by decide,fun p hp=>?_⟩
   rw [vd1];simp_arith only [slen,l1,l8,l4];exact ⟨sz20 (by lia),sz20 (by lia),sz20 (by lia),sz20 (by lia),sz20 (by lia),sz20 (by lia),drp_new hp h⟩
  ·rw [e2] at h
   simp_arith only [u_q7,T_q7,Rw.d,atI_0,atI_1,atI_2,atI_3];refine ⟨by decide,fun p hp=>?_⟩
   rw [vd2];simp_arith only [slen,l1,l8,l5];exact ⟨sz20 (by lia),sz20 (by lia),sz20 (by lia),sz20 (by lia),sz20 (by lia),sz20 (by lia),drp_new hp h⟩
  ·rw [e3] at h
   simp_arith only [u_q7,T_q7,Rw.d,atI_0,atI_1,atI_2,atI_3];refine ⟨by decide,fun p hp=>?_⟩
   rw [vd3];simp_arith only [slen,l1,l8,l6];exact ⟨sz20 (by lia),sz20 (by lia),sz20 (by lia),sz20 (by lia),sz20 (by lia),sz20 (by lia),drp_new hp h⟩
  ·rw [e4] at h
   simp_arith only [u_q7,T_q7,Rw.d,atI_0,atI_1,atI_2,atI_3];refine ⟨by decide,fun p hp=>?_⟩
   rw [vd4];simp_arith only [slen,l1,l8,l7];exact ⟨sz20 (by lia),sz20 (by lia),sz20 (by lia),sz20 (by lia),sz20 (by lia),sz20 (by lia),drp_new hp h⟩
end
end Tw
namespace Tw
open PySem L2 L3 LS
theorem Mem.ge{M N:Mem}(h:∀b o,M b=some o->N b=some o){p:Addr}(hp:N p=none):M p=none:=by
 cases e:M p with
 |none=>rfl
 |some o=>rw [h p o e] at hp;cases hp
theorem ge_upd{M N:Mem}(h:∀b o,M b=some o->N b=some o){p:Addr}{o:MO}(hp:M p=none):∀b u,M b=some u->(N.upd p o) b=some u:=fun b u e=>by
 rw [Mem.upd_ne (Mem.ne e hp)];exact h b u e
section
variable {ad:Ad}
theorem texts_spec:∀(n:Nat) (rows:List Rw),hRs rows<n->SmRs rows->cRs rows<=60->∀(M:Mem) (Q:DK) (E:DX),(∀p,M p=none->Q (.ref p) (M.upd p (.lst ((txRs rows).map D.str))))->S_q2 ad n [.tup (rowsD rows)] M Q E
 |0,rows,hn,_,_,M,Q,E,h=>by lia
 |n+1,rows,hn,ok,cn,M,Q,E,h=>by
  simp_arith only [u_q2,T_q2,↓dFor];refine ⟨szl (by decide),fun p hp=>?_⟩
  refine forD_inv (fun xs δ N=>∃(dn rs:List Rw) (f:Addr) (c2:Option D),rows=dn++rs/\xs=rowsD rs/\δ=[some (.tup (rowsD rows)),some (.ref f),c2]/\M f=none/\N f=some (.lst ((txRs dn).map D.str))/\∀b o,M b=some o->N b=some o) (fun _ _ _ _=>ok_nil) ?_ ?_ _ _ _ ⟨[],rows,p,_,rfl,rfl,rfl,hp,Mem.upd_same,ge_upd (fun _ _ e=>e) hp⟩
  ·rintro δ N ⟨dn,rs,f,c2,e1,e2,rfl,hf,hN,hge⟩
   have:rs=[]:=by cases rs with
    |nil=>rfl
    |cons r rs=>simp [rowsD] at e2
   subst this;rw [List.append_nil] at e1;subst e1;simp_arith only [];refine ⟨_,fun b o e=>?_,h f hf⟩
   by_cases c:b=f
   ·subst c;rw [Mem.upd_same] at e;cases e;exact hN
   ·rw [Mem.upd_ne c] at e;exact hge b o e
  ·rintro x xs δ N ⟨dn,rs,f,c2,e1,e2,rfl,hf,hN,hge⟩ D' hnx _ _ _
   cases rs with
   |nil=>simp [rowsD] at e2
   |cons r rs=>
    simp only [rowsD,List.cons.injEq] at e2;obtain ⟨rfl,rfl⟩:=e2;have hr:r∈rows:=by rw [e1];simp
    have sr:=SmRs_mem ok hr;have hh:=hRs_mem hr;have hcs:cRs rows=cRs dn+(cR r+cRs rs):=by rw [e1,cRs_append];simp only [cRs]
    have hl1:=txRs_len dn;have hl2:=txR_len r;have fin:∀(c2:Option D) (q:Addr) (N':Mem),M q=none->N' q=some (.lst ((txRs dn++txR r).map D.str))->(∀b o,M b=some o->N' b=some o)->D'.nx [some (.tup (rowsD rows)),some (.ref q),c2] N':=fun c2 q N' a1 a2 a3=>hnx _ _ ⟨dn++[r],rs,q,c2,by rw [e1];simp,rfl,rfl,a1,by rw [a2,txRs_append];simp [txRs],a3⟩
    cases r with
    |again y a=>
     simp only [SmR] at sr;simp only [hR] at hh;simp only [cR] at hcs;have sx:=sr.1;unfold Sh at sx;have hla:=txRs_len a;simp_arith only [Rw.d,atI_0,atI_1,atI_2,hN,List.length_map];refine ⟨sz20 (by rw [l12];lia),szl (by decide),fun q hq=>?_⟩
     simp_arith only [Mem.upd_del,Mem.del_none hq,hN,List.length_map];refine ⟨sz20 (by lia),fun q1 h1=>?_⟩
     rw [Mem.del_none h1];refine calls_of fun Q' E' hq' _=>texts_spec n a (by lia) sr.2 (by lia) _ _ _ fun q2 hq2=>hq' _ _ ?_
     simp_arith only [Mem.upd_del,Mem.del_none hq2,List.length_map,List.length_append];refine ⟨sz20 (by lia),fun p1 g1=>?_⟩
     rw [Mem.del_none g1];refine ⟨szl (by decide),fun p2 g2=>?_⟩
     rw [Mem.del_none g2];refine ⟨sz20 (by lia),fun p3 g3=>?_⟩
     exact fin _ p3 _ (Mem.ge hge g3) (by rw [Mem.upd_same];simp [txR]) (ge_upd hge (Mem.ge hge g3))
    |ifr y a b=>
     simp only [SmR] at sr;simp only [hR] at hh;simp only [cR] at hcs;have sx:=sr.1;unfold Sh at sx;have hla:=txRs_len a;have hlb:=txRs_len b;simp_arith only [Rw.d,atI_0,atI_1,atI_2,hN,List.length_map];refine ⟨sz20 (by rw [l11];lia),szl (by decide),fun q hq=>?_⟩
     simp_arith only [Mem.upd_del,Mem.del_none hq,hN,List.length_map];refine ⟨sz20 (by lia),fun q1 h1=>?_⟩
     rw [Mem.del_none h1];refine calls_of fun Q' E' hq' _=>texts_spec n a (by lia) sr.2.1 (by lia) _ _ _ fun q2 hq2=>hq' _ _ ?_
     simp_arith only [Mem.upd_del,Mem.del_none hq2,List.length_map,List.length_append];refine ⟨sz20 (by lia),fun p1 g1=>?_⟩
     rw [Mem.del_none g1];refine ⟨szl (by decide),fun p2 g2=>?_⟩
     rw [Mem.del_none g2];refine ⟨sz20 (by lia),fun p3 g3=>?_⟩
     have m3:=Mem.ge hge g3;have hge3:=ge_upd (N:=N) hge (o:=.lst (List.map D.str (txRs dn)++[D.str (Str.ofString "if "++y)]++List.map D.str (txRs a)++[D.str (Str.ofString "else")])) m3;simp_arith only [Rw.d,atI_3];refine calls_of fun Q' E' hq' _=>texts_spec n b (by lia) sr.2.2 (by lia) _ _ _ fun q4 hq4=>hq' _ _ ?_
     simp_arith only [Mem.upd_del,Mem.del_none hq4,Mem.upd_same,List.length_map,List.length_append];refine ⟨sz20 (by lia),fun p4 g4=>?_⟩
     rw [Mem.del_none g4];refine ⟨szl (by decide),fun p5 g5=>?_⟩
     rw [Mem.del_none g5];refine ⟨sz20 (by lia),fun p6 g6=>?_⟩
     exact fin _ p6 _ (Mem.ge hge3 g6) (by rw [Mem.upd_same];simp [txR]) (ge_upd hge3 (Mem.ge hge3 g6))
    |put y k=>
     simp_arith only [Rw.d,atI_0,atI_1,atI_2,hN,List.length_map];refine calls_ro (d:=.str (rwX (.put y k)++" = "++wth (.put y k))) (fun Q' E' q=>rowtext_spec (r:=.put y k) sr rfl q) ?_;simp_arith only [hN,List.length_map];exact ⟨szs (by lia),fin _ f _ hf (by rw [Mem.upd_same];simp [txR,rwX]) (ge_upd hge hf)⟩
    |take y k=>
     simp_arith only [Rw.d,atI_0,atI_1,atI_2,hN,List.length_map];refine calls_ro (d:=.str (rwX (.take y k)++" = "++wth (.take y k))) (fun Q' E' q=>rowtext_spec (r:=.take y k) sr rfl q) ?_;simp_arith only [hN,List.length_map];exact ⟨szs (by lia),fin _ f _ hf (by rw [Mem.upd_same];simp [txR,rwX]) (ge_upd hge hf)⟩
    |pick y k=>
     simp_arith only [Rw.d,atI_0,atI_1,atI_2,hN,List.length_map];refine calls_ro (d:=.str (rwX (.pick y k)++" = "++wth (.pick y k))) (fun Q' E' q=>rowtext_spec (r:=.pick y k) sr rfl q) ?_;simp_arith only [hN,List.length_map];exact ⟨szs (by lia),fin _ f _ hf (by rw [Mem.upd_same];simp [txR,rwX]) (ge_upd hge hf)⟩
    |two w y u v=>
     rcases (show w="sum"\/w="by"\/w="less"\/w="same" from sr.1) with rfl|rfl|rfl|rfl
     ·simp_arith only [Rw.d,atI_0,atI_1,atI_2,hN,List.length_map]
      refine calls_ro (d:=.str (rwX (.two "sum" y u v)++" = "++wth (.two "sum" y u v))) (fun Q' E' q=>rowtext_spec (r:=.two "sum" y u v) sr rfl q) ?_;simp_arith only [hN,List.length_map];exact ⟨szs (by lia),fin _ f _ hf (by rw [Mem.upd_same];simp [txR,rwX]) (ge_upd hge hf)⟩
     ·simp_arith only [Rw.d,atI_0,atI_1,atI_2,hN,List.length_map]
      refine calls_ro (d:=.str (rwX (.two "by" y u v)++" = "++wth (.two "by" y u v))) (fun Q' E' q=>rowtext_spec (r:=.two "by" y u v) sr rfl q) ?_;simp_arith only [hN,List.length_map];exact ⟨szs (by lia),fin _ f _ hf (by rw [Mem.upd_same];simp [txR,rwX]) (ge_upd hge hf)⟩
     ·simp_arith only [Rw.d,atI_0,atI_1,atI_2,hN,List.length_map]
      refine calls_ro (d:=.str (rwX (.two "less" y u v)++" = "++wth (.two "less" y u v))) (fun Q' E' q=>rowtext_spec (r:=.two "less" y u v) sr rfl q) ?_;simp_arith only [hN,List.length_map];exact ⟨szs (by lia),fin _ f _ hf (by rw [Mem.upd_same];simp [txR,rwX]) (ge_upd hge hf)⟩
     ·simp_arith only [Rw.d,atI_0,atI_1,atI_2,hN,List.length_map]
      refine calls_ro (d:=.str (rwX (.two "same" y u v)++" = "++wth (.two "same" y u v))) (fun Q' E' q=>rowtext_spec (r:=.two "same" y u v) sr rfl q) ?_;simp_arith only [hN,List.length_map];exact ⟨szs (by lia),fin _ f _ hf (by rw [Mem.upd_same];simp [txR,rwX]) (ge_upd hge hf)⟩
end
end Tw
namespace Tw
open PySem L2 L3 LS
theorem join_names{names:List Str}(h:names≠[]):PySem.Txt.join (Str.ofString " ") (Str.ofString "names"::names)=Str.ofString "names "++PySem.Txt.join (Str.ofString " ") names:=by
 cases names with
 |nil=>exact absurd rfl h
 |cons x r=>
  show PySem.Builtin.Str.glued _ _=_++PySem.Builtin.Str.glued _ _;rw [PySem.StrLaws.glued_eq_join,PySem.StrLaws.glued_eq_join];show Str.ofString "names"++Str.ofString " "++Str.join _ (x::r)=_;congr 1
noncomputable def plT(m many:Int)(names:List Str)(rows:List Rw)(mk:Str):List Str:=(Str.ofString "wheel "++itx m)::(Str.ofString "names "++PySem.Txt.join (Str.ofString " ") names)::(Str.ofString "pieces "++itx many)::(Str.ofString "mark "++mk)::txRs rows
structure SmP(m many:Int)(names:List Str)(rows:List Rw)(mk:Str):Prop where
 m0:0<=m
 m1:m<=1000
 k0:0<=many
 k1:many<=1000
 n0:names≠[]
 n1:names.length<=12
 ns:∀x∈names,Sh x
 r:SmRs rows
 h:hRs rows<=4
 c:cRs rows<=60
 hk:Sh mk
theorem sum_len:∀{l:List Str},(∀x∈l,Sh x)->(l.map (·.length)).sum<=20*l.length
 |[],_=>by simp
 |x::l,h=>by
  have h1:=h x (List.mem_cons_self ..);have h2:=sum_len (l:=l) fun y hy=>h y (List.mem_cons_of_mem _ hy);unfold Sh at h1;simp only [List.map_cons,List.sum_cons,List.length_cons];lia
theorem join_len{l:List Str}(h:∀x∈l,Sh x)(hl:l.length<=12):(PySem.Txt.join (Str.ofString " ") l).length<=1000:=by
 have h1:=PySem.StrLaws.join_length_le (Str.ofString " ") l;have h2:=sum_len h;rw [l1] at h1;show (PySem.Builtin.Str.glued _ _).length<=_;rw [PySem.StrLaws.glued_eq_join];lia
theorem l13:(Str.ofString "wheel ").length=6:=by decide +kernel
theorem l14:(Str.ofString "names ").length=6:=by decide +kernel
theorem l15:(Str.ofString "pieces ").length=7:=by decide +kernel
theorem l16:(Str.ofString "mark ").length=5:=by decide +kernel
theorem l17:(Str.ofString "names").length=5:=by decide +kernel
section
variable {ad:Ad}{M:Mem}{Q:DK}{E:DX}{m many:Int}{names:List Str}{rows:List Rw}{mk:Str}
theorem planrows_spec(p:SmP m many names rows mk)(h:∀q,M q=none->Q (.ref q) (M.upd q (.lst ((plT m many names rows mk).map D.str)))):S_q21 ad [plnD m many names rows mk] M Q E:=by
 have i1:=itx_len p.m0 p.m1;have i2:=itx_len p.k0 p.k1;have j1:=join_len p.ns p.n1;have s1:=sum_len p.ns;have n1:=p.n1;have hmk:=p.hk;unfold Sh at hmk;have hh:=p.h;have hm0:=p.m0;have hm1:=p.m1;have hk0:=p.k0;have hk1:=p.k1;have hl:=txRs_len rows;have hc:=p.c;simp_arith only [u_q21,T_q21,plnD,atI_0,atI_1,atI_2,atI_3,atI_4,strsOf_map,l1,l13,l14,l15,l16];refine ⟨⟨by lia,by lia⟩,sz20 (by lia),⟨by decide,by lia⟩,sz20 (by lia),⟨by lia,by lia⟩,sz20 (by lia),sz20 (by lia),szl (by decide),fun q hq=>?_⟩
 rw [Mem.upd_del,Mem.del_none hq];refine calls_of fun Q' E' hq' _=>written_spec 24 rows (by lia) p.r p.c _ _ _ fun q2 hq2=>hq' _ _ ?_
 simp_arith only [Mem.upd_del,Mem.del_none hq2,List.length_map];exact ⟨sz20 (by lia),fun q3 h3=>drp_id (h q3 h3)⟩
theorem plantexts_spec(p:SmP m many names rows mk)(h:∀q,M q=none->Q (.ref q) (M.upd q (.lst ((plT m many names rows mk).map D.str)))):S_q3 ad [plnD m many names rows mk] M Q E:=by
 have i1:=itx_len p.m0 p.m1;have i2:=itx_len p.k0 p.k1;have j1:=join_len p.ns p.n1;have s1:=sum_len p.ns;have n1:=p.n1;have hmk:=p.hk;unfold Sh at hmk;have hh:=p.h;have hm0:=p.m0;have hm1:=p.m1;have hk0:=p.k0;have hk1:=p.k1;have hl:=txRs_len rows;have hc:=p.c;simp_arith only [u_q3,T_q3,plnD,atI_0,atI_1,atI_2,atI_3,atI_4,strsOf_map,l1,l13,l14,l15,l16,List.length_map,List.sum_cons,l17];refine ⟨⟨by lia,by lia⟩,sz20 (by lia),szl (by decide),fun q1 h1=>?_⟩
 rw [Mem.upd_del,Mem.del_none h1];intro q2 h2;rw [Mem.upd_del,Mem.del_none h2];refine ⟨sz20 (by lia),fun q3 h3=>?_⟩
 rw [Mem.upd_del,Mem.del_none h3];refine ⟨⟨by decide,by lia⟩,⟨by lia,by lia⟩,sz20 (by lia),szl (by decide),fun q4 h4=>?_⟩
 rw [Mem.upd_del,Mem.del_none h4];refine ⟨sz20 (by lia),szl (by decide),fun q5 h5=>?_⟩
 rw [Mem.upd_del,Mem.del_none h5];refine ⟨szl (by decide),fun q6 h6=>?_⟩
 rw [Mem.upd_del,Mem.del_none h6];refine calls_of fun Q' E' hq' _=>texts_spec 24 rows (by lia) p.r p.c _ _ _ fun q7 h7=>hq' _ _ ?_
 simp_arith only [Mem.upd_del,Mem.del_none h7,List.length_map];refine ⟨sz20 (by lia),fun q8 h8=>drp_id ?_⟩
 rw [join_names p.n0];exact h q8 h8
end
end Tw
namespace Tw
open PySem L2 L3 LS
noncomputable def kvsOf(l:List (Str×Str)):List (Key×D):=l.map fun p=>(Sum.inr p.1,D.str p.2)
noncomputable def ph(l:List (Str×Str))(x:Str):Str:=((l.find? fun p=>decide (p.1=x)).map (·.2)).getD ""
theorem valD_kvs:∀{l:List (Str×Str)} {x:Str},x∈l.map (·.1)->valD (kvsOf l) (Sum.inr x)=some (.str (ph l x))
 |[],x,h=>by simp at h
 |p::l,x,h=>by
  unfold valD kvsOf ph
  by_cases c:p.1=x
  ·simp [c]
  ·have h2:x∈l.map (·.1):=by
    rcases List.mem_cons.mp h with z|z
    ·exact absurd z.symm c
    ·exact z
   have:=valD_kvs h2;unfold valD kvsOf ph at this;simpa [c] using this
theorem ph_mem:∀{l:List (Str×Str)} {x:Str},x∈l.map (·.1)->∃p∈l,ph l x=p.2
 |[],x,h=>by simp at h
 |p::l,x,h=>by
  by_cases c:p.1=x
  ·exact ⟨p,by simp,by simp [ph,c]⟩
  ·have h2:x∈l.map (·.1):=by
    rcases List.mem_cons.mp h with z|z
    ·exact absurd z.symm c
    ·exact z
   obtain ⟨q,hq,e⟩:=ph_mem h2;exact ⟨q,by simp [hq],by rw [<- e];simp [ph,c]⟩
theorem putD_new{l:List (Str×Str)}{x v:Str}(h:x∉l.map (·.1)):putD (kvsOf l) (Sum.inr x) (.str v)=kvsOf (l++[(x,v)]):=by
 unfold putD;rw [if_neg]
 ·simp [kvsOf]
 ·intro z
  rw [List.any_eq_true] at z;obtain ⟨q,hq,e⟩:=z;simp only [kvsOf,List.mem_map] at hq;obtain ⟨r,hr,rfl⟩:=hq;simp at e;exact h (List.mem_map.mpr ⟨r,hr,e⟩)
mutual
noncomputable def mR(l:List (Str×Str)):Rw->Rw
 |.ifr x a b=>.ifr (ph l x) (mRs l a) (mRs l b)
 |.again x a=>.again (ph l x) (mRs l a)
 |.put x k=>.put (ph l x) k
 |.take x k=>.take (ph l x) k
 |.pick x y=>.pick (ph l x) (ph l y)
 |.two w x y z=>.two w (ph l x) (ph l y) (ph l z)
noncomputable def mRs(l:List (Str×Str)):List Rw->List Rw
 |[]=>[]
 |r::rs=>mR l r::mRs l rs
end
theorem mRs_append(l:List (Str×Str)):∀a b:List Rw,mRs l (a++b)=mRs l a++mRs l b
 |[],b=>rfl
 |r::a,b=>by simp only [List.cons_append,mRs,mRs_append l a b]
theorem mRs_len(l:List (Str×Str)):∀a:List Rw,(mRs l a).length=a.length
 |[]=>rfl
 |r::a=>by simp [mRs,mRs_len l a]
mutual
theorem mR_h(l:List (Str×Str)):∀r:Rw,hR (mR l r)=hR r
 |.ifr x a b=>by simp only [mR,hR,mRs_h l a,mRs_h l b]
 |.again x a=>by simp only [mR,hR,mRs_h l a]
 |.put _ _=>by simp [mR,hR]
 |.take _ _=>by simp [mR,hR]
 |.pick _ _=>by simp [mR,hR]
 |.two _ _ _ _=>by simp [mR,hR]
theorem mRs_h(l:List (Str×Str)):∀a:List Rw,hRs (mRs l a)=hRs a
 |[]=>rfl
 |r::a=>by simp only [mRs,hRs,mR_h l r,mRs_h l a]
end
mutual
theorem mR_c(l:List (Str×Str)):∀r:Rw,cR (mR l r)=cR r
 |.ifr x a b=>by simp only [mR,cR,mRs_c l a,mRs_c l b]
 |.again x a=>by simp only [mR,cR,mRs_c l a]
 |.put _ _=>by simp [mR,cR]
 |.take _ _=>by simp [mR,cR]
 |.pick _ _=>by simp [mR,cR]
 |.two _ _ _ _=>by simp [mR,cR]
theorem mRs_c(l:List (Str×Str)):∀a:List Rw,cRs (mRs l a)=cRs a
 |[]=>rfl
 |r::a=>by simp only [mRs,cRs,mR_c l r,mRs_c l a]
end
mutual
theorem mR_sm{l:List (Str×Str)}{names:List Str}{m many:Int}(hl:∀x∈names,Sh (ph l x))(hm:m<=1000)(hk:many<=1000):∀r:Rw,OkR names m many r->SmR (mR l r)
 |.ifr x a b,o=>⟨hl x o.1,mRs_sm hl hm hk a o.2.1,mRs_sm hl hm hk b o.2.2⟩
 |.again x a,o=>⟨hl x o.1,mRs_sm hl hm hk a o.2⟩
 |.put x k,o=>⟨hl x o.1,o.2.1,by have:=o.2.2;lia⟩
 |.take x k,o=>⟨hl x o.1,o.2.1,by have:=o.2.2;lia⟩
 |.pick x y,o=>⟨hl x o.1,hl y o.2.1⟩
 |.two w x y z,o=>⟨o.1,hl x o.2.1,hl y o.2.2.1,hl z o.2.2.2⟩
theorem mRs_sm{l:List (Str×Str)}{names:List Str}{m many:Int}(hl:∀x∈names,Sh (ph l x))(hm:m<=1000)(hk:many<=1000):∀a:List Rw,OkRs names m many a->SmRs (mRs l a)
 |[],_=>trivial
 |r::a,o=>⟨mR_sm hl hm hk r o.1,mRs_sm hl hm hk a o.2⟩
end
mutual
theorem okR_sm{names:List Str}{m many:Int}(hl:∀x∈names,Sh x)(hm:m<=1000)(hk:many<=1000):∀r:Rw,OkR names m many r->SmR r
 |.ifr x a b,o=>⟨hl x o.1,okRs_sm hl hm hk a o.2.1,okRs_sm hl hm hk b o.2.2⟩
 |.again x a,o=>⟨hl x o.1,okRs_sm hl hm hk a o.2⟩
 |.put x k,o=>⟨hl x o.1,o.2.1,by have:=o.2.2;lia⟩
 |.take x k,o=>⟨hl x o.1,o.2.1,by have:=o.2.2;lia⟩
 |.pick x y,o=>⟨hl x o.1,hl y o.2.1⟩
 |.two w x y z,o=>⟨o.1,hl x o.2.1,hl y o.2.2.1,hl z o.2.2.2⟩
theorem okRs_sm{names:List Str}{m many:Int}(hl:∀x∈names,Sh x)(hm:m<=1000)(hk:many<=1000):∀a:List Rw,OkRs names m many a->SmRs a
 |[],_=>trivial
 |r::a,o=>⟨okR_sm hl hm hk r o.1,okRs_sm hl hm hk a o.2⟩
end
theorem OkRs_mem{names:List Str}{m many:Int}:∀{rs:List Rw} {r:Rw},OkRs names m many rs->r∈rs->OkR names m many r
 |s::rs,r,o,h=>by
  rcases List.mem_cons.mp h with rfl|h
  ·exact o.1
  ·exact OkRs_mem o.2 h
noncomputable def ren(l:List (Str×Str)):D->D
 |.str x=>.str (ph l x)
 |d=>d
theorem i17:isInst "int" "str"=false:=by decide +kernel
section
variable {ad:Ad}{names:List Str}{m many:Int}{l:List (Str×Str)}{d:Addr}{M:Mem}
theorem ren_comp{es:List D}(hM:M d=some (.dK (kvsOf l)))(he:∀e∈es,(∃x,e=.str x/\x∈l.map (·.1))\/∃k,e=.int k)(hlen:es.length<=5){okM:Mem->Prop}(ho:okM M){Q:List D->Mem->Prop}{b:BxC (hName 0) dAll (dIf (dTru (dCB cInst (dCons (dVar 0) (dCons (dC (.ty "str")) dNil)))) (dOp oIx (dVar 1) (dVar 0)) (dVar 0)) okM Q}{c:Option D}
  (h:Q (es.map (ren l)) M):compD (hName 0) dAll (dIf (dTru (dCB cInst (dCons (dVar 0) (dCons (dC (.ty "str")) dNil)))) (dOp oIx (dVar 1) (dVar 0)) (dVar 0)) okM Q b es [] [c,some (.ref d)] M:=by
 refine compD_inv (fun xs acc δ N=>∃(dn:List D) (c0:Option D),es=dn++xs/\acc=dn.map (ren l)/\δ=[c0,some (.ref d)]/\N=M) (fun _ _ _ _ z=>by obtain ⟨_,_,_,_,_,e⟩:=z;subst e;exact ho) ?_ ?_ ?_ _ _ _ _ ⟨[],c,rfl,rfl,rfl,rfl⟩
 ·rintro acc δ N ⟨dn,c0,e1,rfl,rfl,rfl⟩
  rw [List.append_nil] at e1;rw [<- e1];exact h
 ·rintro x xs acc δ N ⟨dn,c0,e1,rfl,rfl,rfl⟩ N' hN hN0
  have hd:dn.length<=5:=by have:=congrArg List.length e1;simp at this;lia
  have hx:=he x (by rw [e1];simp)
  have e2:es=(dn++[x])++xs:=by rw [e1];simp
  rcases hx with ⟨y,rfl,hy⟩|⟨k,rfl⟩
  ·simp_arith only [i16,t3,hM,valD_kvs hy]
   exact hN _ _ _ (by simp;exact szs (by lia)) ⟨dn++[.str y],_,e2,by simp [ren],rfl,rfl⟩
  ·simp_arith only [i17,t3]
   exact hN _ _ _ (by simp;exact szs (by lia)) ⟨dn++[.int k],_,e2,by simp [ren],rfl,rfl⟩
 ·rintro x xs acc δ N ⟨dn,c0,e1,rfl,rfl,rfl⟩
  have hd:dn.length<=5:=by have:=congrArg List.length e1;simp at this;lia
  simp;exact szs (by lia)
noncomputable def prt(a:List Rw):D:=.tup (rowsD a)
theorem sub_comp{n:Nat}{as:List (List Rw)}(hr:∀a∈as,∀(M:Mem) (Q:DK) (E:DX),M d=some (.dK (kvsOf l))->Q (prt (mRs l a)) M->S_q6 ad n [.tup (rowsD a),.ref d] M Q E)(hM:M d=some (.dK (kvsOf l)))(hlen:as.length<=5){okM:Mem->Prop}(ho:okM M){Q:List D->Mem->Prop}{b:BxC (hName 0) dAll (dFrz (dCall (S_q6 ad n) NoX 2 (dCons (dVar 0) (dCons (dVar 1) dNil)))) okM Q}{c:Option D}
  (h:Q ((as.map (mRs l)).map prt) M):compD (hName 0) dAll (dFrz (dCall (S_q6 ad n) NoX 2 (dCons (dVar 0) (dCons (dVar 1) dNil)))) okM Q b (as.map prt) [] [c,some (.ref d)] M:=by
 refine compD_inv (fun xs acc δ N=>∃(dn rs:List (List Rw)) (c0:Option D),as=dn++rs/\xs=rs.map prt/\acc=(dn.map (mRs l)).map prt/\δ=[c0,some (.ref d)]/\N=M) (fun _ _ _ _ z=>by obtain ⟨_,_,_,_,_,_,_,e⟩:=z;subst e;exact ho) ?_ ?_ ?_ _ _ _ _ ⟨[],as,c,rfl,rfl,rfl,rfl,rfl⟩
 ·rintro acc δ N ⟨dn,rs,c0,e1,e2,rfl,rfl,rfl⟩
  have:rs=[]:=by cases rs with
   |nil=>rfl
   |cons r rs=>simp at e2
  subst this;rw [List.append_nil] at e1;rw [<- e1];exact h
 ·rintro x xs acc δ N ⟨dn,rs,c0,e1,e2,rfl,rfl,rfl⟩ N' hN hN0
  cases rs with
  |nil=>simp at e2
  |cons r rs=>
   simp only [List.map_cons,List.cons.injEq] at e2;obtain ⟨rfl,rfl⟩:=e2;have hd:dn.length<=5:=by have:=congrArg List.length e1;simp at this;lia
   simp_arith only [prt];refine calls_ro (d:=prt (mRs l r)) (fun Q' E' q=>hr r (by rw [e1];simp) _ _ _ hM q) ?_
   simp_arith only [prt];exact hN _ _ _ (by simp;exact szs (by lia)) ⟨dn++[r],rs,_,by rw [e1];simp,rfl,by simp [prt],rfl,rfl⟩
 ·rintro x xs acc δ N ⟨dn,rs,c0,e1,e2,rfl,rfl,rfl⟩
  have hd:dn.length<=5:=by have:=congrArg List.length e1;simp at this;lia
  simp;exact szs (by lia)
end
end Tw
namespace Tw
open PySem L2 L3 LS
theorem inW(x:Str):([D.str "if",D.str "again"].any fun d=>deq d (.str x))=decide (x∈[("if":Str),"again"]):=any_strs _ ["if","again"]
theorem in1:decide ((Str.ofString "if":Str)∈[("if":Str),"again"])=true:=by decide +kernel
theorem in2:decide ((Str.ofString "again":Str)∈[("if":Str),"again"])=true:=by decide +kernel
theorem in3:∀w∈[("put":Str),"take","pick","sum","by","less","same"],decide (w∈[("if":Str),"again"])=false:=by decide +kernel
theorem cut1{x:D}{xs:List D}:cutD (x::xs) (some 1) none=xs:=cutD_lo (k:=1)
theorem cut2{x y:D}{xs:List D}:cutD (x::y::xs) (some 2) none=xs:=cutD_lo (k:=2)
mutual
theorem cR_ge:∀r:Rw,1<=cR r
 |.ifr _ _ _=>by simp only [cR];lia
 |.again _ _=>by simp only [cR];lia
 |.put _ _=>by simp [cR]
 |.take _ _=>by simp [cR]
 |.pick _ _=>by simp [cR]
 |.two _ _ _ _=>by simp [cR]
theorem cRs_ge:∀a:List Rw,a.length<=cRs a
 |[]=>by simp
 |r::a=>by have:=cR_ge r;have:=cRs_ge a;simp only [List.length_cons,cRs];lia
end
section
variable {ad:Ad}{names:List Str}{m many:Int}{l:List (Str×Str)}{d:Addr}
theorem put_spec(hk:∀x∈names,x∈l.map (·.1)):∀(n:Nat) (rows:List Rw),hRs rows<n->OkRs names m many rows->cRs rows<=60->∀(M:Mem) (Q:DK) (E:DX),M d=some (.dK (kvsOf l))->Q (prt (mRs l rows)) M->S_q6 ad n [.tup (rowsD rows),.ref d] M Q E
 |0,rows,hn,_,_,M,Q,E,_,h=>by lia
 |n+1,rows,hn,ok,cn,M,Q,E,hM,h=>by
  simp_arith only [u_q6,T_q6,↓dFor];refine ⟨szl (by decide),fun p hp=>?_⟩
  have hdp:d≠p:=Mem.ne hM hp;refine forD_inv (fun xs δ N=>∃(dn rs:List Rw) (c3:Option D),rows=dn++rs/\xs=rowsD rs/\δ=[some (.tup (rowsD rows)),some (.ref d),some (.ref p),c3]/\N=M.upd p (.lst (rowsD (mRs l dn)))) (fun _ _ _ _=>ok_nil) ?_ ?_ _ _ _ ⟨[],rows,_,rfl,rfl,rfl,rfl⟩
  ·rintro δ N ⟨dn,rs,c3,e1,e2,rfl,rfl⟩
   have:rs=[]:=by cases rs with
    |nil=>rfl
    |cons r rs=>simp [rowsD] at e2
   subst this;rw [List.append_nil] at e1;subst e1;simp_arith only [];exact drp_new hp h
  ·rintro x xs δ N ⟨dn,rs,c3,e1,e2,rfl,rfl⟩ D' hnx _ _ _
   cases rs with
   |nil=>simp [rowsD] at e2
   |cons r rs=>
    simp only [rowsD,List.cons.injEq] at e2;obtain ⟨rfl,rfl⟩:=e2;have hr:r∈rows:=by rw [e1];simp
    have okr:=OkRs_mem ok hr;have hh:=hRs_mem hr;have hcs:cRs rows=cRs dn+(cR r+cRs rs):=by rw [e1,cRs_append];simp only [cRs]
    have hdl:dn.length<=60:=by
     have:=cRs_ge dn;lia
    have hN:(M.upd p (.lst (rowsD (mRs l dn)))) d=some (.dK (kvsOf l)):=by rw [Mem.upd_ne hdp];exact hM
    have fin:∀c3,D'.nx [some (.tup (rowsD rows)),some (.ref d),some (.ref p),c3] (M.upd p (.lst (rowsD (mRs l dn)++[(mR l r).d]))):=fun c3=>hnx _ _ ⟨dn++[r],rs,c3,by rw [e1];simp,rfl,rfl,by rw [mRs_append,rowsD_append];rfl⟩
    cases r with
    |ifr y a b=>
     have oy:=hk y okr.1;simp only [hR] at hh;simp only [cR] at hcs;simp_arith only [Rw.d,atI_0,inW,in1];refine ⟨szl (by decide),fun q hq=>?_⟩
     simp_arith only [Mem.upd_del,Mem.del_none hq,atI_0,atI_1,hN,valD_kvs oy,cut2,↓dComp];refine ⟨szl (by decide),sub_comp (as:=[a,b]) (fun a' ha M' Q' E' e q=>put_spec hk n a' ?_ ?_ ?_ M' Q' E' e q) hN (by simp) ok_nil fun q2 hq2=>?_⟩
     ·simp only [List.mem_cons,List.not_mem_nil,or_false] at ha
      rcases ha with rfl|rfl<;>lia
     ·simp only [List.mem_cons,List.not_mem_nil,or_false] at ha
      rcases ha with rfl|rfl
      ·exact okr.2.1
      ·exact okr.2.2
     ·simp only [List.mem_cons,List.not_mem_nil,or_false] at ha
      rcases ha with rfl|rfl<;>lia
     ·simp_arith only [Mem.upd_del,Mem.del_none hq2,Mem.upd_same,Mem.upd_upd]
      exact ⟨szl (by decide),szs (by rw [rowsD_len,mRs_len];lia),by simpa [mR,Rw.d,prt] using fin _⟩
    |again y a=>
     have oy:=hk y okr.1;simp only [hR] at hh;simp only [cR] at hcs;simp_arith only [Rw.d,atI_0,inW,in2];refine ⟨szl (by decide),fun q hq=>?_⟩
     simp_arith only [Mem.upd_del,Mem.del_none hq,atI_0,atI_1,hN,valD_kvs oy,cut2,↓dComp];refine ⟨szl (by decide),sub_comp (as:=[a]) (fun a' ha M' Q' E' e q=>put_spec hk n a' ?_ ?_ ?_ M' Q' E' e q) hN (by simp) ok_nil fun q2 hq2=>?_⟩
     ·simp only [List.mem_cons,List.not_mem_nil,or_false] at ha
      subst ha;lia
     ·simp only [List.mem_cons,List.not_mem_nil,or_false] at ha
      subst ha;exact okr.2
     ·simp only [List.mem_cons,List.not_mem_nil,or_false] at ha
      subst ha;lia
     ·simp_arith only [Mem.upd_del,Mem.del_none hq2,Mem.upd_same,Mem.upd_upd]
      exact ⟨szl (by decide),szs (by rw [rowsD_len,mRs_len];lia),by simpa [mR,Rw.d,prt] using fin _⟩
    |put y k=>
     simp_arith only [Rw.d,atI_0,inW,in3 "put" (by simp)]
     refine ⟨szl (by decide),fun q hq=>?_⟩
     simp_arith only [Mem.upd_del,Mem.del_none hq,atI_0,atI_1,hN,cut1,↓dComp];refine ⟨szl (by decide),ren_comp (es:=[.str y,.int k]) hN (fun e he=>?_) (by simp) ok_nil fun q2 hq2=>?_⟩
     ·simp only [List.mem_cons,List.not_mem_nil,or_false] at he
      rcases he with rfl|rfl
      ·exact .inl ⟨_,rfl,hk _ okr.1⟩
      ·exact .inr ⟨_,rfl⟩
     ·simp_arith only [ren,Mem.upd_del,Mem.del_none hq2,Mem.upd_same,Mem.upd_upd]
      exact ⟨szl (by decide),szs (by rw [rowsD_len,mRs_len];lia),by simpa [mR,Rw.d] using fin _⟩
    |take y k=>
     simp_arith only [Rw.d,atI_0,inW,in3 "take" (by simp)]
     refine ⟨szl (by decide),fun q hq=>?_⟩
     simp_arith only [Mem.upd_del,Mem.del_none hq,atI_0,atI_1,hN,cut1,↓dComp];refine ⟨szl (by decide),ren_comp (es:=[.str y,.int k]) hN (fun e he=>?_) (by simp) ok_nil fun q2 hq2=>?_⟩
     ·simp only [List.mem_cons,List.not_mem_nil,or_false] at he
      rcases he with rfl|rfl
      ·exact .inl ⟨_,rfl,hk _ okr.1⟩
      ·exact .inr ⟨_,rfl⟩
     ·simp_arith only [ren,Mem.upd_del,Mem.del_none hq2,Mem.upd_same,Mem.upd_upd]
      exact ⟨szl (by decide),szs (by rw [rowsD_len,mRs_len];lia),by simpa [mR,Rw.d] using fin _⟩
    |pick y u=>
     simp_arith only [Rw.d,atI_0,inW,in3 "pick" (by simp)]
     refine ⟨szl (by decide),fun q hq=>?_⟩
     simp_arith only [Mem.upd_del,Mem.del_none hq,atI_0,atI_1,hN,cut1,↓dComp];refine ⟨szl (by decide),ren_comp (es:=[.str y,.str u]) hN (fun e he=>?_) (by simp) ok_nil fun q2 hq2=>?_⟩
     ·simp only [List.mem_cons,List.not_mem_nil,or_false] at he
      rcases he with rfl|rfl
      ·exact .inl ⟨_,rfl,hk _ okr.1⟩
      ·exact .inl ⟨_,rfl,hk _ okr.2.1⟩
     ·simp_arith only [ren,Mem.upd_del,Mem.del_none hq2,Mem.upd_same,Mem.upd_upd]
      exact ⟨szl (by decide),szs (by rw [rowsD_len,mRs_len];lia),by simpa [mR,Rw.d] using fin _⟩
    |two w y u v=>
     rcases (show w="sum"\/w="by"\/w="less"\/w="same" from okr.1) with rfl|rfl|rfl|rfl
     ·simp_arith only [Rw.d,atI_0,inW,in3 "sum" (by simp)]
      refine ⟨szl (by decide),fun q hq=>?_⟩
      simp_arith only [Mem.upd_del,Mem.del_none hq,atI_0,atI_1,hN,cut1,↓dComp];refine ⟨szl (by decide),ren_comp (es:=[.str y,.str u,.str v]) hN (fun e he=>?_) (by simp) ok_nil fun q2 hq2=>?_⟩
      ·simp only [List.mem_cons,List.not_mem_nil,or_false] at he
       rcases he with rfl|rfl|rfl
       ·exact .inl ⟨_,rfl,hk _ okr.2.1⟩
       ·exact .inl ⟨_,rfl,hk _ okr.2.2.1⟩
       ·exact .inl ⟨_,rfl,hk _ okr.2.2.2⟩
      ·simp_arith only [ren,Mem.upd_del,Mem.del_none hq2,Mem.upd_same,Mem.upd_upd]
       exact ⟨szl (by decide),szs (by rw [rowsD_len,mRs_len];lia),by simpa [mR,Rw.d] using fin _⟩
     ·simp_arith only [Rw.d,atI_0,inW,in3 "by" (by simp)]
      refine ⟨szl (by decide),fun q hq=>?_⟩
      simp_arith only [Mem.upd_del,Mem.del_none hq,atI_0,atI_1,hN,cut1,↓dComp];refine ⟨szl (by decide),ren_comp (es:=[.str y,.str u,.str v]) hN (fun e he=>?_) (by simp) ok_nil fun q2 hq2=>?_⟩
      ·simp only [List.mem_cons,List.not_mem_nil,or_false] at he
       rcases he with rfl|rfl|rfl
       ·exact .inl ⟨_,rfl,hk _ okr.2.1⟩
       ·exact .inl ⟨_,rfl,hk _ okr.2.2.1⟩
       ·exact .inl ⟨_,rfl,hk _ okr.2.2.2⟩
      ·simp_arith only [ren,Mem.upd_del,Mem.del_none hq2,Mem.upd_same,Mem.upd_upd]
       exact ⟨szl (by decide),szs (by rw [rowsD_len,mRs_len];lia),by simpa [mR,Rw.d] using fin _⟩
     ·simp_arith only [Rw.d,atI_0,inW,in3 "less" (by simp)]
      refine ⟨szl (by decide),fun q hq=>?_⟩
      simp_arith only [Mem.upd_del,Mem.del_none hq,atI_0,atI_1,hN,cut1,↓dComp];refine ⟨szl (by decide),ren_comp (es:=[.str y,.str u,.str v]) hN (fun e he=>?_) (by simp) ok_nil fun q2 hq2=>?_⟩
      ·simp only [List.mem_cons,List.not_mem_nil,or_false] at he
       rcases he with rfl|rfl|rfl
       ·exact .inl ⟨_,rfl,hk _ okr.2.1⟩
       ·exact .inl ⟨_,rfl,hk _ okr.2.2.1⟩
       ·exact .inl ⟨_,rfl,hk _ okr.2.2.2⟩
      ·simp_arith only [ren,Mem.upd_del,Mem.del_none hq2,Mem.upd_same,Mem.upd_upd]
       exact ⟨szl (by decide),szs (by rw [rowsD_len,mRs_len];lia),by simpa [mR,Rw.d] using fin _⟩
     ·simp_arith only [Rw.d,atI_0,inW,in3 "same" (by simp)]
      refine ⟨szl (by decide),fun q hq=>?_⟩
      simp_arith only [Mem.upd_del,Mem.del_none hq,atI_0,atI_1,hN,cut1,↓dComp];refine ⟨szl (by decide),ren_comp (es:=[.str y,.str u,.str v]) hN (fun e he=>?_) (by simp) ok_nil fun q2 hq2=>?_⟩
      ·simp only [List.mem_cons,List.not_mem_nil,or_false] at he
       rcases he with rfl|rfl|rfl
       ·exact .inl ⟨_,rfl,hk _ okr.2.1⟩
       ·exact .inl ⟨_,rfl,hk _ okr.2.2.1⟩
       ·exact .inl ⟨_,rfl,hk _ okr.2.2.2⟩
      ·simp_arith only [ren,Mem.upd_del,Mem.del_none hq2,Mem.upd_same,Mem.upd_upd]
       exact ⟨szl (by decide),szs (by rw [rowsD_len,mRs_len];lia),by simpa [mR,Rw.d] using fin _⟩
end
end Tw
namespace Tw
open PySem L2 L3 LS
theorem one_sh{x:Str}(h:OneC x):Sh x:=by
 obtain ⟨n,c,h1,h2,_,_,rfl⟩:=h;show Array.size _<=20;simp;lia
noncomputable def wordsL:List Str:=["if","else","end","again","piece","pick","mark","names","wheel","pieces","mark"]
theorem words_sh:∀x∈wordsL,Sh x:=by unfold Sh;decide +kernel
theorem at_word{r:Int}(h0:0<=r)(h1:r<11):∃y,y∈wordsL/\atI (wordsL.map D.str) r=some (.str y):=by
 have hr:r.toNat<wordsL.length:=by show r.toNat<11;lia
 exact ⟨wordsL[r.toNat],List.getElem_mem hr,by rw [atI_nn h0,List.getElem?_map,List.getElem?_eq_getElem hr];rfl⟩
theorem one_two{x:Str}(h:OneC x):x.cps.size<=1\/x.cps[0]?=x.cps[1]?:=by
 obtain ⟨n,c,h1,h2,_,_,rfl⟩:=h
 by_cases e:n<=1
 ·left;simp;lia
 ·right;simp [Array.getElem?_replicate,show 0<n by lia,show 1<n by lia]
theorem words_two:∀x∈wordsL,¬(x.cps.size<=1\/x.cps[0]?=x.cps[1]?):=by decide +kernel
structure Wd(dn:List Str)(l:List (Str×Str)):Prop where
 k:l.map (·.1)=dn
 w:∀q∈l,q.2∈wordsL\/q.2=q.1
 nd:(l.map (·.2)).Nodup
theorem Wd.put{dn:List Str}{l:List (Str×Str)}{r v:Str}(h:Wd dn l)(h1:v∈wordsL\/v=r)(h2:v∉l.map (·.2)):Wd (dn++[r]) (l++[(r,v)]):=⟨by simp [h.k],fun q hq=>by
 rcases List.mem_append.mp hq with z|z
 ·exact h.w q z
 ·rw [List.mem_singleton] at z;subst z;exact h1,by
 rw [List.map_append,List.nodup_append];refine ⟨h.nd,by simp,fun a ha b hb=>?_⟩
 simp at hb;subst hb;exact fun e=>h2 (e▸ha)⟩
theorem Wd.own{dn:List Str}{l:List (Str×Str)}{r:Str}(h:Wd dn l)(h1:OneC r)(h2:r∉dn):r∉l.map (·.2):=fun z=>by
 obtain ⟨q,hq,rfl⟩:=List.mem_map.mp z;rcases h.w q hq with w|w
 ·exact words_two _ w (one_two h1)
 ·exact h2 (by rw [<- h.k,w];exact List.mem_map.mpr ⟨q,hq,rfl⟩)
theorem strs_vals(l:List (Str×Str)):(kvsOf l).map (·.2)=(l.map (·.2)).map D.str:=by simp [kvsOf]
section
variable {ad:Ad}{k:Pt}{M:Mem}{Q:DK}{E:DX}{m many:Int}{names:List Str}{rows:List Rw}{mk:Str}
theorem worded_spec(hp:Has k M)(pl:PlG m many names rows mk)(h:∀(l:List (Str×Str)) (M':Mem),Wd names l->SmP m many (names.map (ph l)) (mRs l rows) (ph l mk)->Q (plnD m many (names.map (ph l)) (mRs l rows) (ph l mk)) M'):S_q14 ad [.ref k.p,plnD m many names rows mk] M Q E:=by
 have hnl:=pl.t.n1;have hn0:=pl.t.n0;simp_arith only [u_q14,T_q14,plnD,↓dFor,atI_1];refine ⟨szl (by decide),fun p hpn=>?_⟩
 rw [Mem.upd_del,Mem.del_none hpn];intro d hd;have ne:=hp.nep hd;refine forD_inv (fun xs δ N=>∃(dn rs:List Str) (l:List (Str×Str)) (c4 c5:Option D),names=dn++rs/\xs=rs.map D.str/\Wd dn l/\(∀q∈l,Sh q.2)/\δ=[some (.ref k.p),some (plnD m many names rows mk),some (.lst (wordsL.map D.str)),some (.ref d),c4,c5,none]/\N d=some (.dK (kvsOf l))/\Has k N) (fun _ _ _ _=>ok_nil) ?_ ?_ _ _ _ ⟨[],names,[],_,_,rfl,rfl,⟨rfl,by simp,by simp⟩,by simp,rfl,by rw [Mem.upd_same];rfl,hp.upd ne⟩
 ·rintro δ N ⟨dn,rs,l,c4,c5,e1,e2,hW,hs,rfl,hN,hk⟩
  have hl:=hW.k;have:rs=[]:=by cases rs with
   |nil=>rfl
   |cons r rs=>simp at e2
  subst this;rw [List.append_nil] at e1;subst e1;have hin:∀x∈names,x∈l.map (·.1):=fun x hx=>by rw [hl];exact hx
  have hsh:∀x∈names,Sh (ph l x):=fun x hx=>by
   obtain ⟨q,hq,e⟩:=ph_mem (hin x hx);rw [e];exact hs q hq
  have hml:(mk∈names):=pl.mkm
  have sp:SmP m many (names.map (ph l)) (mRs l rows) (ph l mk):={
   m0:=by have:=pl.t.m2;lia
   m1:=by have:=pl.t.m1;lia
   k0:=pl.t.k0
   k1:=by have:=pl.t.k1;lia
   n0:=fun z=>by have:=congrArg List.length z;simp at this;rw [this] at hn0;simp at hn0
   n1:=by rw [List.length_map];exact hnl
   ns:=fun x hx=>by obtain ⟨y,hy,rfl⟩:=List.mem_map.mp hx;exact hsh y hy
   r:=mRs_sm hsh (by have:=pl.t.m1;lia) (by have:=pl.t.k1;lia) rows pl.ok
   h:=by rw [mRs_h];exact pl.h
   c:=by rw [mRs_c];exact pl.cn
   hk:=hsh mk hml }
  have hh4:=pl.h;simp_arith only [plnD,atI_1,↓dComp];refine compD_inv (fun xs acc δ N'=>∃(dn rs:List Str) (c0:Option D),names=dn++rs/\xs=rs.map D.str/\acc=(dn.map (ph l)).map D.str/\δ=[c0,some (.ref d)]/\N'=N) (fun _ _ _ _ _=>ok_nil) ?_ ?_ ?_ _ _ _ _ ⟨[],names,none,rfl,rfl,rfl,rfl,rfl⟩
  ·rintro acc δ N' ⟨dn,rs,c0,e1,e2,rfl,rfl,rfl⟩ q hq
   have:rs=[]:=by cases rs with
    |nil=>rfl
    |cons r rs=>simp at e2
   subst this;rw [List.append_nil] at e1;rw [<- e1];simp_arith only [Mem.upd_del,Mem.del_none hq,plnD,atI_0,atI_2,atI_3,atI_4];refine calls_ro (d:=prt (mRs l rows)) (fun Q' E' q=>put_spec hin 24 rows (by lia) pl.ok pl.cn _ _ _ hN q) ?_
   simp_arith only [plnD,atI_4,hN,valD_kvs (hin mk hml),prt];exact ⟨szl (by decide),drp_id (h _ _ hW sp)⟩
  ·rintro y ys acc δ N' ⟨dn,rs,c0,e1,e2,rfl,rfl,rfl⟩ N2 hN2 _
   cases rs with
   |nil=>simp at e2
   |cons r rs=>
    simp only [List.map_cons,List.cons.injEq] at e2;obtain ⟨rfl,rfl⟩:=e2;have hdl:dn.length<=12:=by have:=congrArg List.length e1;simp at this;lia
    simp_arith only [hN,valD_kvs (hin r (by rw [e1];simp))]
    exact hN2 _ _ _ (by simp;exact szs (by lia)) ⟨dn++[r],rs,_,by rw [e1];simp,rfl,by simp,rfl,rfl⟩
  ·rintro y ys acc δ N' ⟨dn,rs,c0,e1,e2,rfl,rfl,rfl⟩
   have hdl:dn.length<=12:=by have:=congrArg List.length e1;simp at this;lia
   simp;exact szs (by lia)
 ·rintro x xs δ N ⟨dn,rs,l,c4,c5,e1,e2,hW,hs,rfl,hN,hk⟩ D' hnx _ _ _
  have hl:=hW.k;cases rs with
  |nil=>simp at e2
  |cons r rs=>
   simp only [List.map_cons,List.cons.injEq] at e2;obtain ⟨rfl,rfl⟩:=e2;have hrn:r∉l.map (·.1):=by
    rw [hl];have:=pl.nd;rw [e1] at this;exact fun z=>(List.nodup_append.mp this).2.2 r z r (by simp) rfl
   have hrs:Sh r:=one_sh (pl.one r (by rw [e1];simp))
   have hro:=pl.one r (by rw [e1];simp)
   have hrv:r∉l.map (·.2):=hW.own hro (by rw [<- hl];exact hrn)
   have fin:∀(v:Str) (c5:Option D) (N':Mem),Sh v->(v∈wordsL\/v=r)->v∉l.map (·.2)->N' d=some (.dK (kvsOf l))->Has k N'->D'.nx [some (.ref k.p),some (plnD m many names rows mk),some (.lst (wordsL.map D.str)),some (.ref d),some (.str r),c5,none] (N'.upd d (.dK (putD (kvsOf l) (Sum.inr r) (.str v)))):=fun v c5 N' hv v1 v2 hd' hk'=>hnx _ _ ⟨dn++[r],rs,l++[(r,v)],_,_,by rw [e1];simp,rfl,hW.put v1 v2,fun q hq=>by
    rcases List.mem_append.mp hq with z|z
    ·exact hs q z
    ·rw [List.mem_singleton] at z;subst z;exact hv,rfl,by rw [Mem.upd_same,putD_new hrn],hk'.upd ne⟩
   simp_arith only [];refine draw_call hk (by decide) (by decide) fun x1 M1 a1 b1 d1=>?_
   have hd1:M1 d=some (.dK (kvsOf l)):=by rw [d1.2 d ne.1 ne.2];exact hN
   obtain ⟨y,hy,ey⟩:=at_word a1 b1;simp_arith only [ey];refine draw_call d1.1 (by decide) (by decide) fun x2 M2 a2 b2 d2=>?_
   have hd2:M2 d=some (.dK (kvsOf l)):=by rw [d2.2 d ne.1 ne.2];exact hd1
   have hll:(kvsOf l).length<=12:=by
    have h1:=congrArg List.length e1;have h2:=congrArg List.length hl;simp [kvsOf] at h1 h2 ⊢;lia
   simp_arith only [hd2]
   by_cases c:x2=0
   ·rw [if_pos c]
    intro q hq;simp_arith only [strs_vals,fits_strs,any_strs,Mem.upd_del,Mem.del_none hq,hd2]
    by_cases c2:y∈l.map (·.2)
    ·simp only [decide_eq_true c2,Bool.not_true,Bool.false_eq_true,if_false]
     exact ⟨szs (by lia),fin r _ M2 hrs (.inr rfl) hrv hd2 d2.1⟩
    ·simp only [decide_eq_false c2,Bool.not_false,if_true]
     exact ⟨szs (by lia),fin y _ M2 (words_sh y hy) (.inl hy) c2 hd2 d2.1⟩
   ·rw [if_neg c]
    exact ⟨szs (by lia),fin r _ M2 hrs (.inr rfl) hrv hd2 d2.1⟩
end
end Tw
namespace Tw
open PySem L2 L3 LS PySem.NumText
noncomputable def wdR:Rw->List Str
 |.put x k=>[x,"=",itx k]
 |.take x i=>[x,"=","piece",itx i]
 |.pick x y=>[x,"=","pick",y]
 |.two w x y z=>[x,"=",y,sgn w,z]
 |_=>[]
section
variable {ad:Ad}{M:Mem}{Q:DK}{E:DX}{δ:Dl}{K:DK}{h:Addr}{m many:Int}{names:List Str}{d4:D}
noncomputable def hdL(m many:Int)(names:List Str)(d4:D):List D:=[.int m,.tup (names.map D.str),.int many,d4]
theorem hx_e{i j:Nat}{x:D}{xs:List D}(h0:δ[i]?=some (some (.ref h)))(hM:M h=some (.lst xs))(hj:xs[j]?=some x)(q:K x M):dOp oIx (dVar i) (dC (.int (j:Nat))) δ M K:=by
 simp only [dOp,dVar,h0,dC,oIx,seqD,hM];rw [atI_nn (by lia),Int.toNat_natCast,hj]
 exact q
theorem wx_e{i j:Nat}{ws:List Str}{x:Str}(h1:δ[i]?=some (some (.lst (ws.map D.str))))(hj:ws[j]?=some x):∀K:DK,K (.str x) M->dOp oIx (dVar i) (dC (.int (j:Nat))) δ M K:=fun K q=>by
 simp only [dOp,dVar,h1,dC,oIx,seqD];rw [atI_nn (by lia),Int.toNat_natCast,List.getElem?_map,hj]
 exact q
theorem wl_e{i:Nat}{ws:List Str}(h1:δ[i]?=some (some (.lst (ws.map D.str)))):∀K:DK,K (.int (ws.length:Nat)) M->dCB cLen (dCons (dVar i) dNil) δ M K:=fun K q=>by
 simp_arith only [h1,List.length_map];exact q
theorem inN_e{t1 t2:dTE}{x:Str}(ha:∀K:DK,K (.str x) M->t1 δ M K)(hb:∀K:DK,K (.tup (names.map D.str)) M->t2 δ M K)(q:K (.bl (decide (x∈names))) M):dOp oIn t1 t2 δ M K:=by
 unfold dOp;refine ha _ (hb _ ?_);simp_arith only [fits_strs,any_strs];exact q
theorem notN_c{t1 t2:dTE}{x:Str}(ha:∀K:DK,K (.str x) M->t1 δ M K)(hb:∀K:DK,K (.tup (names.map D.str)) M->t2 δ M K):∀K:Bool->Mem->Prop,K (!decide (x∈names)) M->dTest (dOp oNotIn t1 t2) δ M K:=fun K q=>by
 unfold dTest dOp;refine ha _ (hb _ ?_);simp_arith only [fits_strs,any_strs];exact q
theorem neS_c{ta tb:dTE}{a b:Str}(ha:∀K:DK,K (.str a) M->ta δ M K)(hb:∀K:DK,K (.str b) M->tb δ M K):∀K:Bool->Mem->Prop,K (!decide (a=b)) M->dTest (dOp oNe ta tb) δ M K:=fun K q=>by
 unfold dTest dOp;refine ha _ (hb _ ?_);simp_arith only [];exact q
theorem dif_e{tc:dTT}{b:Bool}{ta tb:dTE}(hc:∀K:Bool->Mem->Prop,K b M->tc δ M K)(h1:b=true->ta δ M K)(h2:b=false->tb δ M K):dIf tc ta tb δ M K:=by
 unfold dIf;refine hc _ ?_;cases b with
 |true=>rw [if_pos rfl];exact h1 rfl
 |false=>rw [if_neg (by simp)];exact h2 rfl
theorem isN_c{te:dTE}{d:D}(ht:∀K:DK,K d M->te δ M K):∀K:Bool->Mem->Prop,K (isNon d) M->dTest (dOp oIsN te (dC .non)) δ M K:=fun K q=>by
 unfold dTest dOp;refine ht _ ?_;exact q
theorem rowwith_spec{w x:Str}{d:D}(hd:isNon d=false)(q:Q (.tup [.str w,.str x,d]) M):S_q28 ad [.str w,.str x,d] M Q E:=by
 rw [u_q28 (n:=0)];unfold T_q28;refine ret_go (dif_e (isN_c (var_e rfl)) (fun e=>by rw [hd] at e;cases e) fun _=>?_)
 simp only [dTup,dCons,dVar,dNil,List.getElem?_cons_zero,List.getElem?_cons_succ];exact ⟨(szl (by decide):3<=sizeLine),drp_id q⟩
theorem dcons_go{te:dTE}{ts:dTA}{L:List D->Mem->Prop}(q:te δ M fun x M1=>ts δ M1 fun xs M2=>L (x::xs) M2):dCons te ts δ M L:=q
theorem dnil_go{L:List D->Mem->Prop}(q:L [] M):dNil δ M L:=q
theorem dc_go{d:D}(q:K d M):dC d δ M K:=q
theorem tup_go{ts:dTA}(q:ts δ M fun xs M1=>xs.length<=sizeLine/\K (.tup xs) M1):dTup ts δ M K:=q
theorem a3c{L:List D->Mem->Prop}{a x:D}{i:Nat}{te:dTE}(hi:δ[i]?=some (some x))(q:te δ M fun d M'=>L [a,x,d] M'):dCons (dC a) (dCons (dVar i) (dCons te dNil)) δ M L:=by
 simp only [dCons,dC,dVar,hi,dNil];exact q
theorem tb1{w:Str}(hw:w="sum"\/w="by"\/w="less"\/w="same"):tabAt tab_WORDS (sgn w)=some (.str w):=by
 simp only [tab_WORDS,tabAt];rcases hw with rfl|rfl|rfl|rfl
 ·rw [show sgn "sum"="+" by decide +kernel,if_pos rfl]
 ·rw [show sgn "by"="*" by decide +kernel,if_neg (by decide +kernel),if_pos rfl]
 ·rw [show sgn "less"="<" by decide +kernel,if_neg (by decide +kernel),if_neg (by decide +kernel),if_pos rfl]
 ·rw [show sgn "same"="==" by decide +kernel,if_neg (by decide +kernel),if_neg (by decide +kernel),if_neg (by decide +kernel),if_pos rfl]
theorem sub1_e{i j:Nat}{v:Int}{xs:List D}(h0:δ[i]?=some (some (.ref h)))(hM:M h=some (.lst xs))(hj:xs[j]?=some (.int v)):∀K:DK,K (.int (v-1)) M->dOp oSub (dOp oIx (dVar i) (dC (.int (j:Nat)))) (dC (.int 1)) δ M K:=fun K q=>by
 unfold dOp;refine hx_e h0 hM hj ?_;simp_arith only [];exact q
theorem eqSt_c{ta tb:dTE}{a b:Str}{c:Bool}(e:decide (a=b)=c)(ha:∀K:DK,K (.str a) M->ta δ M K)(hb:∀K:DK,K (.str b) M->tb δ M K):∀K:Bool->Mem->Prop,K c M->dTest (dOp oEq ta tb) δ M K:=fun K q=>eqS_c ha hb K (by rw [e];exact q)
theorem eqIt_c{ta tb:dTE}{a b:Int}{c:Bool}(e:decide (a=b)=c)(ha:∀K:DK,K (.int a) M->ta δ M K)(hb:∀K:DK,K (.int b) M->tb δ M K):∀K:Bool->Mem->Prop,K c M->dTest (dOp oEq ta tb) δ M K:=fun K q=>eqI_c ha hb K (by rw [e];exact q)
theorem and_f{tc tu:dTT}(hc:∀K:Bool->Mem->Prop,K false M->tc δ M K):∀K:Bool->Mem->Prop,K false M->dAnd tc tu δ M K:=fun K q=>hc (fun b M1=>if b=true then tu δ M1 K else K false M1) (by rw [if_neg (by simp)];exact q)
theorem and_t{tc tu:dTT}{c:Bool}(hc:∀K:Bool->Mem->Prop,K true M->tc δ M K)(hu:∀K:Bool->Mem->Prop,K c M->tu δ M K):∀K:Bool->Mem->Prop,K c M->dAnd tc tu δ M K:=fun K q=>hc (fun b M1=>if b=true then tu δ M1 K else K false M1) (by rw [if_pos rfl];exact hu K q)
theorem set_spec{r:Rw}(hM:M h=some (.lst (hdL m many names d4)))(ok:RwOk names m many r)(m1:m<=997)(k1:many<=40)(q:Q r.d M):S_q15 ad [.ref h,.lst ((wdR r).map D.str)] M Q E:=by
 rw [u_q15 (n:=0)];unfold T_q15;have hd1:∀(δ:Dl),δ[0]?=some (some (.ref h))->∀K:DK,K (.tup (names.map D.str)) M->dOp oIx (dVar 0) (dC (.int 1)) δ M K:=fun δ e K q=>hx_e (j:=1) e hM rfl q
 have key:∀(x:Str) (ws:List Str),x∈names->wdR r=x::"="::ws->1<=ws.length->(T_q15_8 ad (drpX E) { nx:=fun _ M'=>drp Q .non M',rt:=drp Q } [some (.ref h),some (.lst ((x::"="::ws).map D.str)),some (.str x)] M)->dSeq (dIfS (dOr (dTest (dOp oLt (dCB cLen (dCons (dVar 1) dNil)) (dC (.int 3)))) (dOr (dTest (dOp oNotIn (dOp oIx (dVar 1) (dC (.int 0))) (dOp oIx (dVar 0) (dC (.int 1))))) (dTest (dOp oNe (dOp oIx (dVar 1) (dC (.int 1))) (dC (.str "=")))))) (dRet (dC .non)) dNext)
  (T_q15_9 ad (drpX E)) { nx:=fun _ M'=>drp Q .non M',rt:=drp Q } [some (.ref h),some (.lst ((wdR r).map D.str)),none] M:=fun x ws hx e hl z=>by
  rw [e];refine seq_go0 (if_go (b:=false) (fun K q=>or_c (b:=false) (fun K q=>lt_c (wl_e rfl) (fun K q=>q) K (by rw [decide_eq_false (by simp only [List.length_cons];lia)];exact q)) (fun _=>or_c (b:=false) (c:=false) (fun K q=>notN_c (wx_e (j:=0) rfl rfl) (hd1 _ rfl) K (by rw [decide_eq_true hx];exact q)) fun _ K q=>neS_c (wx_e (j:=1) rfl rfl) (fun K q=>q) K (by rw [decide_eq_true rfl];exact q)) K q) (fun e=>by cases e) fun _=>?_)
  dsimp only [dNext];refine seq_go0 (asg0 (wx_e (j:=0) rfl rfl _ ?_));exact z
 cases r with
 |put x k=>
  simp only [RwOk] at ok;obtain ⟨n,rfl⟩:=Int.eq_ofNat_of_zero_le ok.2.1;refine key x [itx (n:Int)] ok.1 rfl (by simp) ?_
  refine seq_go0 (if_go (eqIt_c (c:=true) rfl (wl_e rfl) (fun K q=>q)) (fun _=>?_) fun e=>by cases e)
  refine ret_go (call_e (ds:=[.str "put",.str x,.int (n:Nat)]) (fun K q=>a3c rfl ?_) rfl (fun Q' E' z=>rowwith_spec rfl z) (drp_id q));exact frzI (fun K q=>call_e (ds:=[.str (itx (n:Int)),.int 0,.int (m-1)]) (fun K q=>dcons_go (wx_e (j:=2) rfl rfl _ (dcons_go (dc_go (dcons_go (sub1_e (j:=0) rfl hM rfl _ (dnil_go q))))))) rfl (fun Q' E' z=>num_spec (by lia) (by lia) (by lia) (by lia) z) q) _ q
 |take x i=>
  simp only [RwOk] at ok;obtain ⟨n,rfl⟩:=Int.eq_ofNat_of_zero_le ok.2.1;refine key x ["piece",itx (n:Int)] ok.1 rfl (by simp) ?_
  refine seq_go0 (if_go (eqIt_c (c:=false) rfl (wl_e rfl) (fun K q=>q)) (fun e=>by cases e) fun _=>?_)
  dsimp only [dNext];refine seq_go0 (if_go (and_t (eqIt_c rfl (wl_e rfl) (fun K q=>q)) (eqSt_c (c:=true) (decide_eq_true rfl) (wx_e (j:=2) rfl rfl) (fun K q=>q))) (fun _=>?_) fun e=>by cases e)
  refine ret_go (call_e (ds:=[.str "take",.str x,.int (n:Nat)]) (fun K q=>a3c rfl ?_) rfl (fun Q' E' z=>rowwith_spec rfl z) (drp_id q));exact frzI (fun K q=>call_e (ds:=[.str (itx (n:Int)),.int 0,.int (many-1)]) (fun K q=>dcons_go (wx_e (j:=3) rfl rfl _ (dcons_go (dc_go (dcons_go (sub1_e (j:=2) rfl hM rfl _ (dnil_go q))))))) rfl (fun Q' E' z=>num_spec (by lia) (by lia) (by lia) (by lia) z) q) _ q
 |pick x y=>
  simp only [RwOk] at ok;refine key x ["pick",y] ok.1 rfl (by simp) ?_
  refine seq_go0 (if_go (eqIt_c (c:=false) rfl (wl_e rfl) (fun K q=>q)) (fun e=>by cases e) fun _=>?_)
  dsimp only [dNext];refine seq_go0 (if_go (and_t (eqIt_c rfl (wl_e rfl) (fun K q=>q)) (eqSt_c (c:=false) (by decide +kernel) (wx_e (j:=2) rfl rfl) (fun K q=>q))) (fun e=>by cases e) fun _=>?_)
  dsimp only [dNext];refine seq_go0 (if_go (and_t (eqIt_c rfl (wl_e rfl) (fun K q=>q)) (and_t (eqSt_c (decide_eq_true rfl) (wx_e (j:=2) rfl rfl) (fun K q=>q)) (fun K q=>neI_c (a:=many) (b:=0) (fun K q=>hx_e (j:=2) rfl hM rfl q) (fun K q=>q) K (by rw [decide_eq_false (by lia)];exact q)))) (fun _=>?_) fun e=>by cases e)
  refine ret_go (call_e (ds:=[.str "pick",.str x,.str y]) (fun K q=>a3c rfl (dif_e (b:=true) (test_c fun K q=>inN_e (wx_e (j:=3) rfl rfl) (hd1 _ rfl) (by rw [decide_eq_true ok.2.1];exact q)) (fun _=>wx_e (j:=3) rfl rfl _ q) fun e=>by cases e)) rfl (fun Q' E' z=>rowwith_spec rfl z) (drp_id q))
 |two w x y z=>
  simp only [RwOk] at ok;obtain ⟨hw,hx,hy,hz⟩:=ok;refine key x [y,sgn w,z] hx rfl (by simp) ?_
  refine seq_go0 (if_go (eqIt_c (c:=false) rfl (wl_e rfl) (fun K q=>q)) (fun e=>by cases e) fun _=>?_)
  dsimp only [dNext];refine seq_go0 (if_go (and_f (eqIt_c rfl (wl_e rfl) (fun K q=>q))) (fun e=>by cases e) fun _=>?_)
  dsimp only [dNext];refine seq_go0 (if_go (and_f (eqIt_c rfl (wl_e rfl) (fun K q=>q))) (fun e=>by cases e) fun _=>?_)
  dsimp only [dNext];have tw:=tb1 hw;refine seq_go0 (if_go (b:=true) (and_t (eqIt_c rfl (wl_e rfl) (fun K q=>q)) (and_t (test_c fun K q=>inN_e (wx_e (j:=2) rfl rfl) (hd1 _ rfl) (by rw [decide_eq_true hy];exact q)) (and_t (test_c fun K q=>?_) (test_c fun K q=>inN_e (wx_e (j:=4) rfl rfl) (hd1 _ rfl) (by rw [decide_eq_true hz];exact q))))) (fun _=>?_) fun e=>by cases e)
  ·unfold dOp
   refine wx_e (j:=3) rfl rfl _ ?_;simp_arith only [tw];exact q
  ·have e1:∀(K:DK) (δ:Dl),δ[1]?=some (some (.lst ((x::"="::[y,sgn w,z]).map D.str)))->K (.str w) M->dOp (oIxT tab_WORDS ad.g_WORDS) (dC (.ref ad.g_WORDS)) (dOp oIx (dVar 1) (dC (.int 3))) δ M K:=fun K δ e q=>by
    unfold dOp;refine wx_e (j:=3) e rfl _ ?_;simp_arith only [tw];exact q
   exact ret_go (tup_go (dcons_go (e1 _ _ rfl (dcons_go (var0 rfl (dcons_go (wx_e (j:=2) rfl rfl _ (dcons_go (wx_e (j:=4) rfl rfl _ (dnil_go ⟨(szl (by decide):4<=sizeLine),drp_id q⟩))))))))))
 |ifr=>exact ok.elim
 |again=>exact ok.elim
end
end Tw
namespace Tw
open PySem L2 L3 LS PySem.NumText
structure Nm(x:Str):Prop where
 l1:1<=x.length
 l8:x.length<=8
 low:∀c∈x.cps.toList,97<=c/\c<=122
section
variable {ad:Ad}{M:Mem}{Q:DK}{E:DX}{δ:Dl}{K:DK}{h:Addr}{m many:Int}{names:List Str}
theorem let_lo{c:Nat}(h:97<=c):(!decide (([c]:List Nat)<(Str.ofString "a").cps.toList))=true:=by
 have e:(Str.ofString "a").cps.toList=[97]:=by decide +kernel
 rw [e,<- decide_not,decide_eq_true_eq,List.cons_lt_cons_iff];simp;lia
theorem let_hi{c:Nat}(h:c<=122):(!decide ((Str.ofString "z").cps.toList<([c]:List Nat)))=true:=by
 have e:(Str.ofString "z").cps.toList=[122]:=by decide +kernel
 rw [e,<- decide_not,decide_eq_true_eq,List.cons_lt_cons_iff];simp;lia
theorem isname_spec{x:Str}(v:Nm x)(q:Q (.bl true) M):S_q31 ad [.str x] M Q E:=by
 have ha:x.cps.all (· < 128)=true:=by
  rw [<- Array.all_toList,List.all_eq_true];intro c hc;have:=v.low c hc;simp;lia
 have l1:=v.l1;have l8:=v.l8;have vv:Vv 0 (.str x):=⟨by lia,ha⟩
 rw [u_q31 (n:=0)];unfold T_q31;refine seq_go0 (if_go (b:=false) (fun K q=>or_c (b:=false) (not_c (b:=true) (tru_c fun K h=>ins_S vv (var_e rfl) h)) (fun _=>not_c (b:=true) (test_c fun K q=>chain_e (fun K q=>q) (len_s (by lia) rfl) (fun K q=>q) (by rw [decide_eq_true (by lia),decide_eq_true (by lia)];exact q))) K q) (fun e=>by cases e) fun _=>?_)
 dsimp only [dNext];refine ret_go (all_map (xs:=signsD x) (p:=fun _=>true) (fun R q=>?_) (by simp only [signsD,List.length_map,Array.length_toList];exact Nat.le_trans (show x.cps.size<=8 from l8) (by decide)) (fun y hy K q=>?_) (by rw [show (signsD x).all (fun _=>true)=true by simp];exact drp_id q))
 ·simp only [wStr]
  refine var0 (d:=.str x) rfl ?_;exact ⟨ha,q⟩
 ·simp only [signsD,List.mem_map] at hy
  obtain ⟨c,hc2,rfl⟩:=hy;have:=v.low c hc2;simp_arith only [let_lo this.1,let_hi this.2];exact q
theorem adds_nd:∀(ss l:List Str),(l++ss).Nodup->(adds l ss).length=l.length+ss.length
 |[],l,_=>by simp [adds]
 |x::ss,l,hn=>by
  unfold adds;have hx:x∉l:=fun hx=>(List.nodup_append.mp hn).2.2 x hx x (by simp) rfl
  rw [if_neg hx,adds_nd ss (l++[x]) (by simpa using hn)]
  simp;lia
theorem arenames_spec(hn:∀x∈names,Nm x)(nd:names.Nodup)(n0:1<=names.length)(n1:names.length<=12)(q:Q (.bl true) M):S_q22 ad [.tup (names.map D.str)] M Q E:=by
 have vv:Vv 1 (.tup (names.map D.str)):=⟨by rw [List.length_map];lia,fun y hy=>by
  obtain ⟨x,hx,rfl⟩:=List.mem_map.mp hy;have v:=hn x hx;have l8:=v.l8;refine ⟨by lia,?_⟩
  rw [<- Array.all_toList,List.all_eq_true];intro c hc;have:=v.low c hc;simp;lia⟩
 rw [u_q22 (n:=0)];unfold T_q22;refine seq_go0 (if_go (b:=false) (fun K q=>or_c (b:=false) (not_c (b:=true) (tru_c fun K h=>ins_T vv (var_e rfl) h)) (fun _=>not_c (b:=true) (test_c fun K q=>chain_e (fun K q=>q) (len_t rfl) (fun K q=>q) (by rw [List.length_map,decide_eq_true (by lia),decide_eq_true (by lia)];exact q))) K q) (fun e=>by cases e) fun _=>?_)
 dsimp only [dNext];refine ret_go (andV_e (b:=true) (c:=true) (fun K q=>all_map (xs:=names.map D.str) (p:=fun _=>true) (fun R q=>?_) (by rw [List.length_map];lia) (fun y hy K q=>?_) (by rw [show (names.map D.str).all (fun _=>true)=true by simp];exact q)) (fun _ K q=>?_) (drp_id q))
 ·simp_arith only []
  exact q
 ·obtain ⟨x,hx,rfl⟩:=List.mem_map.mp hy
  exact frzB (fun K q=>call_e (ds:=[.str x]) (fun K q=>var0 rfl q) rfl (fun Q' E' z=>isname_spec (hn x hx) z) q) K q
 ·simp_arith only [strsOf_map,List.length_map]
  have e:=adds_nd names [] (by simpa using nd)
  refine ⟨by lia,?_⟩
  have e5:decide (((adds [] names).length:Int)=(names.length:Int))=true:=decide_eq_true (by simp at e;lia)
  rw [e5];exact q
end
end Tw
namespace Tw
open PySem L2 L3 LS PySem.NumText
section
variable {ad:Ad}{M:Mem}{Q:DK}{E:DX}{δ:Dl}{K:DK}{h:Addr}{m many:Int}{names:List Str}
theorem neIt_c{ta tb:dTE}{a b:Int}{c:Bool}(e:(!decide (a=b))=c)(ha:∀K:DK,K (.int a) M->ta δ M K)(hb:∀K:DK,K (.int b) M->tb δ M K):∀K:Bool->Mem->Prop,K c M->dTest (dOp oNe ta tb) δ M K:=fun K q=>neI_c ha hb K (by rw [e];exact q)
noncomputable def headL:List Str:=["wheel","names","pieces","mark"]
theorem hw_e{hd:List D}{w:Str}(h0:δ[0]?=some (some (.ref h)))(hM:M h=some (.lst hd))(hw:headL[hd.length]?=some w):∀K:DK,K (.str w) M->dOp oIx (dC (.mt [.str "wheel",.str "names",.str "pieces",.str "mark"])) (dCB cLen (dCons (dVar 0) dNil)) δ M K:=fun K q=>by
 simp_arith only [h0,hM];rw [atI_nn (by lia),Int.toNat_natCast]
 have e:[D.str "wheel",.str "names",.str "pieces",.str "mark"][hd.length]?=some (.str w):=by
  show (headL.map D.str)[hd.length]?=_;rw [List.getElem?_map,hw];rfl
 rw [e];exact q
theorem head_go{hd:List D}{w:Str}{ws:List Str}(hM:M h=some (.lst hd))(hw:headL[hd.length]?=some w)(q:T_q26_8 ad (drpX E) { nx:=fun _ M'=>drp Q .non M',rt:=drp Q } [some (.ref h),some (.lst ((w::ws).map D.str))] M):S_q26 ad [.ref h,.lst ((w::ws).map D.str)] M Q E:=by
 rw [u_q26 (n:=0)];unfold T_q26;refine seq_go0 (if_go (b:=false) (fun K q=>neS_c (wx_e (j:=0) rfl rfl) (hw_e rfl hM hw) K (by rw [decide_eq_true rfl];exact q)) (fun e=>by cases e) fun _=>?_)
 exact q
theorem head_wheel{n:Nat}(hM:M h=some (.lst []))(h1:2<=n)(h2:n<=997)(q:Q (.int (n:Nat)) M):S_q26 ad [.ref h,.lst ([Str.ofString "wheel",itx (n:Int)].map D.str)] M Q E:=by
 refine head_go hM rfl ?_;refine seq_go0 (if_go (eqSt_c (c:=false) (by decide +kernel) (wx_e (j:=0) rfl rfl) (fun K q=>q)) (fun e=>by cases e) fun _=>?_)
 dsimp only [dNext];refine seq_go0 (if_go (neIt_c (c:=false) rfl (wl_e rfl) (fun K q=>q)) (fun e=>by cases e) fun _=>?_)
 dsimp only [dNext];refine seq_go0 (if_go (eqSt_c (c:=true) (decide_eq_true rfl) (wx_e (j:=0) rfl rfl) (fun K q=>q)) (fun _=>?_) fun e=>by cases e)
 exact ret_go (call_e (ds:=[.str (itx (n:Int)),.int 2,.int 997]) (fun K q=>dcons_go (wx_e (j:=1) rfl rfl _ q)) rfl (fun Q' E' z=>num_spec (by lia) (by lia) (by lia) (by lia) z) (drp_id q))
theorem head_pieces{n:Nat}{a b:D}(hM:M h=some (.lst [a,b]))(h2:n<=40)(q:Q (.int (n:Nat)) M):S_q26 ad [.ref h,.lst ([Str.ofString "pieces",itx (n:Int)].map D.str)] M Q E:=by
 refine head_go hM rfl ?_;refine seq_go0 (if_go (eqSt_c (c:=false) (by decide +kernel) (wx_e (j:=0) rfl rfl) (fun K q=>q)) (fun e=>by cases e) fun _=>?_)
 dsimp only [dNext];refine seq_go0 (if_go (neIt_c (c:=false) rfl (wl_e rfl) (fun K q=>q)) (fun e=>by cases e) fun _=>?_)
 dsimp only [dNext];refine seq_go0 (if_go (eqSt_c (c:=false) (by decide +kernel) (wx_e (j:=0) rfl rfl) (fun K q=>q)) (fun e=>by cases e) fun _=>?_)
 dsimp only [dNext];refine seq_go0 (if_go (eqSt_c (c:=true) (decide_eq_true rfl) (wx_e (j:=0) rfl rfl) (fun K q=>q)) (fun _=>?_) fun e=>by cases e)
 exact ret_go (call_e (ds:=[.str (itx (n:Int)),.int 0,.int 40]) (fun K q=>dcons_go (wx_e (j:=1) rfl rfl _ q)) rfl (fun Q' E' z=>num_spec (by lia) (by lia) (by lia) (by lia) z) (drp_id q))
theorem head_mark{x:Str}{a c:D}(hM:M h=some (.lst [a,.tup (names.map D.str),c]))(hx:x∈names)(q:Q (.str x) M):S_q26 ad [.ref h,.lst ([Str.ofString "mark",x].map D.str)] M Q E:=by
 refine head_go hM rfl ?_;refine seq_go0 (if_go (eqSt_c (c:=false) (by decide +kernel) (wx_e (j:=0) rfl rfl) (fun K q=>q)) (fun e=>by cases e) fun _=>?_)
 dsimp only [dNext];refine seq_go0 (if_go (neIt_c (c:=false) rfl (wl_e rfl) (fun K q=>q)) (fun e=>by cases e) fun _=>?_)
 dsimp only [dNext];refine seq_go0 (if_go (eqSt_c (c:=false) (by decide +kernel) (wx_e (j:=0) rfl rfl) (fun K q=>q)) (fun e=>by cases e) fun _=>?_)
 dsimp only [dNext];refine seq_go0 (if_go (eqSt_c (c:=false) (by decide +kernel) (wx_e (j:=0) rfl rfl) (fun K q=>q)) (fun e=>by cases e) fun _=>?_)
 dsimp only [dNext];exact ret_go (dif_e (b:=true) (test_c fun K q=>inN_e (wx_e (j:=1) rfl rfl) (fun K q=>hx_e (j:=1) rfl hM rfl q) (by rw [decide_eq_true hx];exact q)) (fun _=>wx_e (j:=1) rfl rfl _ (drp_id q)) fun e=>by cases e)
theorem cutW{ws:List Str}{w:Str}:cutD ((w::ws).map D.str) (some 1) none=ws.map D.str:=cutD_lo (k:=1)
theorem tl_e{w:Str}{ws:List Str}(h1:δ[1]?=some (some (.lst ((w::ws).map D.str)))):∀K:DK,K (.tup (ws.map D.str)) M->dCB cTuple (dCons (dFrz (dSl (dVar 1) (dPart (dC (.int 1))) dNoPart)) dNil) δ M K:=fun K q=>by
 simp only [dCB,dCons,dFrz,dSl,dPart,dNoPart,dVar,dNil,dC,h1,oSl];simp only [seqL,seqD];intro p hp;rw [cutW];simp only [frz,Mem.upd_same,Mem.upd_del,Mem.del_none hp,cTuple,seqD];exact q
theorem head_names{a:D}(hM:M h=some (.lst [a]))(hn:∀x∈names,Nm x)(nd:names.Nodup)(n0:1<=names.length)(n1:names.length<=12)(q:Q (.tup (names.map D.str)) M):S_q26 ad [.ref h,.lst ((Str.ofString "names"::names).map D.str)] M Q E:=by
 refine head_go hM rfl ?_;refine seq_go0 (if_go (eqSt_c (c:=true) (decide_eq_true rfl) (wx_e (j:=0) rfl rfl) (fun K q=>q)) (fun _=>?_) fun e=>by cases e)
 exact ret_go (dif_e (b:=true) (tru_c (frzB fun K q=>call_e (ds:=[.tup (names.map D.str)]) (fun K q=>dcons_go (tl_e rfl _ (dnil_go q))) rfl (fun Q' E' z=>arenames_spec hn nd n0 n1 z) q)) (fun _=>tl_e rfl _ (drp_id q)) fun e=>by cases e)
end
end Tw
namespace Tw
open PySem L2 L3 LS
noncomputable def bF(w x f:D)(l:Addr):List (Str×D):=[("word",w),("x",x),("first",f),("rows",.ref l)]
noncomputable def rF(h b:Addr)(c:Int):List (Str×D):=[("head",.ref h),("blocks",.ref b),("count",.int c)]
theorem pf0{f:Str}{v:D}:dputF f v []=[(f,v)]:=rfl
theorem pfn{f g:Str}{v w:D}{r:List (Str×D)}(h:g≠f):dputF f v ((g,w)::r)=(g,w)::dputF f v r:=by rw [dputF,if_neg h]
theorem pfy{f:Str}{v w:D}{r:List (Str×D)}:dputF f v ((f,w)::r)=(f,v)::r:=by rw [dputF,if_pos rfl]
theorem lk_y{f:Str}{v:D}{r:List (Str×D)}:List.lookup f ((f,v)::r)=some v:=by simp [List.lookup]
theorem lk_n{f g:Str}{v:D}{r:List (Str×D)}(h:f≠g):List.lookup f ((g,v)::r)=List.lookup f r:=by
 have:(f==g)=false:=by simpa using h
 simp [List.lookup,this]
theorem b_word{w x f:D}{l:Addr}:List.lookup (Str.ofString "word") (bF w x f l)=some w:=lk_y
theorem b_x{w x f:D}{l:Addr}:List.lookup (Str.ofString "x") (bF w x f l)=some x:=by unfold bF;rw [lk_n (by decide +kernel),lk_y]
theorem b_first{w x f:D}{l:Addr}:List.lookup (Str.ofString "first") (bF w x f l)=some f:=by unfold bF;rw [lk_n (by decide +kernel),lk_n (by decide +kernel),lk_y]
theorem b_rows{w x f:D}{l:Addr}:List.lookup (Str.ofString "rows") (bF w x f l)=some (D.ref l):=by unfold bF;rw [lk_n (by decide +kernel),lk_n (by decide +kernel),lk_n (by decide +kernel),lk_y]
theorem r_head{h b:Addr}{c:Int}:List.lookup (Str.ofString "head") (rF h b c)=some (D.ref h):=lk_y
theorem r_blocks{h b:Addr}{c:Int}:List.lookup (Str.ofString "blocks") (rF h b c)=some (D.ref b):=by unfold rF;rw [lk_n (by decide +kernel),lk_y]
theorem r_count{h b:Addr}{c:Int}:List.lookup (Str.ofString "count") (rF h b c)=some (D.int c):=by unfold rF;rw [lk_n (by decide +kernel),lk_n (by decide +kernel),lk_y]
theorem b_setF{w x f g:D}{l:Addr}:dputF "first" g (bF w x f l)=bF w x g l:=by unfold bF;rw [pfn (by decide +kernel),pfn (by decide +kernel),pfy]
theorem b_setR{w x f:D}{l l':Addr}:dputF "rows" (.ref l') (bF w x f l)=bF w x f l':=by unfold bF;rw [pfn (by decide +kernel),pfn (by decide +kernel),pfn (by decide +kernel),pfy]
theorem r_setC{h b:Addr}{c d:Int}:dputF "count" (.int d) (rF h b c)=rF h b d:=by unfold rF;rw [pfn (by decide +kernel),pfn (by decide +kernel),pfy]
section
variable {ad:Ad}{M:Mem}{Q:DK}{E:DX}{δ:Dl}{K:DK}{C a:Addr}{f:Str}{fs:List (Str×D)}
theorem fld_e{te:dTE}{d:D}(ht:∀K:DK,K (.ref a) M->te δ M K)(hM:M a=some (.ins C fs))(hf:fs.lookup f=some d):∀K:DK,K d M->dFld C te f δ M K:=fun K q=>by
 unfold dFld;refine ht _ ?_;simp only [hM,hf];exact ⟨trivial,q⟩
theorem fldS_go{D0:DEnds}{ta tv:dTE}{y:D}(hv:∀K:DK,K y M->tv δ M K)(ha:∀K:DK,K (.ref a) M->ta δ M K)(hM:M a=some (.ins C fs))(hl:fs.length<1000)(q:D0.nx δ (M.upd a (.ins C (dputF f y fs)))):dFldS C ta tv f D0 δ M:=by
 unfold dFldS;refine hv _ (ha _ ?_);simp only [hM];exact ⟨trivial,hl,q⟩
theorem binit_spec{w x:D}(hM:M a=some (.ins ad.C_Block []))(q:∀l,M l=none->l≠a->Q .non ((M.upd l (.lst [])).upd a (.ins ad.C_Block (bF w x .non l)))):S_q5 ad [.ref a,w,x] M Q E:=by
 rw [u_q5 (n:=0)];unfold T_q5;refine seq_go0 (fldS_go (var_e rfl) (var_e rfl) hM (by simp) ?_)
 dsimp only;refine seq_go0 (fldS_go (var_e rfl) (var_e rfl) Mem.upd_same (by simp [dputF]) ?_)
 dsimp only;refine seq_go0 (fldS_go (fun K q=>q) (var_e rfl) Mem.upd_same (by rw [pf0,pfn (by decide +kernel)];simp [dputF]) ?_)
 dsimp only;rw [pf0,pfn (by decide +kernel),pf0,pfn (by decide +kernel),pfn (by decide +kernel),pf0,Mem.upd_upd,Mem.upd_upd]
 have hl:∀K:DK,(∀l,(M.upd a (.ins ad.C_Block [("word",w),("x",x),("first",.non)])) l=none->K (.ref l) ((M.upd a (.ins ad.C_Block [("word",w),("x",x),("first",.non)])).upd l (.lst [])))->dLst dNil [some (.ref a),some w,some x] (M.upd a (.ins ad.C_Block [("word",w),("x",x),("first",.non)])) K:=fun K q=>by
  simp_arith only [];exact ⟨szl (by decide),q⟩
 unfold dFldS;refine hl _ fun l hn=>?_;have hne:l≠a:=fun e=>by rw [e,Mem.upd_same] at hn;cases hn
 have hn2:M l=none:=by rw [Mem.upd_ne hne] at hn;exact hn
 refine var0 rfl ?_;simp only [Mem.upd_ne (Ne.symm hne),Mem.upd_same];refine ⟨trivial,by simp,drp_id ?_⟩
 have e:((M.upd a (.ins ad.C_Block [("word",w),("x",x),("first",.non)])).upd l (.lst [])).upd a (.ins ad.C_Block (dputF "rows" (.ref l) [("word",w),("x",x),("first",.non)]))=(M.upd l (.lst [])).upd a (.ins ad.C_Block (bF w x .non l)):=by
  rw [pfn (by decide +kernel),pfn (by decide +kernel),pfn (by decide +kernel),pf0]
  funext b
  by_cases h1:b=a
  ·subst h1;rw [Mem.upd_same,Mem.upd_same];rfl
  ·rw [Mem.upd_ne h1,Mem.upd_ne h1]
   by_cases h2:b=l
   ·subst h2;rw [Mem.upd_same,Mem.upd_same]
   ·rw [Mem.upd_ne h2,Mem.upd_ne h2,Mem.upd_ne h1]
 rw [e];exact q l hn2 hne
end
end Tw
namespace Tw
open PySem L2 L3 LS
structure Blk where
 w:Str
 x:Str
 first:Option (List Rw)
 rows:List Rw
noncomputable def fstD:Option (List Rw)->D
 |none=>.non
 |some a=>.tup (rowsD a)
noncomputable def BlkAt(ad:Ad)(M:Mem)(p:Addr×Addr)(B:Blk):Prop:=M p.1=some (.ins ad.C_Block (bF (.str B.w) (.str B.x) (fstD B.first) p.2))/\M p.2=some (.lst (rowsD B.rows))
inductive Blks(ad:Ad)(M:Mem):List (Addr×Addr)->List Blk->Prop
 |nil:Blks ad M [] []
 |cons {p:Addr×Addr} {B:Blk} {bs:List (Addr×Addr)} {st:List Blk}:BlkAt ad M p B->Blks ad M bs st->Blks ad M (p::bs) (B::st)
noncomputable def adr:List (Addr×Addr)->List Addr
 |[]=>[]
 |p::bs=>p.1::p.2::adr bs
theorem BlkAt.go{ad:Ad}{M M':Mem}{p:Addr×Addr}{B:Blk}(h:BlkAt ad M p B)(e1:M' p.1=M p.1)(e2:M' p.2=M p.2):BlkAt ad M' p B:=⟨e1.trans h.1,e2.trans h.2⟩
theorem Blks.go{ad:Ad}{M M':Mem}:∀{bs:List (Addr×Addr)} {st:List Blk},Blks ad M bs st->(∀a∈adr bs,M' a=M a)->Blks ad M' bs st
 |_,_,.nil,_=>.nil
 |_,_,.cons h r,e=>.cons (h.go (e _ (by simp [adr])) (e _ (by simp [adr]))) (Blks.go r fun a ha=>e a (by simp [adr,ha]))
theorem Blks.some{ad:Ad}{M:Mem}:∀{bs:List (Addr×Addr)} {st:List Blk},Blks ad M bs st->∀a∈adr bs,M a≠none
 |_,_,.nil,a,ha=>by simp [adr] at ha
 |_,_,.cons h r,a,ha=>by
  simp only [adr,List.mem_cons] at ha;rcases ha with rfl|rfl|ha
  ·rw [h.1];simp
  ·rw [h.2];simp
  ·exact Blks.some r a ha
structure St(ad:Ad)(M0:Mem)(r h b:Addr)(hd:List D)(bs:List (Addr×Addr))(st:List Blk)(p:Addr×Addr)(B:Blk)(c:Int)(M:Mem):Prop where
 rd:M r=some (.ins ad.C_Reading (rF h b c))
 hh:M h=some (.lst hd)
 bb:M b=some (.lst ((bs++[p]).map fun p=>.ref p.1))
 lo:Blks ad M bs st
 top:BlkAt ad M p B
 nd:(r::h::b::p.1::p.2::adr bs).Nodup
 ext:∀a o,M0 a=some o->M a=some o
 new:∀a∈r::h::b::p.1::p.2::adr bs,M0 a=none
section
variable {ad:Ad}{M0 M:Mem}{Q:DK}{E:DX}{δ:Dl}{r h b:Addr}{hd:List D}{bs:List (Addr×Addr)}{st:List Blk}{p:Addr×Addr}{B:Blk}{c:Int}
theorem last_at{bs:List (Addr×Addr)}{p:Addr×Addr}:atI ((bs++[p]).map fun p=>D.ref p.1) (-1)=some (.ref p.1):=by
 unfold atI ixN;simp only [List.map_append,List.map_cons,List.map_nil,List.length_append,List.length_map,List.length_singleton];rw [if_neg (by decide),if_pos (by lia),show (-1+((bs.length+1:Nat):Int)).toNat=bs.length by lia]
 show (List.map (fun p=>D.ref p.1) bs++[D.ref p.1])[bs.length]?=_;rw [List.getElem?_append_right (by simp)]
 simp
theorem blocks_e{i:Nat}(S:St ad M0 r h b hd bs st p B c M)(h0:δ[i]?=some (some (.ref r))):∀K:DK,K (.ref b) M->dFld ad.C_Reading (dVar i) "blocks" δ M K:=fld_e (var_e h0) S.rd r_blocks
theorem last_e{i:Nat}(S:St ad M0 r h b hd bs st p B c M)(h0:δ[i]?=some (some (.ref r))):∀K:DK,K (.ref p.1) M->dOp oIx (dFld ad.C_Reading (dVar i) "blocks") (oNeg (dC (.int 1))) δ M K:=fun K q=>by
 unfold dOp;refine blocks_e S h0 _ ?_;simp_arith only [S.bb,last_at];exact q
theorem St.top'(S:St ad M0 r h b hd bs st p B c M){M':Mem}{B':Blk}{l:Addr}(hl:l=p.2\/M l=none)(e:∀a,a≠p.1->a≠p.2->a≠l->M' a=M a)(ht:BlkAt ad M' (p.1,l) B'):St ad M0 r h b hd bs st (p.1,l) B' c M':=by
 have nd:=S.nd;simp only [List.nodup_cons,List.mem_cons,not_or] at nd;obtain ⟨⟨n1,n2,n3,n4,n5⟩,⟨n6,n7,n8,n9⟩,⟨n10,n11,n12⟩,⟨n13,n14⟩,n15,n16⟩:=nd;have nl:∀a,M a≠none->a≠p.2->a≠l:=fun a ha h2 z=>by
  rcases hl with rfl|hl
  ·exact h2 z
  ·exact ha (z▸hl)
 have hr:r≠l:=nl r (by rw [S.rd];simp) n4
 have hh':h≠l:=nl h (by rw [S.hh];simp) n8
 have hb:b≠l:=nl b (by rw [S.bb];simp) n11
 have hp:p.1≠l:=nl p.1 (by rw [S.top.1];simp) n13
 have hM:=S.lo.some;have na:∀a∈adr bs,a≠p.1/\a≠p.2/\a≠l:=fun a ha=>by
  have h1:a≠p.1:=fun z=>n14 (z▸ha);have h2:a≠p.2:=fun z=>n15 (z▸ha);exact ⟨h1,h2,nl a (hM a ha) h2⟩
 have hl0:M0 l=none:=by
  rcases hl with rfl|hl
  ·exact S.new _ (by simp)
  ·cases q:M0 l with
   |none=>rfl
   |some o=>rw [S.ext l o q] at hl;cases hl
 refine ⟨by rw [e r n3 n4 hr];exact S.rd,by rw [e h n7 n8 hh'];exact S.hh,by rw [e b n10 n11 hb];simpa using S.bb,S.lo.go fun a ha=>e a (na a ha).1 (na a ha).2.1 (na a ha).2.2,ht,?_,fun a o q=>?_,fun a ha=>?_⟩
 ·simp only [List.nodup_cons,List.mem_cons,not_or]
  refine ⟨⟨n1,n2,n3,hr,n5⟩,⟨n6,n7,hh',n9⟩,⟨n10,hb,n12⟩,⟨hp,n14⟩,fun z=>(na l z).2.2 rfl,n16⟩
 ·have h1:a≠p.1:=fun z=>by rw [z,S.new p.1 (by simp)] at q;cases q
  have h2:a≠p.2:=fun z=>by rw [z,S.new p.2 (by simp)] at q;cases q
  have h3:a≠l:=fun z=>by rw [z,hl0] at q;cases q
  rw [e a h1 h2 h3];exact S.ext a o q
 ·simp only [List.mem_cons] at ha
  rcases ha with rfl|rfl|rfl|rfl|rfl|ha
  ·exact S.new _ (by simp)
  ·exact S.new _ (by simp)
  ·exact S.new _ (by simp)
  ·exact S.new _ (by simp)
  ·exact hl0
  ·exact S.new _ (by simp [ha])
theorem nN_c{te:dTE}{d:D}(ht:∀K:DK,K d M->te δ M K):∀K:Bool->Mem->Prop,K (!isNon d) M->dTest (dOp oNotN te (dC .non)) δ M K:=fun K q=>by
 unfold dTest dOp;refine ht _ ?_;exact q
theorem tupR_e{te:dTE}{a:Addr}{xs:List D}(ht:∀K:DK,K (.ref a) M->te δ M K)(hM:M a=some (.lst xs)):∀K:DK,K (.tup xs) M->dCB cTuple (dCons te dNil) δ M K:=fun K q=>by
 unfold dCB;refine dcons_go (ht _ (dnil_go ?_));simp only [cTuple,seqL,seqD,hM];exact q
theorem fldL_go{D0:DEnds}{ta:dTE}{C a:Addr}{f:Str}{fs:List (Str×D)}(ha:∀l,M l=none->∀K:DK,K (.ref a) (M.upd l (.lst []))->ta δ (M.upd l (.lst [])) K)(hM:M a=some (.ins C fs))(hl:fs.length<1000)(q:∀l,M l=none->D0.nx δ ((M.upd l (.lst [])).upd a (.ins C (dputF f (.ref l) fs)))):dFldS C ta (dLst dNil) f D0 δ M:=by
 unfold dFldS dLst dNil;refine ⟨szl (by simp),fun l hn=>ha l hn _ ?_⟩
 have hne:a≠l:=fun e=>by rw [e,hn] at hM;cases hM
 simp only [Mem.upd_ne hne,hM];exact ⟨trivial,hl,q l hn⟩
theorem turn_spec(S:St ad M0 r h b hd bs st p B c M)(hw:B.w="if")(hf:B.first=none)(q:∀l M',St ad M0 r h b hd bs st (p.1,l) ⟨B.w,B.x,some B.rows,[]⟩ c M'->Q (.bl true) M'):S_q10 ad [.ref r] M Q E:=by
 have ne12:p.1≠p.2:=fun z=>by
  have:=S.nd;simp only [List.nodup_cons,List.mem_cons,not_or] at this;exact this.2.2.2.1.1 z
 rw [u_q10 (n:=0)];unfold T_q10;refine seq_go0 (asg0 (last_e S rfl _ ?_));dsimp only [List.set];refine seq_go0 (if_go (b:=false) (fun K q=>or_c (b:=false) (c:=false) (fun K q=>neS_c (fld_e (var_e rfl) S.top.1 b_word) (fun K q=>q) K (by rw [decide_eq_true hw];exact q)) (fun _ K q=>nN_c (fld_e (var_e rfl) S.top.1 b_first) K (by rw [hf];exact q)) K q) (fun e=>by cases e) fun _=>?_)
 dsimp only [dNext];refine seq_go0 (fldS_go (tupR_e (fld_e (var_e rfl) S.top.1 b_rows) S.top.2) (var_e rfl) S.top.1 (by simp [bF]) ?_)
 dsimp only;rw [b_setF];refine seq_go0 (fldL_go (fun l hn=>var_e rfl) Mem.upd_same (by simp [bF]) fun l hn=>?_)
 dsimp only;rw [b_setR];have hn1:l≠p.1:=fun z=>by rw [z,Mem.upd_same] at hn;cases hn
 have hn0:M l=none:=by rw [Mem.upd_ne hn1] at hn;exact hn
 refine drp_id (q l _ (S.top' (.inr hn0) (fun a h1 h2 h3=>?_) ⟨Mem.upd_same,?_⟩))
 ·rw [Mem.upd_ne h1,Mem.upd_ne h3,Mem.upd_ne h1]
 ·show (((M.upd p.1 _).upd l _).upd p.1 _) l=_
  rw [Mem.upd_ne hn1,Mem.upd_same];rfl
end
end Tw
namespace Tw
open PySem L2 L3 LS
section
variable {ad:Ad}{M0 M:Mem}{Q:DK}{E:DX}{δ:Dl}{r h b:Addr}{hd:List D}{bs:List (Addr×Addr)}{st:List Blk}{p:Addr×Addr}{B:Blk}{c:Int}
theorem St.cnt(S:St ad M0 r h b hd bs st p B c M)(c':Int):St ad M0 r h b hd bs st p B c' (M.upd r (.ins ad.C_Reading (rF h b c'))):=by
 have nd:=S.nd;simp only [List.nodup_cons,List.mem_cons,not_or] at nd;obtain ⟨⟨n1,n2,n3,n4,n5⟩,_⟩:=nd;refine ⟨Mem.upd_same,by rw [Mem.upd_ne (Ne.symm n1)];exact S.hh,by rw [Mem.upd_ne (Ne.symm n2)];exact S.bb,S.lo.go fun a ha=>Mem.upd_ne fun z=>n5 (z▸ha),S.top.go (Mem.upd_ne (Ne.symm n3)) (Mem.upd_ne (Ne.symm n4)),S.nd,fun a o q=>?_,S.new⟩
 have:a≠r:=fun z=>by rw [z,S.new r (by simp)] at q;cases q
 rw [Mem.upd_ne this];exact S.ext a o q
theorem cnt_go{D0:DEnds}(S:St ad M0 r h b hd bs st p B c M)(h0:δ[0]?=some (some (.ref r)))(q:D0.nx δ (M.upd r (.ins ad.C_Reading (rF h b (c+1))))):dFldAdd ad.C_Reading (dVar 0) (dC (.int 1)) "count" D0 δ M:=by
 unfold dFldAdd;refine var0 h0 ?_;simp only [S.rd,r_count,dC];rw [r_setC];exact ⟨trivial,by simp [rF],trivial,q⟩
theorem head_e{i:Nat}(S:St ad M0 r h b hd bs st p B c M)(h0:δ[i]?=some (some (.ref r))):∀K:DK,K (.ref h) M->dFld ad.C_Reading (dVar i) "head" δ M K:=fld_e (var_e h0) S.rd r_head
theorem St.put(S:St ad M0 r h b hd bs st p B c M)(x:Rw):St ad M0 r h b hd bs st p ⟨B.w,B.x,B.first,B.rows++[x]⟩ c (M.upd p.2 (.lst (rowsD B.rows++[x.d]))):=by
 have ne12:p.1≠p.2:=fun z=>by
  have:=S.nd;simp only [List.nodup_cons,List.mem_cons,not_or] at this;exact this.2.2.2.1.1 z
 exact S.top' (.inl rfl) (fun a _ h2 _=>Mem.upd_ne h2) ⟨by rw [Mem.upd_ne ne12];exact S.top.1,by rw [rowsD_append];exact Mem.upd_same⟩
theorem app_go{D0:DEnds}{te tv:dTE}{a:Addr}{xs:List D}{d:D}(ht:∀K:DK,K (.ref a) M->te δ M K)(hv:∀K:DK,K d M->tv δ M K)(hM:M a=some (.lst xs))(hl:xs.length<1000)(q:D0.nx δ (M.upd a (.lst (xs++[d])))):dDrop (dBM "list" mAppend te (dCons tv dNil)) D0 δ M:=by
 unfold dDrop dBM;refine ht _ ⟨by simp only [tyName,hM],dcons_go (hv _ (dnil_go ?_))⟩
 simp only [mAppend,hM];exact ⟨szs (by lia),q⟩
theorem takeset_spec{m many:Int}{names:List Str}{d4:D}{x:Rw}(S:St ad M0 r h b (hdL m many names d4) bs st p B c M)(ok:RwOk names m many x)(m1:m<=997)(k1:many<=40)(hc:c+1<=60)(hl:B.rows.length<=100)
  (q:∀M',St ad M0 r h b (hdL m many names d4) bs st p ⟨B.w,B.x,B.first,B.rows++[x]⟩ (c+1) M'->Q (.bl true) M'):S_q0 ad [.ref r,.lst ((wdR x).map D.str)] M Q E:=by
 rw [u_q0 (n:=0)];unfold T_q0;refine seq_go0 (cnt_go S rfl ?_);have S1:=S.cnt (c+1);generalize M.upd r (.ins ad.C_Reading (rF h b (c+1)))=M1 at S1 ⊢;dsimp only;refine seq_go0 (if_go (b:=false) (fun K q=>gt_c (fld_e (var_e rfl) S1.rd r_count) (fun K q=>q) K (by rw [decide_eq_false (by lia)];exact q)) (fun e=>by cases e) fun _=>?_)
 dsimp only [dNext];have hlen:decide ((((wdR x).length:Nat):Int)=2)=false:=by
  cases x with
  |ifr=>exact ok.elim
  |again=>exact ok.elim
  |_=>rfl
 refine seq_go0 (if_go (eqIt_c hlen (wl_e rfl) (fun K q=>q)) (fun e=>by cases e) fun _=>?_)
 dsimp only [dNext];have hset:∀K:DK,K x.d M1->dFrz (dCall (S_q15 ad) (drpX E) 2 (dCons (dFld ad.C_Reading (dVar 0) "head") (dCons (dVar 1) dNil))) [some (.ref r),some (.lst ((wdR x).map D.str)),none] M1 K:=fun K q=>by
  refine frz_int (call_e (ds:=[.ref h,.lst ((wdR x).map D.str)]) (fun K q=>dcons_go (head_e S1 rfl _ (dcons_go (var0 rfl (dnil_go q))))) rfl (fun Q' E' z=>set_spec S1.hh ok m1 k1 z) ?_);rw [frz_d];exact q
 refine seq_go0 (asg0 (hset _ ?_));dsimp only [List.set];refine seq_go0 (app_go (fld_e (last_e S1 rfl) S1.top.1 b_rows) (var_e rfl) S1.top.2 (by rw [rowsD_len];lia) ?_)
 dsimp only;have hn:isNon x.d=false:=by cases x<;>rfl
 refine ret_go ?_;unfold dOp;refine var0 rfl ?_;show drp Q (.bl (!isNon x.d)) _;rw [hn];exact drp_id (q _ (S1.put x))
end
end Tw
namespace Tw
open PySem L2 L3 LS
theorem Blks.snoc{ad:Ad}{M:Mem}{p:Addr×Addr}{B:Blk}(t:BlkAt ad M p B):∀{bs:List (Addr×Addr)} {st:List Blk},Blks ad M bs st->Blks ad M (bs++[p]) (st++[B])
 |_,_,.nil=>.cons t .nil
 |_,_,.cons h r=>.cons h (Blks.snoc t r)
theorem adr_snoc{p:Addr×Addr}:∀bs:List (Addr×Addr),adr (bs++[p])=adr bs++[p.1,p.2]
 |[]=>rfl
 |q::bs=>by simp only [List.cons_append,adr,adr_snoc bs]
section
variable {ad:Ad}{M0 M:Mem}{Q:DK}{E:DX}{δ:Dl}{r h b:Addr}{hd:List D}{bs:List (Addr×Addr)}{st:List Blk}{p:Addr×Addr}{B:Blk}{c:Int}
theorem St.push(S:St ad M0 r h b hd bs st p B c M){M':Mem}{a l:Addr}{B':Blk}(ha:M a=none)(hl:M l=none)(hal:a≠l)(e:∀d,d≠a->d≠l->d≠b->M' d=M d)(eb:M' b=some (.lst ((bs++[p]++[(a,l)]).map fun p=>.ref p.1)))(ht:BlkAt ad M' (a,l) B'):
  St ad M0 r h b hd (bs++[p]) (st++[B]) (a,l) B' c M':=by
 have nd:=S.nd;simp only [List.nodup_cons,List.mem_cons,not_or] at nd;obtain ⟨⟨n1,n2,n3,n4,n5⟩,⟨n6,n7,n8,n9⟩,⟨n10,n11,n12⟩,⟨n13,n14⟩,n15,n16⟩:=nd;have nn:∀d,M d≠none->d≠a/\d≠l:=fun d hd=>⟨fun z=>hd (z▸ha),fun z=>hd (z▸hl)⟩;have sr:=nn r (by rw [S.rd];simp)
 have sh:=nn h (by rw [S.hh];simp)
 have sb:=nn b (by rw [S.bb];simp)
 have s1:=nn p.1 (by rw [S.top.1];simp)
 have s2:=nn p.2 (by rw [S.top.2];simp)
 have sl:=fun d hd=>nn d (S.lo.some d hd);have z0:∀d,M d=none->M0 d=none:=fun d hd=>by
  cases q:M0 d with
  |none=>rfl
  |some o=>rw [S.ext d o q] at hd;cases hd
 refine ⟨by rw [e r sr.1 sr.2 n2];exact S.rd,by rw [e h sh.1 sh.2 n6];exact S.hh,eb,Blks.snoc (S.top.go (e _ s1.1 s1.2 (Ne.symm n10)) (e _ s2.1 s2.2 (Ne.symm n11))) (S.lo.go fun d hd=>e d (sl d hd).1 (sl d hd).2 fun z=>n12 (z▸hd)),ht,?_,fun d o q=>?_,fun d hd=>?_⟩
 ·rw [adr_snoc]
  simp only [List.nodup_cons,List.mem_cons,List.mem_append,List.not_mem_nil,or_false,not_or];refine ⟨⟨n1,n2,sr.1,sr.2,n5,n3,n4⟩,⟨n6,sh.1,sh.2,n9,n7,n8⟩,⟨sb.1,sb.2,n12,n10,n11⟩,⟨hal,fun z=>(sl a z).1 rfl,Ne.symm s1.1,Ne.symm s2.1⟩,⟨fun z=>(sl l z).2 rfl,Ne.symm s1.2,Ne.symm s2.2⟩,?_⟩;refine List.nodup_append.mpr ⟨n16,by simp [n13],fun d hd d' hd' z=>?_⟩
  simp only [List.mem_cons,List.not_mem_nil,or_false] at hd';rcases hd' with q|q
  ·exact n14 (q▸z▸hd)
  ·exact n15 (q▸z▸hd)
 ·have h1:d≠a:=fun z=>by rw [z,z0 a ha] at q;cases q
  have h2:d≠l:=fun z=>by rw [z,z0 l hl] at q;cases q
  have h3:d≠b:=fun z=>by rw [z,S.new b (by simp)] at q;cases q
  rw [e d h1 h2 h3];exact S.ext d o q
 ·rw [adr_snoc] at hd
  simp only [List.mem_cons,List.mem_append,List.not_mem_nil,or_false] at hd;rcases hd with rfl|rfl|rfl|rfl|rfl|hd|rfl|rfl
  ·exact S.new _ (by simp)
  ·exact S.new _ (by simp)
  ·exact S.new _ (by simp)
  ·exact z0 _ ha
  ·exact z0 _ hl
  ·exact S.new _ (by simp [hd])
  ·exact S.new _ (by simp)
  ·exact S.new _ (by simp)
theorem make_e{EE:DX}{K:DK}{t1 t2:dTE}{w x:D}(h1:∀K:DK,K w M->t1 δ M K)(h2:∀K:DK,K x M->t2 δ M K)(q:∀a l,M a=none->M l=none->a≠l->K (.ref a) (((M.upd a (.ins ad.C_Block [])).upd l (.lst [])).upd a (.ins ad.C_Block (bF w x .non l)))):
  dMake ad.C_Block (S_q5 ad) EE 3 (dCons t1 (dCons t2 dNil)) δ M K:=by
 unfold dMake;refine dcons_go (h1 _ (dcons_go (h2 _ (dnil_go ⟨rfl,fun a ha=>calls_of fun Q' E' hq _=>binit_spec Mem.upd_same fun l hl hne=>hq _ _ ?_⟩))));have hl2:M l=none:=by rw [Mem.upd_ne hne] at hl;exact hl
 exact q a l ha hl2 (Ne.symm hne)
theorem takeblk_spec{m many:Int}{names:List Str}{d4:D}{w x:Str}(S:St ad M0 r h b (hdL m many names d4) bs st p B c M)(hw:w="if"\/w="again")(hx:x∈names)(hc:c+1<=60)(hl:bs.length+1<=4)
  (q:∀a l M',St ad M0 r h b (hdL m many names d4) (bs++[p]) (st++[B]) (a,l) ⟨w,x,none,[]⟩ (c+1) M'->Q (.bl true) M'):S_q0 ad [.ref r,.lst ([w,x].map D.str)] M Q E:=by
 rw [u_q0 (n:=0)];unfold T_q0;refine seq_go0 (cnt_go S rfl ?_);have S1:=S.cnt (c+1);generalize M.upd r (.ins ad.C_Reading (rF h b (c+1)))=M1 at S1 ⊢;dsimp only;refine seq_go0 (if_go (b:=false) (fun K q=>gt_c (fld_e (var_e rfl) S1.rd r_count) (fun K q=>q) K (by rw [decide_eq_false (by lia)];exact q)) (fun e=>by cases e) fun _=>?_)
 dsimp only [dNext];refine seq_go0 (if_go (eqIt_c (c:=true) rfl (wl_e rfl) (fun K q=>q)) (fun _=>?_) fun e=>by cases e)
 refine seq_go0 ?_;unfold dDrop dBM;refine blocks_e S1 rfl _ ⟨by simp only [tyName,S1.bb],dcons_go (make_e (wx_e (j:=0) rfl rfl) (wx_e (j:=1) rfl rfl) fun a l ha hl2 hne=>dnil_go ?_)⟩
 have nb:b≠a/\b≠l:=⟨fun z=>absurd S1.bb (by rw [z,ha];simp),fun z=>absurd S1.bb (by rw [z,hl2];simp)⟩
 have eb:(((M1.upd a (.ins ad.C_Block [])).upd l (.lst [])).upd a (.ins ad.C_Block (bF (.str w) (.str x) .non l))) b=some (.lst ((bs++[p]).map fun p=>.ref p.1)):=by
  rw [Mem.upd_ne nb.1,Mem.upd_ne nb.2,Mem.upd_ne nb.1];exact S1.bb
 simp only [mAppend,eb];refine ⟨by simp only [List.length_map,List.length_append,List.length_singleton];exact szs (by lia),?_⟩
 have S2:=S1.push (M':=(((M1.upd a (.ins ad.C_Block [])).upd l (.lst [])).upd a (.ins ad.C_Block (bF (.str w) (.str x) .non l))).upd b (.lst ((bs++[p]).map (fun p=>D.ref p.1)++[.ref a]))) (B':=⟨w,x,none,[]⟩) ha hl2 hne (fun d h1 h2 h3=>by rw [Mem.upd_ne h3,Mem.upd_ne h1,Mem.upd_ne h2,Mem.upd_ne h1]) (by rw [Mem.upd_same];simp) ⟨by rw [Mem.upd_ne (Ne.symm nb.1),Mem.upd_same];rfl,by
  show ((((M1.upd a _).upd l _).upd a _).upd b _) l=_;rw [Mem.upd_ne (Ne.symm nb.2),Mem.upd_ne (Ne.symm hne),Mem.upd_same];rfl⟩
 have q2:=q a l _ S2;generalize ((((M1.upd a (.ins ad.C_Block [])).upd l (.lst [])).upd a (.ins ad.C_Block (bF (.str w) (.str x) .non l))).upd b (.lst ((bs++[p]).map (fun p=>D.ref p.1)++[.ref a])))=M2 at S2 q2 ⊢;have hin:∀K:DK,K (.bl true) M2->dOp oIn (dOp oIx (dVar 1) (dC (.int 0))) (dTup (dCons (dC (.str "if")) (dCons (dC (.str "again")) dNil))) [some (.ref r),some (.lst ([w,x].map D.str)),none] M2 K:=fun K q=>by
  unfold dOp;refine wx_e (j:=0) rfl rfl _ ?_;have e:=any_strs w ["if","again"];rw [decide_eq_true (by rcases hw with rfl|rfl<;>simp)] at e
  simp only [List.map_cons,List.map_nil] at e;simp only [dTup,dCons,dC,dNil];refine ⟨(szl (by decide):2<=sizeLine),?_⟩
  simp only [oIn,isIn,seqD,dv,fit,fits,Bool.and_self,and_self,if_true];rw [e];exact q
 have hlen:∀K:DK,K (.bl true) M2->dOp oLe (dOp oSub (dCB cLen (dCons (dFld ad.C_Reading (dVar 0) "blocks") dNil)) (dC (.int 1))) (dC (.int 4)) [some (.ref r),some (.lst ([w,x].map D.str)),none] M2 K:=fun K q=>by
  unfold dOp dCB;refine dcons_go (blocks_e S2 rfl _ (dnil_go ?_));simp_arith only [S2.bb,List.length_map,List.length_append,List.length_singleton];rw [decide_eq_true (by lia)]
  exact q
 exact ret_go (andV_e (b:=true) (c:=true) hin (fun _ K q=>andV_e (b:=true) (c:=true) (fun K q=>inN_e (wx_e (j:=1) rfl rfl) (fun K q=>by
  unfold dOp;refine head_e S2 rfl _ ?_;simp_arith only [S2.hh,hdL,atI_1];exact q) (by rw [decide_eq_true hx];exact q)) (fun _ K q=>hlen K q) q) (drp_id q2))
end
end Tw
namespace Tw
open PySem L2 L3 LS
theorem Blks.unsnoc{ad:Ad}{M:Mem}{p:Addr×Addr}{B:Blk}:∀{bs:List (Addr×Addr)} {st:List Blk},Blks ad M (bs++[p]) (st++[B])->Blks ad M bs st/\BlkAt ad M p B
 |[],[],h=>by cases h with|cons t _=>exact ⟨.nil,t⟩
 |[],_::st,h=>by
  simp only [List.nil_append,List.cons_append] at h;cases h with
  |cons _ r=>cases st<;>cases r
 |_::bs,[],h=>by
  simp only [List.nil_append,List.cons_append] at h;cases h with
  |cons _ r=>cases bs<;>cases r
 |_::bs,_::st,h=>by
  simp only [List.cons_append] at h;cases h with
  |cons t r=>
   obtain ⟨r1,r2⟩:=Blks.unsnoc r;exact ⟨.cons t r1,r2⟩
section
variable {ad:Ad}{M0 M:Mem}{Q:DK}{E:DX}{δ:Dl}{r h b:Addr}{hd:List D}{bs:List (Addr×Addr)}{st:List Blk}{p p1:Addr×Addr}{B B1:Blk}{c:Int}
theorem St.pop(S:St ad M0 r h b hd (bs++[p1]) (st++[B1]) p B c M):St ad M0 r h b hd bs st p1 B1 c (M.upd b (.lst ((bs++[p1]).map fun p=>.ref p.1))):=by
 obtain ⟨lo,t1⟩:=S.lo.unsnoc;have nd:=S.nd;rw [adr_snoc] at nd;have nd2:=nd;simp only [List.nodup_cons,List.mem_cons,List.mem_append,List.not_mem_nil,or_false,not_or] at nd;obtain ⟨⟨n1,n2,n3,n4,n5,m1,m2⟩,⟨n6,n7,n8,n9,m3,m4⟩,⟨n10,n11,n12,m5,m6⟩,_,_,n16⟩:=nd;obtain ⟨k1,k2,k3⟩:=List.nodup_append.mp n16;have k4:p1.1≠p1.2:=by simpa using k2
 refine ⟨by rw [Mem.upd_ne n2];exact S.rd,by rw [Mem.upd_ne n6];exact S.hh,Mem.upd_same,lo.go fun a ha=>Mem.upd_ne fun z=>n12 (z▸ha),t1.go (Mem.upd_ne (Ne.symm m5)) (Mem.upd_ne (Ne.symm m6)),?_,fun a o q=>?_,fun a ha=>?_⟩
 ·simp only [List.nodup_cons,List.mem_cons,not_or]
  exact ⟨⟨n1,n2,m1,m2,n5⟩,⟨n6,m3,m4,n9⟩,⟨m5,m6,n12⟩,⟨k4,fun z=>k3 _ z _ (by simp) rfl⟩,fun z=>k3 _ z _ (by simp) rfl,k1⟩
 ·have:a≠b:=fun z=>by rw [z,S.new b (by simp)] at q;cases q
  rw [Mem.upd_ne this];exact S.ext a o q
 ·refine S.new a ?_
  rw [adr_snoc];simp only [List.mem_cons,List.mem_append,List.not_mem_nil,or_false] at ha ⊢;rcases ha with q|q|q|q|q|q<;>simp [q]
noncomputable def clR(B:Blk):Rw:=match B.first with
 |some a=>.ifr B.x a B.rows
 |none=>.again B.x B.rows
theorem close_spec(S:St ad M0 r h b hd (bs++[p1]) (st++[B1]) p B c M)(hw:(B.w="if"/\B.first≠none)\/(B.w="again"/\B.first=none))(hl:B1.rows.length<=100)
  (q:∀M',St ad M0 r h b hd bs st p1 ⟨B1.w,B1.x,B1.first,B1.rows++[clR B]⟩ c M'->Q (.bl true) M'):S_q9 ad [.ref r] M Q E:=by
 rw [u_q9 (n:=0)];unfold T_q9;have S1:=S.pop;have nd:=S.nd;simp only [List.nodup_cons,List.mem_cons,not_or] at nd;have tp:BlkAt ad (M.upd b (.lst ((bs++[p1]).map fun p=>.ref p.1))) p B:=S.top.go (Mem.upd_ne (Ne.symm nd.2.2.1.1)) (Mem.upd_ne (Ne.symm nd.2.2.1.2.1));have hpop:∀K:DK,K (.ref p.1) (M.upd b (.lst ((bs++[p1]).map fun p=>.ref p.1)))->dBM "list" mPop (dFld ad.C_Reading (dVar 0) "blocks") dNil [some (.ref r),none,none] M K:=fun K q=>by
  unfold dBM;refine blocks_e S rfl _ ⟨by simp only [tyName,S.bb],dnil_go ?_⟩
  have e1:((bs++[p1]++[p]).map fun p=>D.ref p.1)[((bs++[p1]++[p]).map fun p=>D.ref p.1).length-1]?=some (.ref p.1):=by simp
  have e2:((bs++[p1]++[p]).map fun p=>D.ref p.1).dropLast=(bs++[p1]).map fun p=>D.ref p.1:=by simp
  simp only [mPop,S.bb,e1,e2];exact q
 refine seq_go0 (asg0 (hpop _ ?_));dsimp only [List.set];generalize M.upd b (.lst ((bs++[p1]).map fun p=>.ref p.1))=M1 at S1 tp ⊢;have hd':(clR B).d=.tup ([.str B.w,.str B.x]++(match B.first with|some a=>[D.tup (rowsD a)]|none=>[])++[.tup (rowsD B.rows)]):=by
  unfold clR;rcases hw with ⟨h1,h2⟩|⟨h1,h2⟩
  ·cases e:B.first with
   |none=>exact absurd e h2
   |some a=>simp only [Rw.d,h1];rfl
  ·rw [h2];simp only [Rw.d,h1];rfl
 refine seq_go0 (if_go (b:=false) (fun K q=>or_c (b:=false) (eqSt_c (by rcases hw with ⟨h1,_⟩|⟨h1,_⟩<;>(rw [h1];decide +kernel)) (fld_e (var_e rfl) tp.1 b_word) (fun K q=>q)) (fun _=>and_c (b:=decide (B.w="if")) (c:=isNon (fstD B.first)) (eqS_c (fld_e (var_e rfl) tp.1 b_word) (fun K q=>q)) fun _=>isN_c (fld_e (var_e rfl) tp.1 b_first)) K (by
  have:(decide (B.w=Str.ofString "if")&&isNon (fstD B.first))=false:=by
   rcases hw with ⟨h1,h2⟩|⟨h1,h2⟩
   ·cases e:B.first with
    |none=>exact absurd e h2
    |some a=>simp [fstD,isNon]
   ·rw [h1,show decide ((Str.ofString "again":Str)=Str.ofString "if")=false by decide +kernel];rfl
  rw [Bool.false_or,this];exact q)) (fun e=>by cases e) fun _=>?_)
 dsimp only [dNext];have fin:∀F:List D,F.length<=1->(clR B).d=.tup ([.str B.w,.str B.x]++F++[.tup (rowsD B.rows)])->T_q9_1 ad (drpX E) { nx:=fun _ M'=>drp Q .non M',rt:=drp Q } [some (.ref r),some (.ref p.1),some (.tup F)] M1:=fun F hF eF=>by
  have hV:∀K:DK,K (clR B).d M1->dOp oAdd (dOp oAdd (dTup (dCons (dFld ad.C_Block (dVar 1) "word") (dCons (dFld ad.C_Block (dVar 1) "x") dNil))) (dVar 2)) (dTup (dCons (dCB cTuple (dCons (dFld ad.C_Block (dVar 1) "rows") dNil)) dNil)) [some (.ref r),some (.ref p.1),some (.tup F)] M1 K:=fun K q=>by
   unfold dOp;refine tup_go (dcons_go (fld_e (var_e rfl) tp.1 b_word _ (dcons_go (fld_e (var_e rfl) tp.1 b_x _ (dnil_go ⟨(szl (by decide):2<=sizeLine),var0 rfl ?_⟩)))))
   simp only [oAdd];refine ⟨szl (by simp;lia),tup_go (dcons_go (tupR_e (fld_e (var_e rfl) tp.1 b_rows) tp.2 _ (dnil_go ⟨(szl (by decide):1<=sizeLine),?_⟩)))⟩
   simp only [oAdd];rw [eF] at q;exact ⟨szl (by simp;lia),q⟩
  refine seq_go0 (app_go (fld_e (last_e S1 rfl) S1.top.1 b_rows) hV S1.top.2 (by rw [rowsD_len];lia) ?_)
  exact drp_id (q _ (S1.put (clR B)))
 refine seq_go0 (asg0 (dif_e (isN_c (fld_e (var_e rfl) tp.1 b_first)) (fun e=>?_) fun e=>?_))
 ·have e0:B.first=none:=by
   cases e1:B.first with
   |none=>rfl
   |some a=>rw [e1] at e;simp [fstD,isNon] at e
  refine tup_go (dnil_go ⟨(szl (by decide):0<=sizeLine),?_⟩)
  exact fin [] (by simp) (by rw [hd',e0])
 ·cases e1:B.first with
  |none=>rw [e1] at e;simp [fstD,isNon] at e
  |some a=>
   refine tup_go (dcons_go (fld_e (var_e rfl) tp.1 b_first _ (dnil_go ⟨(szl (by decide):1<=sizeLine),?_⟩)))
   rw [e1];exact fin [.tup (rowsD a)] (by simp) (by rw [hd',e1])
end
end Tw
namespace Tw
open PySem L2 L3 LS
section
variable {ad:Ad}{M0:Mem}{Q:DK}{E:DX}{r:Addr}
theorem rinit_spec(h0:M0 r=none)(q:∀h b a l M',St ad M0 r h b [] [] [] (a,l) ⟨"top","",none,[]⟩ 0 M'->Q .non M'):S_q1 ad [.ref r] (M0.upd r (.ins ad.C_Reading [])) Q E:=by
 rw [u_q1 (n:=0)];unfold T_q1;refine seq_go0 (fldL_go (fun l hn=>var_e rfl) Mem.upd_same (by simp) fun h hh=>?_)
 dsimp only;have nh:h≠r:=fun z=>by rw [z,Mem.upd_same] at hh;cases hh
 have h0h:M0 h=none:=by rw [Mem.upd_ne nh] at hh;exact hh
 rw [pf0];generalize eM1:((M0.upd r (.ins ad.C_Reading [])).upd h (.lst [])).upd r (.ins ad.C_Reading [("head",.ref h)])=M1;have r1:M1 r=some (.ins ad.C_Reading [("head",.ref h)]):=by rw [<- eM1,Mem.upd_same]
 have hh1:M1 h=some (.lst []):=by rw [<- eM1,Mem.upd_ne nh,Mem.upd_same]
 have e1:∀d,d≠r->d≠h->M1 d=M0 d:=fun d a b=>by rw [<- eM1,Mem.upd_ne a,Mem.upd_ne b,Mem.upd_ne a]
 refine seq_go0 ?_;unfold dFldS;have hb:∀K:DK,(∀a l b,M1 a=none->M1 l=none->a≠l->M1 b=none->b≠a->b≠l->K (.ref b) ((((M1.upd a (.ins ad.C_Block [])).upd l (.lst [])).upd a (.ins ad.C_Block (bF (.str "top") (.str "") .non l))).upd b (.lst [.ref a])))->dLst (dCons (dMake ad.C_Block (S_q5 ad) (drpX E) 3 (dCons (dC (.str "top")) (dCons (dC (.str "")) dNil))) dNil) [some (.ref r)] M1 K:=fun K q=>by
  unfold dLst;refine dcons_go (make_e (fun K q=>q) (fun K q=>q) fun a l ha hl hne=>dnil_go ⟨(szl (by decide):1<=sizeLine),fun b hb=>?_⟩)
  have b1:b≠a:=fun z=>by rw [z,Mem.upd_same] at hb;cases hb
  have b2:b≠l:=fun z=>by rw [z,Mem.upd_ne (Ne.symm hne),Mem.upd_same] at hb;cases hb
  have b3:M1 b=none:=by rw [Mem.upd_ne b1,Mem.upd_ne b2,Mem.upd_ne b1] at hb;exact hb
  exact q a l b ha hl hne b3 b1 b2
 refine hb _ fun a l b ha hl hne hb1 ba bl=>var0 rfl ?_;have nr:∀d,M1 d=none->d≠r/\d≠h:=fun d hd=>⟨(fun z=>by rw [z,r1] at hd;cases hd),(fun z=>by rw [z,hh1] at hd;cases hd)⟩
 have na:=nr a ha;have nl:=nr l hl;have nb:=nr b hb1;generalize eM2:(((M1.upd a (.ins ad.C_Block [])).upd l (.lst [])).upd a (.ins ad.C_Block (bF (.str "top") (.str "") .non l))).upd b (.lst [.ref a])=M2;have r2:M2 r=some (.ins ad.C_Reading [("head",.ref h)]):=by rw [<- eM2,Mem.upd_ne (Ne.symm nb.1),Mem.upd_ne (Ne.symm na.1),Mem.upd_ne (Ne.symm nl.1),Mem.upd_ne (Ne.symm na.1)];exact r1
 have e2:∀d,d≠a->d≠l->d≠b->M2 d=M1 d:=fun d x y z=>by rw [<- eM2,Mem.upd_ne z,Mem.upd_ne x,Mem.upd_ne y,Mem.upd_ne x]
 simp only [r2];refine ⟨trivial,by simp,?_⟩
 rw [pfn (by decide +kernel),pf0]
 unfold dC;refine var0 rfl ?_;simp only [Mem.upd_same];refine ⟨trivial,by simp,drp_id (q h b a l _ ?_)⟩
 rw [pfn (by decide +kernel),pfn (by decide +kernel),pf0,Mem.upd_upd]
 have z0:∀d,M1 d=none->M0 d=none:=fun d hd=>by rw [<- e1 d (nr d hd).1 (nr d hd).2];exact hd
 refine ⟨Mem.upd_same,?_,?_,.nil,⟨?_,?_⟩,?_,fun d o q=>?_,fun d hd=>?_⟩
 ·rw [Mem.upd_ne nh,e2 h (Ne.symm na.2) (Ne.symm nl.2) (Ne.symm nb.2)];exact hh1
 ·rw [Mem.upd_ne nb.1,<- eM2,Mem.upd_same];rfl
 ·show (M2.upd r _) a=_
  rw [Mem.upd_ne na.1,<- eM2,Mem.upd_ne (Ne.symm ba),Mem.upd_same];rfl
 ·show (M2.upd r _) l=_
  rw [Mem.upd_ne nl.1,<- eM2,Mem.upd_ne (Ne.symm bl),Mem.upd_ne (Ne.symm hne),Mem.upd_same];rfl
 ·simp only [adr,List.nodup_cons,List.mem_cons,List.not_mem_nil,or_false,not_or]
  exact ⟨⟨Ne.symm nh,Ne.symm nb.1,Ne.symm na.1,Ne.symm nl.1⟩,⟨Ne.symm nb.2,Ne.symm na.2,Ne.symm nl.2⟩,⟨ba,bl⟩,hne,by simp,List.nodup_nil⟩
 ·have d1:d≠r:=fun z=>by rw [z,h0] at q;cases q
  have d2:d≠h:=fun z=>by rw [z,h0h] at q;cases q
  have d3:d≠a:=fun z=>by rw [z,z0 a ha] at q;cases q
  have d4:d≠l:=fun z=>by rw [z,z0 l hl] at q;cases q
  have d5:d≠b:=fun z=>by rw [z,z0 b hb1] at q;cases q
  rw [Mem.upd_ne d1,e2 d d3 d4 d5,e1 d d1 d2];exact q
 ·simp only [adr,List.mem_cons,List.not_mem_nil,or_false] at hd
  rcases hd with rfl|rfl|rfl|rfl|rfl
  ·exact h0
  ·exact h0h
  ·exact z0 _ hb1
  ·exact z0 _ ha
  ·exact z0 _ hl
end
end Tw
namespace Tw
open PySem L2 L3 LS PySem.NumText
structure Wf(ws:List Str):Prop where
 ne:ws≠[]
 len:ws.length<=20
 ok:∀w∈ws,w.length<=1002/\32∉sg w
noncomputable def txt(ws:List Str):Str:=PySem.Txt.join SP ws
theorem txt_split{ws:List Str}(h:Wf ws):PySem.Txt.split (txt ws) SP=ws:=split_join h.ne fun w hw=>(h.ok w hw).2
theorem sumw:∀{ws:List Str},(∀w∈ws,w.length<=1002/\32∉sg w)->(ws.map (·.length)).sum<=1002*ws.length
 |[],_=>by simp
 |w::ws,h=>by
  have h1:=(h w (by simp)).1
  have h2:=sumw fun x hx=>h x (List.mem_cons_of_mem _ hx);simp only [List.map_cons,List.sum_cons,List.length_cons];lia
theorem txt_len{ws:List Str}(h:Wf ws):(txt ws).length<=21000:=by
 have e:(txt ws).length=(ws.map (·.length)).sum+(ws.length-1)*SP.length:=PySem.size_glued SP ws;have h1:=sumw h.ok;have h2:=h.len;have h3:SP.length=1:=by decide
 rw [e,h3];lia
theorem pb_len{ws:List Str}(h:Wf ws):(Builtin.Str.partsBetween (txt ws) (Builtin.Str.occurrences (txt ws) SP 0 (txt ws).length ((txt ws).length+1)) SP.length).length<=30000:=by
 have hl:=txt_len h;generalize txt ws=x at hl
 by_cases c1:(decide (x.length<SP.length)||decide (Builtin.Str.strKind x<Builtin.Str.strKind SP))=true
 ·have hx:x=Str.ofString "":=by
   rw [Bool.or_eq_true,decide_eq_true_iff,decide_eq_true_iff] at c1;rcases c1 with h|h
   ·have h3:SP.length=1:=by decide
    have:x.cps.size=0:=by have:x.cps.size=x.length:=rfl;lia
    cases x
    rename_i a
    have ea:a=#[]:=Array.eq_empty_of_size_eq_zero this;rw [ea];decide
   ·have h1:Builtin.Str.strKind SP=1:=by decide +kernel
    rw [h1] at h;unfold Builtin.Str.strKind at h
    split at h
    ·lia
    ·split at h<;>lia
  rw [hx]
  decide +kernel
 ·by_cases c2:(Builtin.Str.occurrences x SP 0 x.length (x.length+1)).isEmpty=true
  ·rw [List.isEmpty_iff.mp c2]
   simp [Builtin.Str.partsBetween]
  ·have:=PyProof.Rows.split_le x SP
   unfold PySem.Txt.split at this;rw [if_neg c1,if_neg c2] at this;lia
theorem deqs_one(w:Str):∀ws:List Str,deqs (ws.map D.str) [.str w]=decide (ws=[w])
 |[]=>rfl
 |[v]=>by simp [deqs,deq]
 |v::u::ws=>by simp [deqs]
section
variable {ad:Ad}{M0 M:Mem}{Q:DK}{E:DX}{δ:Dl}{r h b:Addr}{hd:List D}{bs:List (Addr×Addr)}{st:List Blk}{p:Addr×Addr}{B:Blk}{c:Int}
theorem st_split{D0:DEnds}{ws:List Str}(hw:Wf ws)(hδ:δ[1]?=some (some (.str (txt ws))))(h:D0.nx (δ.set 2 (some (.lst (ws.map D.str)))) M):
  dAsg (dFrz (dBM "str" mSplit (dVar 1) (dCons (dC (.str " ")) dNil))) (hName 2) D0 δ M:=by
 have eSP:Str.ofString " "=SP:=rfl;have hSP:(SP.length==0)=false:=by decide
 have hwl:=hw.len;simp_arith only [hδ,eSP,hSP,txt_split hw];refine ⟨⟨sz20 (by have:=txt_len hw;lia),sz20 (by lia),sz20 (by have:=pb_len hw;lia)⟩,fun p hpn=>?_⟩
 rw [Mem.upd_del,Mem.del_none hpn];exact h
theorem take_go{ws:List Str}(hw:Wf ws)(q:T_q11_8 ad (drpX E) { nx:=fun _ M'=>drp Q .non M',rt:=drp Q } [some (.ref r),some (.str (txt ws)),some (.lst (ws.map D.str)),none] M):S_q11 ad [.ref r,.str (txt ws)] M Q E:=by
 rw [u_q11 (n:=0)];unfold T_q11;exact seq_go0 (st_split hw rfl q)
theorem hl_e(S:St ad M0 r h b hd bs st p B c M)(h0:δ[0]?=some (some (.ref r))):∀K:DK,K (.int (hd.length:Nat)) M->dCB cLen (dCons (dFld ad.C_Reading (dVar 0) "head") dNil) δ M K:=fun K q=>by
 unfold dCB;refine dcons_go (head_e S h0 _ (dnil_go ?_));simp_arith only [S.hh];exact q
theorem h4_e:∀K:DK,K (.int 4) M->dCB cLen (dCons (dC (.mt [.str "wheel",.str "names",.str "pieces",.str "mark"])) dNil) δ M K:=fun K q=>by
 simp_arith only [];exact q
theorem eqW_c{i:Nat}{ws:List Str}{w:Str}{c:Bool}(hc:decide (ws=[w])=c)(h2:δ[i]?=some (some (.lst (ws.map D.str)))):∀K:Bool->Mem->Prop,K c M->dTest (dOp oEq (dVar i) (dFrz (dLst (dCons (dC (.str w)) dNil)))) δ M K:=fun K q=>by
 unfold dTest dOp;refine var0 h2 ?_;simp_arith only [];refine ⟨szl (by decide),fun p hp=>?_⟩
 rw [Mem.upd_del,Mem.del_none hp];rw [<- hc,<- deqs_one] at q;refine ⟨fits_strs ws,?_⟩;simpa only [fit,fits,deq,Bool.and_self,and_self,true_and,if_true] using q
theorem St.hput(S:St ad M0 r h b hd bs st p B c M)(d:D):St ad M0 r h b (hd++[d]) bs st p B c (M.upd h (.lst (hd++[d]))):=by
 have nd:=S.nd;simp only [List.nodup_cons,List.mem_cons,not_or] at nd;obtain ⟨⟨n1,_⟩,⟨n6,n7,n8,n9⟩,_⟩:=nd;refine ⟨by rw [Mem.upd_ne n1];exact S.rd,Mem.upd_same,by rw [Mem.upd_ne (Ne.symm n6)];exact S.bb,S.lo.go fun a ha=>Mem.upd_ne fun z=>n9 (z▸ha),S.top.go (Mem.upd_ne (Ne.symm n7)) (Mem.upd_ne (Ne.symm n8)),S.nd,fun a o q=>?_,S.new⟩
 have:a≠h:=fun z=>by rw [z,S.new h (by simp)] at q;cases q
 rw [Mem.upd_ne this];exact S.ext a o q
theorem takehead_spec{ws:List Str}{d:D}(S:St ad M0 r h b hd bs st p B c M)(hw:Wf ws)(hl:hd.length<4)(hn:isNon d=false)(hf:∀M Q,frz d M Q=Q d M)(hs:∀Q' E',Q' d M->S_q26 ad [.ref h,.lst (ws.map D.str)] M Q' E')
  (q:∀M',St ad M0 r h b (hd++[d]) bs st p B c M'->Q (.bl true) M'):S_q11 ad [.ref r,.str (txt ws)] M Q E:=by
 refine take_go hw ?_;refine seq_go0 (if_go (b:=true) (fun K q=>lt_c (hl_e S rfl) h4_e K (by rw [decide_eq_true (by lia)];exact q)) (fun _=>?_) fun e=>by cases e)
 refine seq_go0 (asg0 (frz_int (call_e (ds:=[.ref h,.lst (ws.map D.str)]) (fun K q=>dcons_go (head_e S rfl _ (dcons_go (var0 rfl (dnil_go q))))) rfl hs ?_)));rw [hf];dsimp only [List.set];refine seq_go0 (app_go (head_e S rfl) (var_e rfl) S.hh (by lia) ?_)
 dsimp only;refine ret_go ?_;unfold dOp;refine var0 rfl ?_;show drp Q (.bl (!isNon d)) _;rw [hn];exact drp_id (q _ (S.hput d))
theorem meth_e{K:DK}{C a:Addr}{mt:Str}{T:Sd}{EE:DX}{n:Nat}{ta:dTE}{t:dTA}{ds:List D}{fs:List (Str×D)}(ht:∀K:DK,K (.ref a) M->ta δ M K)(hM:M a=some (.ins C fs))(hf:fs.lookup mt=none)(ha:∀K:List D->Mem->Prop,K ds M->t δ M K)(hn:ds.length+1=n)
  (hs:∀Q' E',(∀d M',K d M'->Q' d M')->T (.ref a::ds) M Q' E'):dMeth C mt T EE n ta t δ M K:=by
 unfold dMeth;refine ht _ ?_;simp only [hM];exact ⟨trivial,hf,ha _ ⟨hn,calls_of fun Q' E' hq _=>hs Q' E' hq⟩⟩
theorem r_none{f:Str}{c:Int}(h1:f≠"head")(h2:f≠"blocks")(h3:f≠"count"):List.lookup f (rF h b c)=none:=by
 unfold rF;rw [lk_n h1,lk_n h2,lk_n h3];rfl
theorem wf_one{w:Str}(h:w.length<=1002/\32∉sg w):Wf [w]:=⟨by simp,by simp,fun x hx=>by rw [List.mem_singleton.mp hx];exact h⟩
theorem past_head{ws:List Str}(S:St ad M0 r h b hd bs st p B c M)(hw:Wf ws)(hl:hd.length=4)(q:T_q11_7 ad (drpX E) { nx:=fun _ M'=>drp Q .non M',rt:=drp Q } [some (.ref r),some (.str (txt ws)),some (.lst (ws.map D.str)),none] M):S_q11 ad [.ref r,.str (txt ws)] M Q E:=by
 refine take_go hw ?_;refine seq_go0 (if_go (b:=false) (fun K q=>lt_c (hl_e S rfl) h4_e K (by rw [decide_eq_false (by lia)];exact q)) (fun e=>by cases e) fun _=>?_)
 exact q
theorem takeelse_spec(S:St ad M0 r h b hd bs st p B c M)(hl:hd.length=4)(hw:B.w="if")(hf:B.first=none)(q:∀l M',St ad M0 r h b hd bs st (p.1,l) ⟨B.w,B.x,some B.rows,[]⟩ c M'->Q (.bl true) M'):S_q11 ad [.ref r,.str (txt ["else"])] M Q E:=by
 refine past_head S (wf_one (by decide +kernel)) hl ?_
 refine seq_go0 (if_go (eqW_c (c:=true) (decide_eq_true rfl) rfl) (fun _=>?_) fun e=>by cases e)
 exact ret_go (meth_e (ds:=[]) (var_e rfl) S.rd (r_none (by decide +kernel) (by decide +kernel) (by decide +kernel)) (fun K q=>q) rfl fun Q' E' hq=>turn_spec S hw hf fun l M' S'=>hq _ _ (drp_id (q l M' S')))
theorem takeend_spec{p1:Addr×Addr}{B1:Blk}(S:St ad M0 r h b hd (bs++[p1]) (st++[B1]) p B c M)(hl:hd.length=4)(hw:(B.w="if"/\B.first≠none)\/(B.w="again"/\B.first=none))(hl2:B1.rows.length<=100)
  (q:∀M',St ad M0 r h b hd bs st p1 ⟨B1.w,B1.x,B1.first,B1.rows++[clR B]⟩ c M'->Q (.bl true) M'):S_q11 ad [.ref r,.str (txt ["end"])] M Q E:=by
 refine past_head S (wf_one (by decide +kernel)) hl ?_
 refine seq_go0 (if_go (eqW_c (c:=false) (by decide +kernel) rfl) (fun e=>by cases e) fun _=>?_)
 dsimp only [dNext];refine seq_go0 (if_go (eqW_c (c:=true) (decide_eq_true rfl) rfl) (fun _=>?_) fun e=>by cases e)
 exact ret_go (meth_e (ds:=[]) (var_e rfl) S.rd (r_none (by decide +kernel) (by decide +kernel) (by decide +kernel)) (fun K q=>q) rfl fun Q' E' hq=>close_spec S hw hl2 fun M' S'=>hq _ _ (drp_id (q M' S')))
theorem takerow_go{ws:List Str}(S:St ad M0 r h b hd bs st p B c M)(hw:Wf ws)(hl:hd.length=4)(h2:2<=ws.length)(q:∀Q' E',(∀d M',Q d M'->Q' d M')->S_q0 ad [.ref r,.lst (ws.map D.str)] M Q' E'):S_q11 ad [.ref r,.str (txt ws)] M Q E:=by
 have no:∀w:Str,decide (ws=[w])=false:=fun w=>decide_eq_false fun z=>by rw [z] at h2;simp at h2
 refine past_head S hw hl ?_;refine seq_go0 (if_go (eqW_c (no _) rfl) (fun e=>by cases e) fun _=>?_)
 dsimp only [dNext];refine seq_go0 (if_go (eqW_c (no _) rfl) (fun e=>by cases e) fun _=>?_)
 dsimp only [dNext];exact ret_go (meth_e (ds:=[.lst (ws.map D.str)]) (var_e rfl) S.rd (r_none (by decide +kernel) (by decide +kernel) (by decide +kernel)) (fun K q=>dcons_go (var0 rfl (dnil_go q))) rfl fun Q' E' hq=>q Q' E' fun d M' z=>hq d M' (drp_id z))
theorem isdone_spec(S:St ad M0 r h b hd [] [] p B c M)(hl:hd.length=4)(q:Q (.bl true) M):S_q4 ad [.ref r] M Q E:=by
 rw [u_q4 (n:=0)];unfold T_q4;refine ret_go (andV_e (b:=true) (c:=true) (fun K q=>eqI_e (hl_e S rfl) h4_e (by rw [decide_eq_true (by lia)];exact q)) (fun _ K q=>eqI_e (a:=1) (fun K q=>?_) (fun K q=>q) (by rw [decide_eq_true rfl];exact q)) (drp_id q))
 unfold dCB;refine dcons_go (blocks_e S rfl _ (dnil_go ?_));simp_arith only [S.bb];exact q
end
end Tw
namespace Tw
open PySem L2 L3 LS PySem.NumText
theorem tx1(w:Str):txt [w]=w:=by
 unfold txt;rw [show PySem.Txt.join SP [w]=Str.join SP [w] from StrLaws.glued_eq_join SP _];unfold Str.join;rfl
theorem tx2(w v:Str)(l:List Str):txt (w::v::l)=w++(SP++txt (v::l)):=by
 unfold txt;rw [show PySem.Txt.join SP (w::v::l)=Str.join SP (w::v::l) from StrLaws.glued_eq_join SP _,show PySem.Txt.join SP (v::l)=Str.join SP (v::l) from StrLaws.glued_eq_join SP _]
 conv=>lhs;unfold Str.join
 exact sapp _ _ _
theorem e_eq:Str.ofString " = "=SP++(Str.ofString "="++SP):=by decide +kernel
theorem e_sp:Str.ofString " "=SP:=rfl
theorem e_if:Str.ofString "if "=Str.ofString "if"++SP:=by decide +kernel
theorem e_again:Str.ofString "again "=Str.ofString "again"++SP:=by decide +kernel
theorem e_piece:Str.ofString "piece "=Str.ofString "piece"++SP:=by decide +kernel
theorem e_pick:Str.ofString "pick "=Str.ofString "pick"++SP:=by decide +kernel
theorem Nm.wd{x:Str}(h:Nm x):x.length<=1002/\32∉sg x:=⟨by have:=h.l8;lia,fun z=>by have:=(h.low 32 z).1;lia⟩
theorem itx_wd{k:Int}(h0:0<=k)(h1:k<=1000):(itx k).length<=1002/\32∉sg (itx k):=⟨itx_len h0 h1,fun z=>by
 obtain ⟨n,rfl⟩:=Int.eq_ofNat_of_zero_le h0;rw [sg_itx] at z;have:=(digs_all n 32 z).1;lia⟩
theorem wf2{a b:Str}(ha:a.length<=1002/\32∉sg a)(hb:b.length<=1002/\32∉sg b):Wf [a,b]:=⟨by simp,by simp,by simp only [List.forall_mem_cons,List.not_mem_nil,false_imp_iff,implies_true,and_true];exact ⟨ha,hb⟩⟩
section
variable {names:List Str}{m many:Int}
theorem wdR_wf(hn:∀x∈names,Nm x)(m1:m<=997)(k1:many<=40){x:Rw}(ok:RwOk names m many x):Wf (wdR x)/\2<=(wdR x).length/\txR x=[txt (wdR x)]:=by
 cases x with
 |ifr=>exact ok.elim
 |again=>exact ok.elim
 |put x k=>
  obtain ⟨o1,o2,o3⟩:=ok;refine ⟨⟨by simp [wdR],by simp [wdR],?_⟩,by simp [wdR],?_⟩
  ·simp only [wdR,List.forall_mem_cons,List.not_mem_nil,false_imp_iff,implies_true,and_true]
   exact ⟨(hn x o1).wd,by decide +kernel,itx_wd o2 (by lia)⟩
  ·simp only [txR,wth,wdR,tx1,tx2,e_eq,sapp]
 |take x k=>
  obtain ⟨o1,o2,o3⟩:=ok;refine ⟨⟨by simp [wdR],by simp [wdR],?_⟩,by simp [wdR],?_⟩
  ·simp only [wdR,List.forall_mem_cons,List.not_mem_nil,false_imp_iff,implies_true,and_true]
   exact ⟨(hn x o1).wd,by decide +kernel,by decide +kernel,itx_wd o2 (by lia)⟩
  ·simp only [txR,wth,wdR,tx1,tx2,e_eq,e_piece,sapp]
 |pick x y=>
  obtain ⟨o1,o2,o3⟩:=ok;refine ⟨⟨by simp [wdR],by simp [wdR],?_⟩,by simp [wdR],?_⟩
  ·simp only [wdR,List.forall_mem_cons,List.not_mem_nil,false_imp_iff,implies_true,and_true]
   exact ⟨(hn x o1).wd,by decide +kernel,by decide +kernel,(hn y o2).wd⟩
  ·simp only [txR,wth,wdR,tx1,tx2,e_eq,e_pick,sapp]
 |two w x y z=>
  obtain ⟨o0,o1,o2,o3⟩:=ok;have hs:(sgn w).length<=1002/\32∉sg (sgn w):=by rcases o0 with rfl|rfl|rfl|rfl<;>decide +kernel
  refine ⟨⟨by simp [wdR],by simp [wdR],?_⟩,by simp [wdR],?_⟩
  ·simp only [wdR,List.forall_mem_cons,List.not_mem_nil,false_imp_iff,implies_true,and_true]
   exact ⟨(hn x o1).wd,by decide +kernel,(hn y o2).wd,hs,(hn z o3).wd⟩
  ·simp only [txR,wth,wdR,tx1,tx2,e_eq,e_sp,sapp]
end
noncomputable def Rd(ad:Ad)(M0:Mem)(r:Addr)(fin:Mem->Prop):List Str->Mem->Prop
 |[],M=>fin M
 |t::ts,M=>(∀a o,M0 a=some o->M a=some o)/\(∃h b c,M r=some (.ins ad.C_Reading (rF h b c)))/\∀(Q:DK) (E:DX),(∀M',Rd ad M0 r fin ts M'->Q (.bl true) M')->S_q11 ad [.ref r,.str t] M Q E
section
variable {ad:Ad}{M0:Mem}{fin:Mem->Prop}{r h b:Addr}{m many:Int}{names:List Str}{d4:D}
theorem cR_pos:∀x:Rw,1<=cR x:=fun x=>by cases x<;>simp only [cR]<;>lia
noncomputable def Go(ad:Ad)(M0:Mem)(r h b:Addr)(hd:List D)(fin:Mem->Prop)(bs:List (Addr×Addr))(st:List Blk)(B:Blk)(ts:List Str)(rows:List Rw)(k:Nat):Prop:=
 ∀(ts':List Str) (p:Addr×Addr) (c:Int) (M:Mem),St ad M0 r h b hd bs st p B c M->c+k<=60->(∀M',St ad M0 r h b hd bs st p ⟨B.w,B.x,B.first,B.rows++rows⟩ (c+k) M'->Rd ad M0 r fin ts' M')->Rd ad M0 r fin (ts++ts') M
theorem go_set(hn:∀x∈names,Nm x)(m1:m<=997)(k1:many<=40){x:Rw}(ok:RwOk names m many x){bs:List (Addr×Addr)}{st:List Blk}{B:Blk}(hB:B.rows.length+cR x<=100):Go ad M0 r h b (hdL m many names d4) fin bs st B (txR x) [x] (cR x):=fun ts' p c M S hc q=>by
 have w:=wdR_wf hn m1 k1 ok;have e:=cR_of ok;rw [w.2.2];refine ⟨S.ext,⟨_,_,_,S.rd⟩,fun Q E z=>takerow_go S w.1 rfl w.2.1 fun Q' E' hq=>takeset_spec S ok m1 k1 (by lia) (by lia) fun M' S'=>hq _ _ (z M' (q M' ?_))⟩
 rw [e];exact S'
mutual
theorem goR(hn:∀x∈names,Nm x)(m1:m<=997)(k1:many<=40):∀(x:Rw),OkR names m many x->∀(bs:List (Addr×Addr)) (st:List Blk) (B:Blk),bs.length+hR x<=4->B.rows.length+cR x<=100->Go ad M0 r h b (hdL m many names d4) fin bs st B (txR x) [x] (cR x)
 |.put x k,ok,bs,st,B,h1,h2=>go_set (x:=.put x k) hn m1 k1 ok h2
 |.take x k,ok,bs,st,B,h1,h2=>go_set (x:=.take x k) hn m1 k1 ok h2
 |.pick x y,ok,bs,st,B,h1,h2=>go_set (x:=.pick x y) hn m1 k1 ok h2
 |.two w x y z,ok,bs,st,B,h1,h2=>go_set (x:=.two w x y z) hn m1 k1 ok h2
 |.ifr x a a',ok,bs,st,B,h1,h2=>fun ts' p c M S hc q=>by
  obtain ⟨o1,o2,o3⟩:=ok;simp only [hR,cR] at h1 h2 hc q;have eT:txR (.ifr x a a')++ts'=txt ["if",x]::(txRs a++(txt ["else"]::(txRs a'++(txt ["end"]::ts')))):=by simp only [txR,tx1,tx2,e_if,sapp,List.cons_append,List.append_assoc,List.nil_append]
  rw [eT];refine ⟨S.ext,⟨_,_,_,S.rd⟩,fun Q E z=>takerow_go S (wf2 (by decide +kernel) (hn x o1).wd) rfl (by simp) fun Q' E' hq=>takeblk_spec S (.inl rfl) o1 (by lia) (by lia) fun a1 l M' S'=>hq _ _ (z M' ?_)⟩
  refine goRs hn m1 k1 a o2 _ _ _ (by simp;lia) (by simp;lia) _ _ _ _ S' (by lia) fun M1 S1=>?_
  refine ⟨S1.ext,⟨_,_,_,S1.rd⟩,fun Q E z=>takeelse_spec S1 rfl rfl rfl fun l2 M2 S2=>z M2 ?_⟩;refine goRs hn m1 k1 a' o3 _ _ _ (by simp;lia) (by simp;lia) _ _ _ _ S2 (by lia) fun M3 S3=>?_
  refine ⟨S3.ext,⟨_,_,_,S3.rd⟩,fun Q E z=>takeend_spec S3 rfl (.inl ⟨rfl,by simp⟩) (by lia) fun M4 S4=>z M4 (q M4 ?_)⟩
  have e:c+1+(cRs a:Int)+(cRs a':Int)=c+((1+cRs a+cRs a':Nat):Int):=by lia
  rw [e] at S4;exact S4
 |.again x a,ok,bs,st,B,h1,h2=>fun ts' p c M S hc q=>by
  obtain ⟨o1,o2⟩:=ok;simp only [hR,cR] at h1 h2 hc q;have eT:txR (.again x a)++ts'=txt ["again",x]::(txRs a++(txt ["end"]::ts')):=by simp only [txR,tx1,tx2,e_again,sapp,List.cons_append,List.append_assoc,List.nil_append]
  rw [eT];refine ⟨S.ext,⟨_,_,_,S.rd⟩,fun Q E z=>takerow_go S (wf2 (by decide +kernel) (hn x o1).wd) rfl (by simp) fun Q' E' hq=>takeblk_spec S (.inr rfl) o1 (by lia) (by lia) fun a1 l M' S'=>hq _ _ (z M' ?_)⟩
  refine goRs hn m1 k1 a o2 _ _ _ (by simp;lia) (by simp;lia) _ _ _ _ S' (by lia) fun M1 S1=>?_
  refine ⟨S1.ext,⟨_,_,_,S1.rd⟩,fun Q E z=>takeend_spec S1 rfl (.inr ⟨rfl,rfl⟩) (by lia) fun M4 S4=>z M4 (q M4 ?_)⟩
  have e:c+1+(cRs a:Int)=c+((1+cRs a:Nat):Int):=by lia
  rw [e] at S4;exact S4
theorem goRs(hn:∀x∈names,Nm x)(m1:m<=997)(k1:many<=40):∀(rows:List Rw),OkRs names m many rows->∀(bs:List (Addr×Addr)) (st:List Blk) (B:Blk),bs.length+hRs rows<=4->B.rows.length+cRs rows<=100->Go ad M0 r h b (hdL m many names d4) fin bs st B (txRs rows) rows (cRs rows)
 |[],_,bs,st,B,h1,h2=>fun ts' p c M S hc q=>q M (by simpa [cRs] using S)
 |x::rs,ok,bs,st,B,h1,h2=>fun ts' p c M S hc q=>by
  simp only [hRs,cRs] at h1 h2 hc q;have:=cR_pos x;rw [txRs,List.append_assoc];refine goR hn m1 k1 x ok.1 bs st B (by lia) (by lia) _ _ _ _ S (by lia) fun M1 S1=>?_
  refine goRs hn m1 k1 rs ok.2 bs st _ (by lia) (by simp;lia) _ _ _ _ S1 (by lia) fun M2 S2=>q M2 ?_
  have e:c+(cR x:Int)+(cRs rs:Int)=c+((cR x+cRs rs:Nat):Int):=by lia
  rw [e] at S2;simpa using S2
end
end
end Tw
namespace Tw
open PySem L2 L3 LS PySem.NumText
structure RdP(m many:Int)(names:List Str)(rows:List Rw)(mk:Str):Prop where
 m2:2<=m
 m1:m<=997
 k0:0<=many
 k1:many<=40
 nn:∀x∈names,Nm x
 nd:names.Nodup
 n0:1<=names.length
 n1:names.length<=12
 ok:OkRs names m many rows
 h:hRs rows<=4
 c:cRs rows<=60
 mkm:mk∈names
theorem e_wheel:Str.ofString "wheel "=Str.ofString "wheel"++SP:=by decide +kernel
theorem e_names:Str.ofString "names "=Str.ofString "names"++SP:=by decide +kernel
theorem e_pieces:Str.ofString "pieces "=Str.ofString "pieces"++SP:=by decide +kernel
theorem e_mark:Str.ofString "mark "=Str.ofString "mark"++SP:=by decide +kernel
theorem plT_tx{m many:Int}{names:List Str}{rows:List Rw}{mk:Str}(n0:1<=names.length):plT m many names rows mk=txt ["wheel",itx m]::txt (Str.ofString "names"::names)::txt ["pieces",itx many]::txt ["mark",mk]::txRs rows:=by
 have e:Str.ofString "names "++PySem.Txt.join (Str.ofString " ") names=txt (Str.ofString "names"::names):=by
  cases names with
  |nil=>simp at n0
  |cons v l=>rw [tx2,e_names,sapp];rfl
 unfold plT;rw [e];simp only [tx1,tx2,e_wheel,e_pieces,e_mark,sapp]
section
variable {ad:Ad}{M0 M:Mem}{Q:DK}{E:DX}{δ:Dl}{r h b:Addr}{m many:Int}{names:List Str}{rows:List Rw}{mk:Str}{p:Addr×Addr}
noncomputable def Fin(ad:Ad)(M0:Mem)(r h b:Addr)(p:Addr×Addr)(m many:Int)(names:List Str)(rows:List Rw)(mk:Str)(M:Mem):Prop:=∃c,St ad M0 r h b (hdL m many names (.str mk)) [] [] p ⟨"top","",none,rows⟩ c M
theorem read_all(P:RdP m many names rows mk)(S:St ad M0 r h b [] [] [] p ⟨"top","",none,[]⟩ 0 M):Rd ad M0 r (Fin ad M0 r h b p m many names rows mk) (plT m many names rows mk) M:=by
 have m2:=P.m2;have m1:=P.m1;have k0:=P.k0;have k1:=P.k1;obtain ⟨n,rfl⟩:=Int.eq_ofNat_of_zero_le (show 0<=m by lia)
 obtain ⟨k,rfl⟩:=Int.eq_ofNat_of_zero_le k0;rw [plT_tx P.n0];refine ⟨S.ext,⟨_,_,_,S.rd⟩,fun Q E z=>takehead_spec (d:=.int (n:Nat)) S (wf2 (by decide +kernel) (itx_wd (by lia) (by lia))) (by simp) rfl (fun _ _=>rfl) (fun Q' E' z=>head_wheel S.hh (by lia) (by lia) z) fun M1 S1=>z M1 ?_⟩
 refine ⟨S1.ext,⟨_,_,_,S1.rd⟩,fun Q E z=>takehead_spec (d:=.tup (names.map D.str)) S1 ⟨by simp,by have:=P.n1;simp;lia,fun w hw=>?_⟩ (by simp) rfl (fun _ _=>rfl) (fun Q' E' z=>head_names S1.hh P.nn P.nd P.n0 P.n1 z) fun M2 S2=>z M2 ?_⟩
 ·rcases List.mem_cons.mp hw with rfl|hw
  ·decide +kernel
  ·exact (P.nn w hw).wd
 refine ⟨S2.ext,⟨_,_,_,S2.rd⟩,fun Q E z=>takehead_spec (d:=.int (k:Nat)) S2 (wf2 (by decide +kernel) (itx_wd (by lia) (by lia))) (by simp) rfl (fun _ _=>rfl) (fun Q' E' z=>head_pieces S2.hh (by lia) z) fun M3 S3=>z M3 ?_⟩
 refine ⟨S3.ext,⟨_,_,_,S3.rd⟩,fun Q E z=>takehead_spec (d:=.str mk) S3 (wf2 (by decide +kernel) (P.nn mk P.mkm).wd) (by simp) rfl (fun _ _=>rfl) (fun Q' E' z=>head_mark S3.hh P.mkm z) fun M4 S4=>z M4 ?_⟩
 have:=goRs (fin:=Fin ad M0 r h b p n k names rows mk) P.nn m1 k1 rows P.ok [] [] ⟨"top","",none,[]⟩ (by have:=P.h;simp;lia) (by have:=P.c;simp;lia) [] p 0 M4 S4 (by have:=P.c;lia) fun M5 S5=>⟨_,S5⟩
 rw [List.append_nil] at this;exact this
theorem rmake_e{EE:DX}{K:DK}(q:∀r h b a l M',St ad M r h b [] [] [] (a,l) ⟨"top","",none,[]⟩ 0 M'->K (.ref r) M'):dMake ad.C_Reading (S_q1 ad) EE 1 dNil δ M K:=by
 unfold dMake;exact dnil_go ⟨rfl,fun r hr=>calls_of fun Q' E' hq _=>rinit_spec hr fun h b a l M' S=>hq _ _ (q r h b a l M' S)⟩
theorem bx0_e{hd:List D}{B:Blk}{c:Int}(S:St ad M0 r h b hd [] [] p B c M){i:Nat}(h0:δ[i]?=some (some (.ref r))):∀K:DK,K (.ref p.1) M->dOp oIx (dFld ad.C_Reading (dVar i) "blocks") (dC (.int 0)) δ M K:=fun K q=>by
 unfold dOp;refine blocks_e S h0 _ ?_;simp_arith only [S.bb];exact q
theorem readplan_spec(P:RdP m many names rows mk){d:D}(hd:d=.lst ((plT m many names rows mk).map D.str)\/∃a,d=.ref a/\M0 a=some (.lst ((plT m many names rows mk).map D.str)))
  (q:∀M',(∀a o,M0 a=some o->M' a=some o)->Q (plnD m many names rows mk) M'):S_q25 ad [d] M0 Q E:=by
 rw [u_q25 (n:=0)];unfold T_q25;refine seq_go0 (asg0 (rmake_e fun r h b a l M1 S1=>?_));dsimp only [List.set];refine seq_go0 ?_;have hok:∀M,(∀a o,M0 a=some o->M a=some o)->seqD M d=some ((plT m many names rows mk).map D.str)/\∀q∈srcOf d ((plT m many names rows mk).map D.str),M q.1=some (.lst q.2):=fun M e=>by
  rcases hd with rfl|⟨a,rfl,ha⟩
  ·exact ⟨rfl,fun q hq=>by cases hq⟩
  ·refine ⟨by simp only [seqD,e a _ ha],fun q hq=>?_⟩
   rw [List.mem_singleton.mp hq];exact e a _ ha
 unfold dFor wEnum;refine dcons_go (var0 rfl (dnil_go ?_));simp only [(hok M1 S1.ext).1];refine forD_inv (fun xs δ M=>∃(i:Nat) (ts:List Str) (c2 c3:Option D),xs=((ts.map D.str).zipIdx i).map (fun p=>D.tup [.int (p.2:Nat),p.1])/\δ=[some d,some (.ref r),c2,c3,none]/\Rd ad M0 r (Fin ad M0 r h b (a,l) m many names rows mk) ts M) (fun xs δ M H=>?_) (fun δ M H=>?_) (fun x xs δ M H D' hnx _ _ _=>?_) _ _ _ ⟨0,_,none,none,rfl,rfl,read_all P S1⟩
 ·obtain ⟨i,ts,c2,c3,_,_,R⟩:=H
  refine (hok M ?_).2;cases ts with
  |nil=>obtain ⟨c,S⟩:=R;exact S.ext
  |cons t ts=>exact R.1
 ·obtain ⟨i,ts,c2,c3,e1,rfl,R⟩:=H
  have:ts=[]:=by cases ts with
   |nil=>rfl
   |cons t ts=>simp at e1
  subst this;obtain ⟨c,S⟩:=R;dsimp only;refine seq_go0 (if_go (b:=false) (not_c (b:=true) (tru_c (frzB fun K q=>meth_e (ds:=[]) (var_e rfl) S.rd (r_none (by decide +kernel) (by decide +kernel) (by decide +kernel)) (fun K q=>q) rfl fun Q' E' hq=>isdone_spec S rfl (hq _ _ q)))) (fun e=>by cases e) fun _=>?_)
  dsimp only [dNext];refine seq_go0 (asg0 (head_e S rfl _ ?_));dsimp only [List.set];refine ret_go (tup_go (dcons_go (hx_e (j:=0) rfl S.hh rfl (dcons_go (hx_e (j:=1) rfl S.hh rfl (dcons_go (hx_e (j:=2) rfl S.hh rfl (dcons_go (tupR_e (fld_e (bx0_e S rfl) S.top.1 b_rows) S.top.2 _ (dcons_go (hx_e (j:=3) rfl S.hh rfl (dnil_go ⟨(szl (by decide):5<=sizeLine),drp_id (q M S.ext)⟩))))))))))))
 ·obtain ⟨i,ts,c2,c3,e1,rfl,R⟩:=H
  cases ts with
  |nil=>simp at e1
  |cons t ts=>
   rw [List.map_cons,List.zipIdx_cons,List.map_cons,List.cons.injEq] at e1;obtain ⟨rfl,rfl⟩:=e1;obtain ⟨_,⟨h',b',c',hr⟩,ht⟩:=R;refine ⟨rfl,?_⟩;show T_q25_1 ad (drpX E) D' [some d,some (.ref r),some (.int (i:Nat)),some (.str t),none] M;unfold T_q25_1 dIfS dNot dTru dFrz;refine meth_e (ds:=[.str t]) (var_e rfl) hr (r_none (by decide +kernel) (by decide +kernel) (by decide +kernel)) (fun K q=>dcons_go (var0 rfl (dnil_go q))) rfl fun Q' E' hq=>ht Q' E' fun M' R'=>hq _ _ ?_
   exact hnx _ _ ⟨i+1,ts,_,_,rfl,rfl,R'⟩
end
end Tw
namespace Tw
open PySem L2 L3 LS PySem.NumText
theorem one_nm{x:Str}(h:OneC x):Nm x:=by
 obtain ⟨n,c,h1,h2,h3,h4,rfl⟩:=h;refine ⟨by show 1<=Array.size _;simp;lia,by show Array.size _<=8;simp;lia,fun d hd=>?_⟩
 simp at hd;lia
theorem words_nm:∀x∈wordsL,Nm x:=fun x hx=>by
 have h:∀x∈wordsL,1<=x.length/\x.length<=8/\∀c∈x.cps.toList,97<=c/\c<=122:=by decide +kernel
 obtain ⟨a,b,c⟩:=h x hx;exact ⟨a,b,c⟩
theorem ph_snd:∀{l:List (Str×Str)},(l.map (·.1)).Nodup->(l.map (·.1)).map (ph l)=l.map (·.2)
 |[],_=>rfl
 |p::l,h=>by
  rw [List.map_cons,List.nodup_cons] at h;have e:(l.map (·.1)).map (ph (p::l))=(l.map (·.1)).map (ph l):=List.map_congr_left fun x hx=>by
   have:p.1≠x:=fun z=>h.1 (z▸hx);simp [ph,this]
  rw [List.map_cons,List.map_cons,List.map_cons,e,ph_snd h.2];simp [ph]
section
variable {m many:Int}{names:List Str}{l:List (Str×Str)}
theorem mm{x:Str}(h:x∈names):ph l x∈names.map (ph l):=List.mem_map.mpr ⟨x,h,rfl⟩
mutual
theorem mR_ok:∀r:Rw,OkR names m many r->OkR (names.map (ph l)) m many (mR l r)
 |.ifr x a b,h=>by simp only [OkR,mR] at h ⊢;exact ⟨mm h.1,mRs_ok a h.2.1,mRs_ok b h.2.2⟩
 |.again x a,h=>by simp only [OkR,mR] at h ⊢;exact ⟨mm h.1,mRs_ok a h.2⟩
 |.put x k,h=>by simp only [OkR,RwOk,mR] at h ⊢;exact ⟨mm h.1,h.2⟩
 |.take x k,h=>by simp only [OkR,RwOk,mR] at h ⊢;exact ⟨mm h.1,h.2⟩
 |.pick x y,h=>by simp only [OkR,RwOk,mR] at h ⊢;exact ⟨mm h.1,mm h.2.1,h.2.2⟩
 |.two w x y z,h=>by simp only [OkR,RwOk,mR] at h ⊢;exact ⟨h.1,mm h.2.1,mm h.2.2.1,mm h.2.2.2⟩
theorem mRs_ok:∀a:List Rw,OkRs names m many a->OkRs (names.map (ph l)) m many (mRs l a)
 |[],_=>trivial
 |r::a,o=>⟨mR_ok r o.1,mRs_ok a o.2⟩
end
theorem plg_rd{rows:List Rw}{mk:Str}(pl:PlG m many names rows mk):RdP m many names rows mk:=
 ⟨pl.t.m2,pl.t.m1,pl.t.k0,pl.t.k1,fun x hx=>one_nm (pl.one x hx),pl.nd,by have:=pl.t.n0;lia,pl.t.n1,pl.ok,pl.h,pl.cn,pl.mkm⟩
theorem wd_rd{rows:List Rw}{mk:Str}(pl:PlG m many names rows mk)(w:Wd names l):RdP m many (names.map (ph l)) (mRs l rows) (ph l mk):=
 ⟨pl.t.m2,pl.t.m1,pl.t.k0,pl.t.k1,fun x hx=>by
  obtain ⟨y,hy,rfl⟩:=List.mem_map.mp hx;obtain ⟨q,hq,e⟩:=ph_mem (l:=l) (x:=y) (by rw [w.k];exact hy)
  rw [e];rcases w.w q hq with z|z
  ·exact words_nm _ z
  ·rw [z]
   exact one_nm (pl.one _ (by rw [<- w.k];exact List.mem_map.mpr ⟨q,hq,rfl⟩)),by
  have:=w.nd;rw [<- ph_snd (by rw [w.k];exact pl.nd),w.k] at this
  exact this,by rw [List.length_map];have:=pl.t.n0;lia,by rw [List.length_map];exact pl.t.n1,mRs_ok _ pl.ok,by rw [mRs_h];exact pl.h,by rw [mRs_c];exact pl.cn,mm pl.mkm⟩
end
end Tw
namespace Tw
open PySem L2 L3 LS
mutual
theorem okv_row:∀(r:Rw) (n:Nat),2*hR r+1<=n->cR r<=60->okv n r.d
 |.ifr x a b,n,h,c=>by
  simp only [hR,cR] at h c;obtain ⟨n,rfl⟩:∃k,n=k+3:=⟨n-3,by lia⟩
  refine ⟨by simp,fun y hy=>?_⟩
  simp only [List.mem_cons,List.not_mem_nil,or_false] at hy;rcases hy with rfl|rfl|rfl|rfl
  ·trivial
  ·trivial
  ·exact okv_rows a _ (by lia) (by lia)
  ·exact okv_rows b _ (by lia) (by lia)
 |.again x a,n,h,c=>by
  simp only [hR,cR] at h c;obtain ⟨n,rfl⟩:∃k,n=k+3:=⟨n-3,by lia⟩
  refine ⟨by simp,fun y hy=>?_⟩
  simp only [List.mem_cons,List.not_mem_nil,or_false] at hy;rcases hy with rfl|rfl|rfl
  ·trivial
  ·trivial
  ·exact okv_rows a _ (by lia) (by lia)
 |.put x k,n+1,_,_=>by
  refine ⟨by simp,fun y hy=>?_⟩
  simp only [List.mem_cons,List.not_mem_nil,or_false] at hy;rcases hy with rfl|rfl|rfl<;>cases n<;>trivial
 |.take x k,n+1,_,_=>by
  refine ⟨by simp,fun y hy=>?_⟩
  simp only [List.mem_cons,List.not_mem_nil,or_false] at hy;rcases hy with rfl|rfl|rfl<;>cases n<;>trivial
 |.pick x k,n+1,_,_=>by
  refine ⟨by simp,fun y hy=>?_⟩
  simp only [List.mem_cons,List.not_mem_nil,or_false] at hy;rcases hy with rfl|rfl|rfl<;>cases n<;>trivial
 |.two w x y z,n+1,_,_=>by
  refine ⟨by simp,fun y hy=>?_⟩
  simp only [List.mem_cons,List.not_mem_nil,or_false] at hy;rcases hy with rfl|rfl|rfl|rfl<;>cases n<;>trivial
theorem okv_rows:∀(a:List Rw) (n:Nat),2*hRs a+1<=n->cRs a<=60->okv (n+1) (.tup (rowsD a))
 |[],n,_,_=>⟨by simp [rowsD],fun x hx=>by simp [rowsD] at hx⟩
 |r::a,n,h,c=>by
  simp only [hRs,cRs] at h c;have h1:=okv_row r n (by lia) (by lia)
  obtain ⟨h2,h3⟩:=okv_rows a n (by lia) (by lia)
  have hl:(rowsD a).length<=60:=by rw [rowsD_map,List.length_map];have:=cRs_ge a;lia
  refine ⟨by simp only [rowsD,List.length_cons];lia,fun x hx=>?_⟩
  simp only [rowsD,List.mem_cons] at hx;rcases hx with rfl|hx
  ·exact h1
  ·exact h3 x hx
end
section
variable {ad:Ad}{M:Mem}{Q:DK}{E:DX}{m many:Int}{names:List Str}{rows:List Rw}{mk:Str}
theorem okv_pln(p:RdP m many names rows mk):okv 23 (plnD m many names rows mk):=by
 have h:=p.h;have n1:=p.n1;refine ⟨by simp,fun y hy=>?_⟩
 simp only [List.mem_cons,List.not_mem_nil,or_false] at hy;rcases hy with rfl|rfl|rfl|rfl|rfl
 ·trivial
 ·refine ⟨by rw [List.length_map];lia,fun x hx=>?_⟩
  obtain ⟨s,_,rfl⟩:=List.mem_map.mp hx;trivial
 ·trivial
 ·exact okv_rows rows 21 (by lia) p.c
 ·trivial
theorem alike_ref{n:Nat}{l:Addr}{xs:List D}(hl:M l=some (.lst xs))(ho:okv (n+1) (.lst xs))(h:Q (.bl true) M):S_q19 ad (n+2) [.ref l,.lst xs] M Q E:=by
 obtain ⟨hlen,hx⟩:=ho;have hsrc:∀ys,DIt.ok ⟨ys,[(l,xs)]++[]⟩ M:=fun ys p hp=>by simp at hp;subst hp;exact hl
 simp_arith only [u_q19,T_q19,i6,i7,i8,i9,i10,t1,t2,t3,t4,t5,dComp,hl];rw [if_neg (by decide),if_neg (by decide),if_neg (by decide)]
 refine compD_inv (fun ys acc δ M'=>∃(zs:List D) (j:Nat) (c0 c1:Option D),ys=zs.map (fun z=>D.tup [z,z])/\(∀z∈zs,okv n z)/\zs.length+j<=100000/\acc=List.replicate j (.bl true)/\δ=[c0,c1]/\M'=M) (fun _ _ _ _ z=>by obtain ⟨_,_,_,_,_,_,_,_,_,e⟩:=z;subst e;exact hsrc _) ?_ ?_ ?_ _ _ _ _ ⟨xs,0,none,none,zip_self xs,hx,by lia,rfl,rfl,rfl⟩
 ·rintro acc δ M' ⟨zs,j,c0,c1,e1,e2,e3,rfl,rfl,rfl⟩ p hpn
  simp_arith only [Mem.upd_del,Mem.del_none hpn,bools_true,all_true];exact drp_id h
 ·rintro y ys acc δ M' ⟨zs,j,c0,c1,e1,e2,e3,rfl,rfl,rfl⟩ N hN _
  cases zs with
  |nil=>simp at e1
  |cons z zs=>
   simp only [List.map_cons,List.cons.injEq] at e1;obtain ⟨rfl,rfl⟩:=e1;simp only [List.length_cons] at e3;simp_arith only [];refine calls_ro (d:=.bl true) (fun Q' E' q=>alike_spec n z M' Q' E' (e2 z (List.mem_cons_self ..)) q) ?_;simp_arith only [];exact hN _ _ _ (by simp;exact szs (by lia)) ⟨zs,j+1,_,_,rfl,fun w hw=>e2 w (List.mem_cons_of_mem _ hw),by lia,by rw [List.replicate_succ'],rfl,rfl⟩
 ·rintro y ys acc δ M' ⟨zs,j,c0,c1,e1,e2,e3,rfl,rfl,rfl⟩
  simp;exact szs (by lia)
end
theorem okv_strs{n:Nat}{ss:List Str}(h:ss.length<=1000):okv (n+1) (.lst (ss.map D.str)):=by
 refine ⟨by simp;lia,fun x hx=>?_⟩
 simp only [List.mem_map] at hx;obtain ⟨y,_,rfl⟩:=hx;cases n<;>trivial
theorem plT_len{m many:Int}{names:List Str}{rows:List Rw}{mk:Str}(sp:SmP m many names rows mk):(plT m many names rows mk).length<=1000:=by
 have:=txRs_len rows;have hc:=sp.c;simp only [plT,List.length_cons];lia
theorem tail_go{ad:Ad}{x0:D}{p:Addr}{M:Mem}{m many:Int}{names:List Str}{rows:List Rw}{mk:Str}(sp:SmP m many names rows mk)(rd:RdP m many names rows mk):T_law_7 ad (drpX NoX) { nx:=fun _ M'=>drp (fun d _=>d=D.bl true) D.non M',rt:=drp fun d _=>d=D.bl true } [some x0,some (.ref p),some (plnD m many names rows mk),none,none,none] M:=by
 have hln:=plT_len sp;have okp:=okv_pln rd;simp_arith only [];refine calls_of fun Q' E' hq _=>plantexts_spec sp fun q1 h1=>hq _ _ ?_;simp_arith only [Mem.upd_del,Mem.del_none h1];intro l hl;refine calls_of fun Q' E' hq _=>readplan_spec rd (.inr ⟨l,rfl,Mem.upd_same⟩) fun M5 e5=>hq _ _ ?_;have el:=e5 l _ Mem.upd_same;simp_arith only [plnD];refine alike_call rfl okp ?_;simp_arith only [];refine calls_ro (d:=.bl true) (fun Q' E' q=>alike_ref (n:=22) el (okv_strs hln) q) ?_;simp_arith only [el];refine alike_call rfl okp ?_;simp_arith only [];refine calls_of fun Q' E' hq _=>readplan_spec rd (.inl rfl) fun M6 e6=>hq _ _ ?_;simp_arith only [plnD];refine calls_of fun Q' E' hq _=>planrows_spec sp fun q3 h3=>hq _ _ ?_;simp_arith only [Mem.upd_del,Mem.del_none h3];refine alike_call rfl (okv_strs (n:=22) hln) ?_;exact ⟨_,fun _ _ e=>e,rfl⟩
theorem law_holds(ad:Ad)(ns:List Int)(hl:ns.length<=63):S_law ad [.ml (ns.map D.int)] (fun _=>none) (fun d _=>d=.bl true) NoX:=by
 simp_arith only [u_law,T_law];refine pot_call fun k M1 h1 _=>?_;simp_arith only [];refine plan_call (by decide) (by decide) h1 fun m many names rows mk M2 pl k2=>?_
 simp_arith only [plnD];refine draw_call k2.1 (by decide) (by decide) fun x3 M3 a3 b3 d3=>?_
 have rd0:=plg_rd pl
 have sp0:SmP m many names rows mk:={
  m0:=by have:=pl.t.m2;lia
  m1:=by have:=pl.t.m1;lia
  k0:=pl.t.k0
  k1:=by have:=pl.t.k1;lia
  n0:=fun z=>by have:=pl.t.n0;rw [z] at this;simp at this
  n1:=pl.t.n1
  ns:=fun x hx=>one_sh (pl.one x hx)
  r:=okRs_sm (fun x hx=>one_sh (pl.one x hx)) (by have:=pl.t.m1;lia) (by have:=pl.t.k1;lia) rows pl.ok
  h:=pl.h
  c:=pl.cn
  hk:=one_sh (pl.one mk pl.mkm) }
 simp_arith only []
 by_cases c:x3=0
 ·rw [if_pos c]
  refine calls_of fun Q' E' hq _=>worded_spec d3.1 pl fun l M4 wd sp=>hq _ _ ?_;have rd:=wd_rd pl wd;exact tail_go sp rd
 ·rw [if_neg c]
  have hln:=plT_len sp0;have okp:=okv_pln rd0;refine calls_of fun Q' E' hq _=>plantexts_spec sp0 fun q1 h1=>hq _ _ ?_;simp_arith only [Mem.upd_del,Mem.del_none h1];intro l hl;refine calls_of fun Q' E' hq _=>readplan_spec rd0 (.inr ⟨l,rfl,Mem.upd_same⟩) fun M5 e5=>hq _ _ ?_;have el:=e5 l _ Mem.upd_same;simp_arith only [plnD];refine alike_call rfl okp ?_;simp_arith only [];refine calls_ro (d:=.bl true) (fun Q' E' q=>alike_ref (n:=22) el (okv_strs hln) q) ?_;simp_arith only [el];refine alike_call rfl okp ?_;simp_arith only [];refine calls_of fun Q' E' hq _=>readplan_spec rd0 (.inl rfl) fun M6 e6=>hq _ _ ?_;simp_arith only [plnD];refine calls_of fun Q' E' hq _=>planrows_spec sp0 fun q3 h3=>hq _ _ ?_;simp_arith only [Mem.upd_del,Mem.del_none h3];refine alike_call rfl (okv_strs (n:=22) hln) ?_;exact ⟨_,fun _ _ e=>e,rfl⟩
end Tw
namespace Tw
open PySem L2 L3
noncomputable def spTop(K:PySem.W.Frag):Sp:=fun vs H Q _=>∃(a:Addr) (ns:List Int),vs=[.ref a]/\Only H/\SqL K H a (ns.map V.int)/\ns.length<=63/\∀H',Q (.bl true) H'
theorem us1{α:Type}{P:List α->Prop}(h:∀a0,P [a0]):∀us:List α,us.length=1->P us
 |[a0],_=>h a0
theorem us2{α:Type}{P:List α->Prop}(h:∀a0 a1,P [a0,a1]):∀us:List α,us.length=2->P us
 |[a0,a1],_=>h a0 a1
theorem us3{α:Type}{P:List α->Prop}(h:∀a0 a1 a2,P [a0,a1,a2]):∀us:List α,us.length=3->P us
 |[a0,a1,a2],_=>h a0 a1 a2
theorem us4{α:Type}{P:List α->Prop}(h:∀a0 a1 a2 a3,P [a0,a1,a2,a3]):∀us:List α,us.length=4->P us
 |[a0,a1,a2,a3],_=>h a0 a1 a2 a3
theorem us5{α:Type}{P:List α->Prop}(h:∀a0 a1 a2 a3 a4,P [a0,a1,a2,a3,a4]):∀us:List α,us.length=5->P us
 |[a0,a1,a2,a3,a4],_=>h a0 a1 a2 a3 a4
theorem all_mk{l:PySem.W.OpenLaw}{w:World}{K:PySem.W.Frag}{h:Heap}{mg:Str->Option Value}{fa C_Block C_Reading f1 f2 f3 f4 f5 f6 f7 f8 f9 f10 f11 f12 f13 f14 f15 f16 f17 f18 f19 f20 f21 f22 f23 f24 f25 f26 f27 f28 f29 f30 f31 f32 f33:Addr}(X:K.In h)(G:h.Ns mainGlobals mg)(hfa:mg "law"=some (.ref fa))
  {tk_LEAST_WHEEL tk_MOST_LETTERS tk_MOST_NAMES tk_MOST_PIECES tk_MOST_ROWS tk_MOST_WHEEL tk_MOST_WITHIN tk_SIGNS_0 tk_SIGNS_1 tk_SIGNS_2 tk_SIGNS_3 tk_WORDS_0 tk_WORDS_1 tk_WORDS_2 tk_WORDS_3 tv_SIGNS_0 tv_SIGNS_1 tv_SIGNS_2 tv_SIGNS_3 tv_WORDS_0 tv_WORDS_1 tv_WORDS_2 tv_WORDS_3 tm_HEAD_0 tm_HEAD_1 tm_HEAD_2 tm_HEAD_3:Tok} {ep_SIGNS ep_WORDS em_HEAD:Nat} {g_SIGNS g_WORDS g_HEAD:Addr}
  {od1 an1 od2 an2 od3 an3 od4 an4 od5 an5 od6 an6 od7 an7 od8 an8 od9 an9 od10 an10 od11 an11 od12 an12 od13 an13 od14 an14 od15 an15 od16 an16 od17 an17 od18 an18 od19 an19 od20 an20 od21 an21 od22 an22 od23 an23 od24 an24 od25 an25 od26 an26 od27 an27 od28 an28 od29 an29 od30 an30 od31 an31 od32 an32 od33 an33:Option Addr} {sl1 sl2 sl3 sl4 sl5 sl6 sl7 sl8 sl9 sl10 sl11 sl12 sl13 sl14 sl15 sl16 sl17 sl18 sl19 sl20 sl21 sl22 sl23 sl24 sl25 sl26 sl27 sl28 sl29 sl30 sl31 sl32 sl33:Array (Option Value)} {oc1 kV1 dc1 pm1 cd1 ct1 oc2 kV2 dc2 pm2 cd2 ct2 oc3 kV3 dc3 pm3 cd3 ct3 oc4 kV4 dc4 pm4 cd4 ct4 oc5 kV5 dc5 pm5 cd5 ct5 oc6 kV6 dc6 pm6 cd6 ct6 oc7 kV7 dc7 pm7 cd7 ct7 oc8 kV8 dc8 pm8 cd8 ct8 oc9 kV9 dc9 pm9 cd9 ct9 oc10 kV10 dc10 pm10 cd10 ct10 oc11 kV11 dc11 pm11 cd11 ct11 oc12 kV12 dc12 pm12 cd12 ct12 oc13 kV13 dc13 pm13 cd13 ct13 oc14 kV14 dc14 pm14 cd14 ct14 oc15 kV15 dc15 pm15 cd15 ct15 oc16 kV16 dc16 pm16 cd16 ct16 oc17 kV17 dc17 pm17 cd17 ct17 oc18 kV18 dc18 pm18 cd18 ct18 oc19 kV19 dc19 pm19 cd19 ct19 oc20 kV20 dc20 pm20 cd20 ct20 oc21 kV21 dc21 pm21 cd21 ct21 oc22 kV22 dc22 pm22 cd22 ct22 oc23 kV23 dc23 pm23 cd23 ct23 oc24 kV24 dc24 pm24 cd24 ct24 oc25 kV25 dc25 pm25 cd25 ct25 oc26 kV26 dc26 pm26 cd26 ct26 oc27 kV27 dc27 pm27 cd27 ct27 oc28 kV28 dc28 pm28 cd28 ct28 oc29 kV29 dc29 pm29 cd29 ct29 oc30 kV30 dc30 pm30 cd30 ct30 oc31 kV31 dc31 pm31 cd31 ct31 oc32 kV32 dc32 pm32 cd32 ct32 oc33 kV33 dc33 pm33 cd33 ct33:Value}
  (aC_Block:PySem.W.nsIn K mainGlobals "Block"=some (some (.ref C_Block)))
  (aC_Reading:PySem.W.nsIn K mainGlobals "Reading"=some (some (.ref C_Reading)))
  (a1:PySem.W.nsIn K mainGlobals "are_figures"=some (some (.ref f1)))
  (l1:K.lookup f1=some ⟨oc1,od1,.func (PySem.W.fnOf "are_figures" "are_figures" (defArgs s_q13) (defBody s_q13) (defScope s_q13) .none kV1 dc1 pm1 an1 cd1 ct1),sl1⟩)
  (c1:PySem.W.codeIn K cd1 "are_figures"=true)
  (k1:PySem.W.keepIn K (.ref f1)=true)
  (a2:PySem.W.nsIn K mainGlobals "number_from"=some (some (.ref f2)))
  (l2:K.lookup f2=some ⟨oc2,od2,.func (PySem.W.fnOf "number_from" "number_from" (defArgs s_q16) (defBody s_q16) (defScope s_q16) .none kV2 dc2 pm2 an2 cd2 ct2),sl2⟩)
  (c2:PySem.W.codeIn K cd2 "number_from"=true)
  (k2:PySem.W.keepIn K (.ref f2)=true)
  (a3:PySem.W.nsIn K mainGlobals "is_name"=some (some (.ref f3)))
  (l3:K.lookup f3=some ⟨oc3,od3,.func (PySem.W.fnOf "is_name" "is_name" (defArgs s_q31) (defBody s_q31) (defScope s_q31) .none kV3 dc3 pm3 an3 cd3 ct3),sl3⟩)
  (c3:PySem.W.codeIn K cd3 "is_name"=true)
  (k3:PySem.W.keepIn K (.ref f3)=true)
  (a4:PySem.W.nsIn K mainGlobals "are_names"=some (some (.ref f4)))
  (l4:K.lookup f4=some ⟨oc4,od4,.func (PySem.W.fnOf "are_names" "are_names" (defArgs s_q22) (defBody s_q22) (defScope s_q22) .none kV4 dc4 pm4 an4 cd4 ct4),sl4⟩)
  (c4:PySem.W.codeIn K cd4 "are_names"=true)
  (k4:PySem.W.keepIn K (.ref f4)=true)
  (a5:PySem.W.nsIn K mainGlobals "plan_rows"=some (some (.ref f5)))
  (l5:K.lookup f5=some ⟨oc5,od5,.func (PySem.W.fnOf "plan_rows" "plan_rows" (defArgs s_q21) (defBody s_q21) (defScope s_q21) .none kV5 dc5 pm5 an5 cd5 ct5),sl5⟩)
  (c5:PySem.W.codeIn K cd5 "plan_rows"=true)
  (k5:PySem.W.keepIn K (.ref f5)=true)
  (a6:PySem.W.nsIn K mainGlobals "written"=some (some (.ref f6)))
  (l6:K.lookup f6=some ⟨oc6,od6,.func (PySem.W.fnOf "written" "written" (defArgs s_q30) (defBody s_q30) (defScope s_q30) .none kV6 dc6 pm6 an6 cd6 ct6),sl6⟩)
  (c6:PySem.W.codeIn K cd6 "written"=true)
  (k6:PySem.W.keepIn K (.ref f6)=true)
  (a7:PySem.W.nsIn K mainGlobals "worth_written"=some (some (.ref f7)))
  (l7:K.lookup f7=some ⟨oc7,od7,.func (PySem.W.fnOf "worth_written" "worth_written" (defArgs s_q8) (defBody s_q8) (defScope s_q8) .none kV7 dc7 pm7 an7 cd7 ct7),sl7⟩)
  (c7:PySem.W.codeIn K cd7 "worth_written"=true)
  (k7:PySem.W.keepIn K (.ref f7)=true)
  (a8:PySem.W.findIn K (.ref C_Block) "__init__"=some (some (.ref f8)))
  (i8:PySem.W.isFn K (.ref f8)=true)
  (l8:K.lookup f8=some ⟨oc8,od8,.func (PySem.W.fnOf "__init__" "Block.__init__" (defArgs s_q5) (defBody s_q5) (defScope s_q5) .none kV8 dc8 pm8 an8 cd8 ct8),sl8⟩)
  (c8:PySem.W.codeIn K cd8 "Block.__init__"=true)
  (k8:PySem.W.keepIn K (.ref f8)=true)
  (a9:PySem.W.findIn K (.ref C_Reading) "__init__"=some (some (.ref f9)))
  (i9:PySem.W.isFn K (.ref f9)=true)
  (l9:K.lookup f9=some ⟨oc9,od9,.func (PySem.W.fnOf "__init__" "Reading.__init__" (defArgs s_q1) (defBody s_q1) (defScope s_q1) .none kV9 dc9 pm9 an9 cd9 ct9),sl9⟩)
  (c9:PySem.W.codeIn K cd9 "Reading.__init__"=true)
  (k9:PySem.W.keepIn K (.ref f9)=true)
  (a10:PySem.W.findIn K (.ref C_Reading) "take"=some (some (.ref f10)))
  (i10:PySem.W.isFn K (.ref f10)=true)
  (l10:K.lookup f10=some ⟨oc10,od10,.func (PySem.W.fnOf "take" "Reading.take" (defArgs s_q11) (defBody s_q11) (defScope s_q11) .none kV10 dc10 pm10 an10 cd10 ct10),sl10⟩)
  (c10:PySem.W.codeIn K cd10 "Reading.take"=true)
  (k10:PySem.W.keepIn K (.ref f10)=true)
  (a11:PySem.W.findIn K (.ref C_Reading) "take_row"=some (some (.ref f11)))
  (i11:PySem.W.isFn K (.ref f11)=true)
  (l11:K.lookup f11=some ⟨oc11,od11,.func (PySem.W.fnOf "take_row" "Reading.take_row" (defArgs s_q0) (defBody s_q0) (defScope s_q0) .none kV11 dc11 pm11 an11 cd11 ct11),sl11⟩)
  (c11:PySem.W.codeIn K cd11 "Reading.take_row"=true)
  (k11:PySem.W.keepIn K (.ref f11)=true)
  (a12:PySem.W.findIn K (.ref C_Reading) "turn"=some (some (.ref f12)))
  (i12:PySem.W.isFn K (.ref f12)=true)
  (l12:K.lookup f12=some ⟨oc12,od12,.func (PySem.W.fnOf "turn" "Reading.turn" (defArgs s_q10) (defBody s_q10) (defScope s_q10) .none kV12 dc12 pm12 an12 cd12 ct12),sl12⟩)
  (c12:PySem.W.codeIn K cd12 "Reading.turn"=true)
  (k12:PySem.W.keepIn K (.ref f12)=true)
  (a13:PySem.W.findIn K (.ref C_Reading) "close"=some (some (.ref f13)))
  (i13:PySem.W.isFn K (.ref f13)=true)
  (l13:K.lookup f13=some ⟨oc13,od13,.func (PySem.W.fnOf "close" "Reading.close" (defArgs s_q9) (defBody s_q9) (defScope s_q9) .none kV13 dc13 pm13 an13 cd13 ct13),sl13⟩)
  (c13:PySem.W.codeIn K cd13 "Reading.close"=true)
  (k13:PySem.W.keepIn K (.ref f13)=true)
  (a14:PySem.W.findIn K (.ref C_Reading) "is_done"=some (some (.ref f14)))
  (i14:PySem.W.isFn K (.ref f14)=true)
  (l14:K.lookup f14=some ⟨oc14,od14,.func (PySem.W.fnOf "is_done" "Reading.is_done" (defArgs s_q4) (defBody s_q4) (defScope s_q4) .none kV14 dc14 pm14 an14 cd14 ct14),sl14⟩)
  (c14:PySem.W.codeIn K cd14 "Reading.is_done"=true)
  (k14:PySem.W.keepIn K (.ref f14)=true)
  (a15:PySem.W.nsIn K mainGlobals "head_part"=some (some (.ref f15)))
  (l15:K.lookup f15=some ⟨oc15,od15,.func (PySem.W.fnOf "head_part" "head_part" (defArgs s_q26) (defBody s_q26) (defScope s_q26) .none kV15 dc15 pm15 an15 cd15 ct15),sl15⟩)
  (c15:PySem.W.codeIn K cd15 "head_part"=true)
  (k15:PySem.W.keepIn K (.ref f15)=true)
  (a16:PySem.W.nsIn K mainGlobals "setting_row"=some (some (.ref f16)))
  (l16:K.lookup f16=some ⟨oc16,od16,.func (PySem.W.fnOf "setting_row" "setting_row" (defArgs s_q15) (defBody s_q15) (defScope s_q15) .none kV16 dc16 pm16 an16 cd16 ct16),sl16⟩)
  (c16:PySem.W.codeIn K cd16 "setting_row"=true)
  (k16:PySem.W.keepIn K (.ref f16)=true)
  (a17:PySem.W.nsIn K mainGlobals "row_with"=some (some (.ref f17)))
  (l17:K.lookup f17=some ⟨oc17,od17,.func (PySem.W.fnOf "row_with" "row_with" (defArgs s_q28) (defBody s_q28) (defScope s_q28) .none kV17 dc17 pm17 an17 cd17 ct17),sl17⟩)
  (c17:PySem.W.codeIn K cd17 "row_with"=true)
  (k17:PySem.W.keepIn K (.ref f17)=true)
  (a18:PySem.W.nsIn K mainGlobals "read_plan"=some (some (.ref f18)))
  (l18:K.lookup f18=some ⟨oc18,od18,.func (PySem.W.fnOf "read_plan" "read_plan" (defArgs s_q25) (defBody s_q25) (defScope s_q25) .none kV18 dc18 pm18 an18 cd18 ct18),sl18⟩)
  (c18:PySem.W.codeIn K cd18 "read_plan"=true)
  (k18:PySem.W.keepIn K (.ref f18)=true)
  (a19:PySem.W.nsIn K mainGlobals "_law_stirred"=some (some (.ref f19)))
  (l19:K.lookup f19=some ⟨oc19,od19,.func (PySem.W.fnOf "_law_stirred" "_law_stirred" (defArgs s_q12) (defBody s_q12) (defScope s_q12) .none kV19 dc19 pm19 an19 cd19 ct19),sl19⟩)
  (c19:PySem.W.codeIn K cd19 "_law_stirred"=true)
  (k19:PySem.W.keepIn K (.ref f19)=true)
  (a20:PySem.W.nsIn K mainGlobals "_law_pot"=some (some (.ref f20)))
  (l20:K.lookup f20=some ⟨oc20,od20,.func (PySem.W.fnOf "_law_pot" "_law_pot" (defArgs s_q27) (defBody s_q27) (defScope s_q27) .none kV20 dc20 pm20 an20 cd20 ct20),sl20⟩)
  (c20:PySem.W.codeIn K cd20 "_law_pot"=true)
  (k20:PySem.W.keepIn K (.ref f20)=true)
  (a21:PySem.W.nsIn K mainGlobals "_law_draw"=some (some (.ref f21)))
  (l21:K.lookup f21=some ⟨oc21,od21,.func (PySem.W.fnOf "_law_draw" "_law_draw" (defArgs s_q24) (defBody s_q24) (defScope s_q24) .none kV21 dc21 pm21 an21 cd21 ct21),sl21⟩)
  (c21:PySem.W.codeIn K cd21 "_law_draw"=true)
  (k21:PySem.W.keepIn K (.ref f21)=true)
  (a22:PySem.W.nsIn K mainGlobals "_law_names"=some (some (.ref f22)))
  (l22:K.lookup f22=some ⟨oc22,od22,.func (PySem.W.fnOf "_law_names" "_law_names" (defArgs s_q17) (defBody s_q17) (defScope s_q17) .none kV22 dc22 pm22 an22 cd22 ct22),sl22⟩)
  (c22:PySem.W.codeIn K cd22 "_law_names"=true)
  (k22:PySem.W.keepIn K (.ref f22)=true)
  (a23:PySem.W.nsIn K mainGlobals "_law_row"=some (some (.ref f23)))
  (l23:K.lookup f23=some ⟨oc23,od23,.func (PySem.W.fnOf "_law_row" "_law_row" (defArgs s_q29) (defBody s_q29) (defScope s_q29) .none kV23 dc23 pm23 an23 cd23 ct23),sl23⟩)
  (c23:PySem.W.codeIn K cd23 "_law_row"=true)
  (k23:PySem.W.keepIn K (.ref f23)=true)
  (a24:PySem.W.nsIn K mainGlobals "_law_block"=some (some (.ref f24)))
  (l24:K.lookup f24=some ⟨oc24,od24,.func (PySem.W.fnOf "_law_block" "_law_block" (defArgs s_q18) (defBody s_q18) (defScope s_q18) .none kV24 dc24 pm24 an24 cd24 ct24),sl24⟩)
  (c24:PySem.W.codeIn K cd24 "_law_block"=true)
  (k24:PySem.W.keepIn K (.ref f24)=true)
  (a25:PySem.W.nsIn K mainGlobals "_law_rows"=some (some (.ref f25)))
  (l25:K.lookup f25=some ⟨oc25,od25,.func (PySem.W.fnOf "_law_rows" "_law_rows" (defArgs s_q23) (defBody s_q23) (defScope s_q23) .none kV25 dc25 pm25 an25 cd25 ct25),sl25⟩)
  (c25:PySem.W.codeIn K cd25 "_law_rows"=true)
  (k25:PySem.W.keepIn K (.ref f25)=true)
  (a26:PySem.W.nsIn K mainGlobals "_law_plan"=some (some (.ref f26)))
  (l26:K.lookup f26=some ⟨oc26,od26,.func (PySem.W.fnOf "_law_plan" "_law_plan" (defArgs s_q20) (defBody s_q20) (defScope s_q20) .none kV26 dc26 pm26 an26 cd26 ct26),sl26⟩)
  (c26:PySem.W.codeIn K cd26 "_law_plan"=true)
  (k26:PySem.W.keepIn K (.ref f26)=true)
  (a27:PySem.W.nsIn K mainGlobals "_law_worded"=some (some (.ref f27)))
  (l27:K.lookup f27=some ⟨oc27,od27,.func (PySem.W.fnOf "_law_worded" "_law_worded" (defArgs s_q14) (defBody s_q14) (defScope s_q14) .none kV27 dc27 pm27 an27 cd27 ct27),sl27⟩)
  (c27:PySem.W.codeIn K cd27 "_law_worded"=true)
  (k27:PySem.W.keepIn K (.ref f27)=true)
  (a28:PySem.W.nsIn K mainGlobals "_law_put_names"=some (some (.ref f28)))
  (l28:K.lookup f28=some ⟨oc28,od28,.func (PySem.W.fnOf "_law_put_names" "_law_put_names" (defArgs s_q6) (defBody s_q6) (defScope s_q6) .none kV28 dc28 pm28 an28 cd28 ct28),sl28⟩)
  (c28:PySem.W.codeIn K cd28 "_law_put_names"=true)
  (k28:PySem.W.keepIn K (.ref f28)=true)
  (a29:PySem.W.nsIn K mainGlobals "_law_row_text"=some (some (.ref f29)))
  (l29:K.lookup f29=some ⟨oc29,od29,.func (PySem.W.fnOf "_law_row_text" "_law_row_text" (defArgs s_q7) (defBody s_q7) (defScope s_q7) .none kV29 dc29 pm29 an29 cd29 ct29),sl29⟩)
  (c29:PySem.W.codeIn K cd29 "_law_row_text"=true)
  (k29:PySem.W.keepIn K (.ref f29)=true)
  (a30:PySem.W.nsIn K mainGlobals "_law_rows_texts"=some (some (.ref f30)))
  (l30:K.lookup f30=some ⟨oc30,od30,.func (PySem.W.fnOf "_law_rows_texts" "_law_rows_texts" (defArgs s_q2) (defBody s_q2) (defScope s_q2) .none kV30 dc30 pm30 an30 cd30 ct30),sl30⟩)
  (c30:PySem.W.codeIn K cd30 "_law_rows_texts"=true)
  (k30:PySem.W.keepIn K (.ref f30)=true)
  (a31:PySem.W.nsIn K mainGlobals "_law_plan_texts"=some (some (.ref f31)))
  (l31:K.lookup f31=some ⟨oc31,od31,.func (PySem.W.fnOf "_law_plan_texts" "_law_plan_texts" (defArgs s_q3) (defBody s_q3) (defScope s_q3) .none kV31 dc31 pm31 an31 cd31 ct31),sl31⟩)
  (c31:PySem.W.codeIn K cd31 "_law_plan_texts"=true)
  (k31:PySem.W.keepIn K (.ref f31)=true)
  (a32:PySem.W.nsIn K mainGlobals "_law_alike"=some (some (.ref f32)))
  (l32:K.lookup f32=some ⟨oc32,od32,.func (PySem.W.fnOf "_law_alike" "_law_alike" (defArgs s_q19) (defBody s_q19) (defScope s_q19) .none kV32 dc32 pm32 an32 cd32 ct32),sl32⟩)
  (c32:PySem.W.codeIn K cd32 "_law_alike"=true)
  (k32:PySem.W.keepIn K (.ref f32)=true)
  (a33:PySem.W.nsIn K mainGlobals "law"=some (some (.ref f33)))
  (l33:K.lookup f33=some ⟨oc33,od33,.func (PySem.W.fnOf "law" "law" (defArgs s_law) (defBody s_law) (defScope s_law) .none kV33 dc33 pm33 an33 cd33 ct33),sl33⟩)
  (c33:PySem.W.codeIn K cd33 "law"=true)
  (k33:PySem.W.keepIn K (.ref f33)=true)
  (pg_Block:PySem.W.plainGet K C_Block Str.empty=true)
  (hd_Block:PySem.W.hasDictIn K C_Block=true)
  (po_Block:PySem.W.plainOver K C_Block=true)
  (sa_Block:PySem.W.findIn K (.ref C_Block) "__setattr__"=some (some (.builtin "object.__setattr__")))
  (mk_Block:PySem.W.makesIn K C_Block=true)
  (kc_Block:PySem.W.keepIn K (.ref C_Block)=true)
  (pg_Reading:PySem.W.plainGet K C_Reading Str.empty=true)
  (hd_Reading:PySem.W.hasDictIn K C_Reading=true)
  (po_Reading:PySem.W.plainOver K C_Reading=true)
  (sa_Reading:PySem.W.findIn K (.ref C_Reading) "__setattr__"=some (some (.builtin "object.__setattr__")))
  (mk_Reading:PySem.W.makesIn K C_Reading=true)
  (kc_Reading:PySem.W.keepIn K (.ref C_Reading)=true)
  (n_Block_first:PySem.W.findIn K (.ref C_Block) "first"=some none)
  (n_Block_rows:PySem.W.findIn K (.ref C_Block) "rows"=some none)
  (n_Block_word:PySem.W.findIn K (.ref C_Block) "word"=some none)
  (n_Block_x:PySem.W.findIn K (.ref C_Block) "x"=some none)
  (n_Reading_blocks:PySem.W.findIn K (.ref C_Reading) "blocks"=some none)
  (n_Reading_count:PySem.W.findIn K (.ref C_Reading) "count"=some none)
  (n_Reading_head:PySem.W.findIn K (.ref C_Reading) "head"=some none)
  (gi_LEAST_WHEEL:PySem.W.nsIn K mainGlobals "LEAST_WHEEL"=some (some (.int 2 tk_LEAST_WHEEL)))
  (gi_MOST_LETTERS:PySem.W.nsIn K mainGlobals "MOST_LETTERS"=some (some (.int 8 tk_MOST_LETTERS)))
  (gi_MOST_NAMES:PySem.W.nsIn K mainGlobals "MOST_NAMES"=some (some (.int 12 tk_MOST_NAMES)))
  (gi_MOST_PIECES:PySem.W.nsIn K mainGlobals "MOST_PIECES"=some (some (.int 40 tk_MOST_PIECES)))
  (gi_MOST_ROWS:PySem.W.nsIn K mainGlobals "MOST_ROWS"=some (some (.int 60 tk_MOST_ROWS)))
  (gi_MOST_WHEEL:PySem.W.nsIn K mainGlobals "MOST_WHEEL"=some (some (.int 997 tk_MOST_WHEEL)))
  (gi_MOST_WITHIN:PySem.W.nsIn K mainGlobals "MOST_WITHIN"=some (some (.int 4 tk_MOST_WITHIN)))
  (gt_SIGNS:PySem.W.nsIn K mainGlobals "SIGNS"=some (some (.ref g_SIGNS)))
  (gd_SIGNS:K.lookup g_SIGNS=some { cls:=.type "dict",dict:=none,data:=.dict #[⟨PyData.keyHash w.params "sum",.str "sum" tk_SIGNS_0,.str "+" tv_SIGNS_0⟩,⟨PyData.keyHash w.params "by",.str "by" tk_SIGNS_1,.str "*" tv_SIGNS_1⟩,⟨PyData.keyHash w.params "less",.str "less" tk_SIGNS_2,.str "<" tv_SIGNS_2⟩,⟨PyData.keyHash w.params "same",.str "same" tk_SIGNS_3,.str "==" tv_SIGNS_3⟩] ep_SIGNS,slots:=#[] })
  (gs_SIGNS:(g_SIGNS==sysModules)=false)
  (gt_WORDS:PySem.W.nsIn K mainGlobals "WORDS"=some (some (.ref g_WORDS)))
  (gd_WORDS:K.lookup g_WORDS=some { cls:=.type "dict",dict:=none,data:=.dict #[⟨PyData.keyHash w.params "+",.str "+" tk_WORDS_0,.str "sum" tv_WORDS_0⟩,⟨PyData.keyHash w.params "*",.str "*" tk_WORDS_1,.str "by" tv_WORDS_1⟩,⟨PyData.keyHash w.params "<",.str "<" tk_WORDS_2,.str "less" tv_WORDS_2⟩,⟨PyData.keyHash w.params "==",.str "==" tk_WORDS_3,.str "same" tv_WORDS_3⟩] ep_WORDS,slots:=#[] })
  (gs_WORDS:(g_WORDS==sysModules)=false)
  (gm_HEAD:PySem.W.nsIn K mainGlobals "HEAD"=some (some (.ref g_HEAD)))
  (gx_HEAD:K.lookup g_HEAD=some { cls:=.type "tuple",dict:=none,data:=.seq #[.str "wheel" tm_HEAD_0,.str "names" tm_HEAD_1,.str "pieces" tm_HEAD_2,.str "mark" tm_HEAD_3] em_HEAD,slots:=#[] })
  (z_all:PySem.W.nsIn K mainGlobals "all"=some none)
  (z_bool:PySem.W.nsIn K mainGlobals "bool"=some none)
  (z_enumerate:PySem.W.nsIn K mainGlobals "enumerate"=some none)
  (z_int:PySem.W.nsIn K mainGlobals "int"=some none)
  (z_isinstance:PySem.W.nsIn K mainGlobals "isinstance"=some none)
  (z_len:PySem.W.nsIn K mainGlobals "len"=some none)
  (z_list:PySem.W.nsIn K mainGlobals "list"=some none)
  (z_min:PySem.W.nsIn K mainGlobals "min"=some none)
  (z_range:PySem.W.nsIn K mainGlobals "range"=some none)
  (z_set:PySem.W.nsIn K mainGlobals "set"=some none)
  (z_str:PySem.W.nsIn K mainGlobals "str"=some none)
  (z_tuple:PySem.W.nsIn K mainGlobals "tuple"=some none)
  (z_zip:PySem.W.nsIn K mainGlobals "zip"=some none):
  ∃fd:FuncData,(∀(s:Shared) (v:Value),BindsTo s fd ⟨[v],[]⟩ [("script",v)])/\∀base:Heap,K.In base->base.Ns mainGlobals mg->FnOk l.prog w K mg base CX0 29 fa fd ["script"] (spTop K):=by
 have e:=hfa.symm.trans (PySem.W.mg_of X G a33);cases e;have F1:=fun_mk (st:=s_q13) l1 c1 k1;have b1:=F1.binds (ps:=["text"]) fun _ _ _ _ _ _=>us1 fun _=>rfl;have F2:=fun_mk (st:=s_q16) l2 c2 k2;have b2:=F2.binds (ps:=["text","least","most"]) fun _ _ _ _ _ _=>us3 fun _ _ _=>rfl;have F3:=fun_mk (st:=s_q31) l3 c3 k3;have b3:=F3.binds (ps:=["thing"]) fun _ _ _ _ _ _=>us1 fun _=>rfl;have F4:=fun_mk (st:=s_q22) l4 c4 k4;have b4:=F4.binds (ps:=["thing"]) fun _ _ _ _ _ _=>us1 fun _=>rfl;have F5:=fun_mk (st:=s_q21) l5 c5 k5;have b5:=F5.binds (ps:=["plan"]) fun _ _ _ _ _ _=>us1 fun _=>rfl;have F6:=fun_mk (st:=s_q30) l6 c6 k6;have b6:=F6.binds (ps:=["rows"]) fun _ _ _ _ _ _=>us1 fun _=>rfl;have F7:=fun_mk (st:=s_q8) l7 c7 k7;have b7:=F7.binds (ps:=["row"]) fun _ _ _ _ _ _=>us1 fun _=>rfl;have F8:=fun_mk (st:=s_q5) l8 c8 k8;have b8:=F8.binds (ps:=["self","word","x"]) fun _ _ _ _ _ _=>us3 fun _ _ _=>rfl;have F9:=fun_mk (st:=s_q1) l9 c9 k9;have b9:=F9.binds (ps:=["self"]) fun _ _ _ _ _ _=>us1 fun _=>rfl;have F10:=fun_mk (st:=s_q11) l10 c10 k10;have b10:=F10.binds (ps:=["self","text"]) fun _ _ _ _ _ _=>us2 fun _ _=>rfl;have F11:=fun_mk (st:=s_q0) l11 c11 k11;have b11:=F11.binds (ps:=["self","words"]) fun _ _ _ _ _ _=>us2 fun _ _=>rfl;have F12:=fun_mk (st:=s_q10) l12 c12 k12;have b12:=F12.binds (ps:=["self"]) fun _ _ _ _ _ _=>us1 fun _=>rfl;have F13:=fun_mk (st:=s_q9) l13 c13 k13;have b13:=F13.binds (ps:=["self"]) fun _ _ _ _ _ _=>us1 fun _=>rfl;have F14:=fun_mk (st:=s_q4) l14 c14 k14;have b14:=F14.binds (ps:=["self"]) fun _ _ _ _ _ _=>us1 fun _=>rfl;have F15:=fun_mk (st:=s_q26) l15 c15 k15;have b15:=F15.binds (ps:=["head","words"]) fun _ _ _ _ _ _=>us2 fun _ _=>rfl;have F16:=fun_mk (st:=s_q15) l16 c16 k16;have b16:=F16.binds (ps:=["head","words"]) fun _ _ _ _ _ _=>us2 fun _ _=>rfl;have F17:=fun_mk (st:=s_q28) l17 c17 k17;have b17:=F17.binds (ps:=["word","x","part"]) fun _ _ _ _ _ _=>us3 fun _ _ _=>rfl;have F18:=fun_mk (st:=s_q25) l18 c18 k18;have b18:=F18.binds (ps:=["rows"]) fun _ _ _ _ _ _=>us1 fun _=>rfl;have F19:=fun_mk (st:=s_q12) l19 c19 k19;have b19:=F19.binds (ps:=["cell","turn"]) fun _ _ _ _ _ _=>us2 fun _ _=>rfl;have F20:=fun_mk (st:=s_q27) l20 c20 k20;have b20:=F20.binds (ps:=["script"]) fun _ _ _ _ _ _=>us1 fun _=>rfl;have F21:=fun_mk (st:=s_q24) l21 c21 k21;have b21:=F21.binds (ps:=["pot","many"]) fun _ _ _ _ _ _=>us2 fun _ _=>rfl;have F22:=fun_mk (st:=s_q17) l22 c22 k22;have b22:=F22.binds (ps:=["pot","many"]) fun _ _ _ _ _ _=>us2 fun _ _=>rfl;have F23:=fun_mk (st:=s_q29) l23 c23 k23;have b23:=F23.binds (ps:=["pot","told"]) fun _ _ _ _ _ _=>us2 fun _ _=>rfl;have F24:=fun_mk (st:=s_q18) l24 c24 k24;have b24:=F24.binds (ps:=["pot","told","room","deep"]) fun _ _ _ _ _ _=>us4 fun _ _ _ _=>rfl;have F25:=fun_mk (st:=s_q23) l25 c25 k25;have b25:=F25.binds (ps:=["pot","told","room","deep","most"]) fun _ _ _ _ _ _=>us5 fun _ _ _ _ _=>rfl;have F26:=fun_mk (st:=s_q20) l26 c26 k26;have b26:=F26.binds (ps:=["pot","most"]) fun _ _ _ _ _ _=>us2 fun _ _=>rfl;have F27:=fun_mk (st:=s_q14) l27 c27 k27;have b27:=F27.binds (ps:=["pot","plan"]) fun _ _ _ _ _ _=>us2 fun _ _=>rfl;have F28:=fun_mk (st:=s_q6) l28 c28 k28;have b28:=F28.binds (ps:=["rows","names"]) fun _ _ _ _ _ _=>us2 fun _ _=>rfl;have F29:=fun_mk (st:=s_q7) l29 c29 k29;have b29:=F29.binds (ps:=["row"]) fun _ _ _ _ _ _=>us1 fun _=>rfl;have F30:=fun_mk (st:=s_q2) l30 c30 k30;have b30:=F30.binds (ps:=["rows"]) fun _ _ _ _ _ _=>us1 fun _=>rfl;have F31:=fun_mk (st:=s_q3) l31 c31 k31;have b31:=F31.binds (ps:=["plan"]) fun _ _ _ _ _ _=>us1 fun _=>rfl;have F32:=fun_mk (st:=s_q19) l32 c32 k32;have b32:=F32.binds (ps:=["found","due"]) fun _ _ _ _ _ _=>us2 fun _ _=>rfl;have F33:=fun_mk (st:=s_law) l33 c33 k33;have b33:=F33.binds (ps:=["script"]) fun _ _ _ _ _ _=>us1 fun _=>rfl
 let ad:Ad:={ C_Block:=C_Block,C_Reading:=C_Reading,a_q13:=f1,d_q13:=PySem.W.fnOf "are_figures" "are_figures" (defArgs s_q13) (defBody s_q13) (defScope s_q13) .none kV1 dc1 pm1 an1 cd1 ct1,a_q16:=f2,d_q16:=PySem.W.fnOf "number_from" "number_from" (defArgs s_q16) (defBody s_q16) (defScope s_q16) .none kV2 dc2 pm2 an2 cd2 ct2,a_q31:=f3,d_q31:=PySem.W.fnOf "is_name" "is_name" (defArgs s_q31) (defBody s_q31) (defScope s_q31) .none kV3 dc3 pm3 an3 cd3 ct3,a_q22:=f4,d_q22:=PySem.W.fnOf "are_names" "are_names" (defArgs s_q22) (defBody s_q22) (defScope s_q22) .none kV4 dc4 pm4 an4 cd4 ct4,a_q21:=f5,d_q21:=PySem.W.fnOf "plan_rows" "plan_rows" (defArgs s_q21) (defBody s_q21) (defScope s_q21) .none kV5 dc5 pm5 an5 cd5 ct5,a_q30:=f6,d_q30:=PySem.W.fnOf "written" "written" (defArgs s_q30) (defBody s_q30) (defScope s_q30) .none kV6 dc6 pm6 an6 cd6 ct6,a_q8:=f7,d_q8:=PySem.W.fnOf "worth_written" "worth_written" (defArgs s_q8) (defBody s_q8) (defScope s_q8) .none kV7 dc7 pm7 an7 cd7 ct7,a_q5:=f8,d_q5:=PySem.W.fnOf "__init__" "Block.__init__" (defArgs s_q5) (defBody s_q5) (defScope s_q5) .none kV8 dc8 pm8 an8 cd8 ct8,a_q1:=f9,d_q1:=PySem.W.fnOf "__init__" "Reading.__init__" (defArgs s_q1) (defBody s_q1) (defScope s_q1) .none kV9 dc9 pm9 an9 cd9 ct9,a_q11:=f10,d_q11:=PySem.W.fnOf "take" "Reading.take" (defArgs s_q11) (defBody s_q11) (defScope s_q11) .none kV10 dc10 pm10 an10 cd10 ct10,a_q0:=f11,d_q0:=PySem.W.fnOf "take_row" "Reading.take_row" (defArgs s_q0) (defBody s_q0) (defScope s_q0) .none kV11 dc11 pm11 an11 cd11 ct11,a_q10:=f12,d_q10:=PySem.W.fnOf "turn" "Reading.turn" (defArgs s_q10) (defBody s_q10) (defScope s_q10) .none kV12 dc12 pm12 an12 cd12 ct12,a_q9:=f13,d_q9:=PySem.W.fnOf "close" "Reading.close" (defArgs s_q9) (defBody s_q9) (defScope s_q9) .none kV13 dc13 pm13 an13 cd13 ct13,a_q4:=f14,d_q4:=PySem.W.fnOf "is_done" "Reading.is_done" (defArgs s_q4) (defBody s_q4) (defScope s_q4) .none kV14 dc14 pm14 an14 cd14 ct14,a_q26:=f15,d_q26:=PySem.W.fnOf "head_part" "head_part" (defArgs s_q26) (defBody s_q26) (defScope s_q26) .none kV15 dc15 pm15 an15 cd15 ct15,a_q15:=f16,d_q15:=PySem.W.fnOf "setting_row" "setting_row" (defArgs s_q15) (defBody s_q15) (defScope s_q15) .none kV16 dc16 pm16 an16 cd16 ct16,a_q28:=f17,d_q28:=PySem.W.fnOf "row_with" "row_with" (defArgs s_q28) (defBody s_q28) (defScope s_q28) .none kV17 dc17 pm17 an17 cd17 ct17,a_q25:=f18,d_q25:=PySem.W.fnOf "read_plan" "read_plan" (defArgs s_q25) (defBody s_q25) (defScope s_q25) .none kV18 dc18 pm18 an18 cd18 ct18,a_q12:=f19,d_q12:=PySem.W.fnOf "_law_stirred" "_law_stirred" (defArgs s_q12) (defBody s_q12) (defScope s_q12) .none kV19 dc19 pm19 an19 cd19 ct19,a_q27:=f20,d_q27:=PySem.W.fnOf "_law_pot" "_law_pot" (defArgs s_q27) (defBody s_q27) (defScope s_q27) .none kV20 dc20 pm20 an20 cd20 ct20,a_q24:=f21,d_q24:=PySem.W.fnOf "_law_draw" "_law_draw" (defArgs s_q24) (defBody s_q24) (defScope s_q24) .none kV21 dc21 pm21 an21 cd21 ct21,a_q17:=f22,d_q17:=PySem.W.fnOf "_law_names" "_law_names" (defArgs s_q17) (defBody s_q17) (defScope s_q17) .none kV22 dc22 pm22 an22 cd22 ct22,a_q29:=f23,d_q29:=PySem.W.fnOf "_law_row" "_law_row" (defArgs s_q29) (defBody s_q29) (defScope s_q29) .none kV23 dc23 pm23 an23 cd23 ct23,a_q18:=f24,d_q18:=PySem.W.fnOf "_law_block" "_law_block" (defArgs s_q18) (defBody s_q18) (defScope s_q18) .none kV24 dc24 pm24 an24 cd24 ct24,a_q23:=f25,d_q23:=PySem.W.fnOf "_law_rows" "_law_rows" (defArgs s_q23) (defBody s_q23) (defScope s_q23) .none kV25 dc25 pm25 an25 cd25 ct25,a_q20:=f26,d_q20:=PySem.W.fnOf "_law_plan" "_law_plan" (defArgs s_q20) (defBody s_q20) (defScope s_q20) .none kV26 dc26 pm26 an26 cd26 ct26,a_q14:=f27,d_q14:=PySem.W.fnOf "_law_worded" "_law_worded" (defArgs s_q14) (defBody s_q14) (defScope s_q14) .none kV27 dc27 pm27 an27 cd27 ct27,a_q6:=f28,d_q6:=PySem.W.fnOf "_law_put_names" "_law_put_names" (defArgs s_q6) (defBody s_q6) (defScope s_q6) .none kV28 dc28 pm28 an28 cd28 ct28,a_q7:=f29,d_q7:=PySem.W.fnOf "_law_row_text" "_law_row_text" (defArgs s_q7) (defBody s_q7) (defScope s_q7) .none kV29 dc29 pm29 an29 cd29 ct29,a_q2:=f30,d_q2:=PySem.W.fnOf "_law_rows_texts" "_law_rows_texts" (defArgs s_q2) (defBody s_q2) (defScope s_q2) .none kV30 dc30 pm30 an30 cd30 ct30,a_q3:=f31,d_q3:=PySem.W.fnOf "_law_plan_texts" "_law_plan_texts" (defArgs s_q3) (defBody s_q3) (defScope s_q3) .none kV31 dc31 pm31 an31 cd31 ct31,a_q19:=f32,d_q19:=PySem.W.fnOf "_law_alike" "_law_alike" (defArgs s_q19) (defBody s_q19) (defScope s_q19) .none kV32 dc32 pm32 an32 cd32 ct32,a_law:=fa,d_law:=PySem.W.fnOf "law" "law" (defArgs s_law) (defBody s_law) (defScope s_law) .none kV33 dc33 pm33 an33 cd33 ct33,g_HEAD:=g_HEAD,g_SIGNS:=g_SIGNS,g_WORDS:=g_WORDS }
 have T:En w K mg ad:={
  c_Block:=⟨pg_Block,hd_Block,po_Block,sa_Block⟩
  mC_Block:=PySem.W.mg_of X G aC_Block
  mk_Block:=⟨mk_Block,a8,i8,kc_Block⟩
  c_Reading:=⟨pg_Reading,hd_Reading,po_Reading,sa_Reading⟩
  mC_Reading:=PySem.W.mg_of X G aC_Reading
  mk_Reading:=⟨mk_Reading,a9,i9,kc_Reading⟩
  n_Block_first:=n_Block_first
  n_Block_rows:=n_Block_rows
  n_Block_word:=n_Block_word
  n_Block_x:=n_Block_x
  n_Reading_blocks:=n_Reading_blocks
  n_Reading_count:=n_Reading_count
  n_Reading_head:=n_Reading_head
  F_q13:=F1
  b_q13:=b1
  k_q13:=k1
  m_q13:=PySem.W.mg_of X G a1
  F_q16:=F2
  b_q16:=b2
  k_q16:=k2
  m_q16:=PySem.W.mg_of X G a2
  F_q31:=F3
  b_q31:=b3
  k_q31:=k3
  m_q31:=PySem.W.mg_of X G a3
  F_q22:=F4
  b_q22:=b4
  k_q22:=k4
  m_q22:=PySem.W.mg_of X G a4
  F_q21:=F5
  b_q21:=b5
  k_q21:=k5
  m_q21:=PySem.W.mg_of X G a5
  F_q30:=F6
  b_q30:=b6
  k_q30:=k6
  m_q30:=PySem.W.mg_of X G a6
  F_q8:=F7
  b_q8:=b7
  k_q8:=k7
  m_q8:=PySem.W.mg_of X G a7
  F_q5:=F8
  b_q5:=b8
  k_q5:=k8
  F_q1:=F9
  b_q1:=b9
  k_q1:=k9
  F_q11:=F10
  b_q11:=b10
  k_q11:=k10
  me_q11:=⟨a10,i10,k10⟩
  F_q0:=F11
  b_q0:=b11
  k_q0:=k11
  me_q0:=⟨a11,i11,k11⟩
  F_q10:=F12
  b_q10:=b12
  k_q10:=k12
  me_q10:=⟨a12,i12,k12⟩
  F_q9:=F13
  b_q9:=b13
  k_q9:=k13
  me_q9:=⟨a13,i13,k13⟩
  F_q4:=F14
  b_q4:=b14
  k_q4:=k14
  me_q4:=⟨a14,i14,k14⟩
  F_q26:=F15
  b_q26:=b15
  k_q26:=k15
  m_q26:=PySem.W.mg_of X G a15
  F_q15:=F16
  b_q15:=b16
  k_q15:=k16
  m_q15:=PySem.W.mg_of X G a16
  F_q28:=F17
  b_q28:=b17
  k_q28:=k17
  m_q28:=PySem.W.mg_of X G a17
  F_q25:=F18
  b_q25:=b18
  k_q25:=k18
  m_q25:=PySem.W.mg_of X G a18
  F_q12:=F19
  b_q12:=b19
  k_q12:=k19
  m_q12:=PySem.W.mg_of X G a19
  F_q27:=F20
  b_q27:=b20
  k_q27:=k20
  m_q27:=PySem.W.mg_of X G a20
  F_q24:=F21
  b_q24:=b21
  k_q24:=k21
  m_q24:=PySem.W.mg_of X G a21
  F_q17:=F22
  b_q17:=b22
  k_q17:=k22
  m_q17:=PySem.W.mg_of X G a22
  F_q29:=F23
  b_q29:=b23
  k_q29:=k23
  m_q29:=PySem.W.mg_of X G a23
  F_q18:=F24
  b_q18:=b24
  k_q18:=k24
  m_q18:=PySem.W.mg_of X G a24
  F_q23:=F25
  b_q23:=b25
  k_q23:=k25
  m_q23:=PySem.W.mg_of X G a25
  F_q20:=F26
  b_q20:=b26
  k_q20:=k26
  m_q20:=PySem.W.mg_of X G a26
  F_q14:=F27
  b_q14:=b27
  k_q14:=k27
  m_q14:=PySem.W.mg_of X G a27
  F_q6:=F28
  b_q6:=b28
  k_q6:=k28
  m_q6:=PySem.W.mg_of X G a28
  F_q7:=F29
  b_q7:=b29
  k_q7:=k29
  m_q7:=PySem.W.mg_of X G a29
  F_q2:=F30
  b_q2:=b30
  k_q2:=k30
  m_q2:=PySem.W.mg_of X G a30
  F_q3:=F31
  b_q3:=b31
  k_q3:=k31
  m_q3:=PySem.W.mg_of X G a31
  F_q19:=F32
  b_q19:=b32
  k_q19:=k32
  m_q19:=PySem.W.mg_of X G a32
  F_law:=F33
  b_law:=b33
  k_law:=k33
  m_law:=PySem.W.mg_of X G a33
  g_LEAST_WHEEL:=⟨_,PySem.W.mg_of X G gi_LEAST_WHEEL⟩
  g_MOST_LETTERS:=⟨_,PySem.W.mg_of X G gi_MOST_LETTERS⟩
  g_MOST_NAMES:=⟨_,PySem.W.mg_of X G gi_MOST_NAMES⟩
  g_MOST_PIECES:=⟨_,PySem.W.mg_of X G gi_MOST_PIECES⟩
  g_MOST_ROWS:=⟨_,PySem.W.mg_of X G gi_MOST_ROWS⟩
  g_MOST_WHEEL:=⟨_,PySem.W.mg_of X G gi_MOST_WHEEL⟩
  g_MOST_WITHIN:=⟨_,PySem.W.mg_of X G gi_MOST_WITHIN⟩
  g_SIGNS:=⟨PySem.W.mg_of X G gt_SIGNS,gs_SIGNS,by decide +kernel,_,_,gd_SIGNS,(TabR.cons rfl ⟨_,rfl⟩ ⟨.str "+",⟨_,rfl⟩,fun _=>rfl⟩ (TabR.cons rfl ⟨_,rfl⟩ ⟨.str "*",⟨_,rfl⟩,fun _=>rfl⟩ (TabR.cons rfl ⟨_,rfl⟩ ⟨.str "<",⟨_,rfl⟩,fun _=>rfl⟩ (TabR.cons rfl ⟨_,rfl⟩ ⟨.str "==",⟨_,rfl⟩,fun _=>rfl⟩ TabR.nil))))⟩
  g_WORDS:=⟨PySem.W.mg_of X G gt_WORDS,gs_WORDS,by decide +kernel,_,_,gd_WORDS,(TabR.cons rfl ⟨_,rfl⟩ ⟨.str "sum",⟨_,rfl⟩,fun _=>rfl⟩ (TabR.cons rfl ⟨_,rfl⟩ ⟨.str "by",⟨_,rfl⟩,fun _=>rfl⟩ (TabR.cons rfl ⟨_,rfl⟩ ⟨.str "less",⟨_,rfl⟩,fun _=>rfl⟩ (TabR.cons rfl ⟨_,rfl⟩ ⟨.str "same",⟨_,rfl⟩,fun _=>rfl⟩ TabR.nil))))⟩
  g_HEAD:=modTup (PySem.W.mg_of X G gm_HEAD) (tab_tup (ss:=["wheel","names","pieces","mark"]) gx_HEAD (.cons ⟨_,rfl⟩ (.cons ⟨_,rfl⟩ (.cons ⟨_,rfl⟩ (.cons ⟨_,rfl⟩ .nil)))) (show 4<=sizeLine by decide))
  z_all:=PySem.W.mg_none_of X G z_all
  z_bool:=PySem.W.mg_none_of X G z_bool
  z_enumerate:=PySem.W.mg_none_of X G z_enumerate
  z_int:=PySem.W.mg_none_of X G z_int
  z_isinstance:=PySem.W.mg_none_of X G z_isinstance
  z_len:=PySem.W.mg_none_of X G z_len
  z_list:=PySem.W.mg_none_of X G z_list
  z_min:=PySem.W.mg_none_of X G z_min
  z_range:=PySem.W.mg_none_of X G z_range
  z_set:=PySem.W.mg_none_of X G z_set
  z_str:=PySem.W.mg_none_of X G z_str
  z_tuple:=PySem.W.mg_none_of X G z_tuple
  z_zip:=PySem.W.mg_none_of X G z_zip
 }
 refine ⟨PySem.W.fnOf "law" "law" (defArgs s_law) (defBody s_law) (defScope s_law) .none kV33 dc33 pm33 an33 cd33 ct33,fun s v=>.of_eq rfl,fun base _ _=>?_⟩;exact (fn_top (ok_all (P:=l.prog) (w:=w) (base:=base) T)).imp fun vs H Q E ⟨a,ns,e,hO,hS,hl,k⟩=>by subst e;exact law_of2 hO hS (law_holds ad ns hl) k
theorem walk{l:PySem.W.OpenLaw}{q:Program}{loose:List Str}{XP:(Str->Option Value)->Heap->Prop}{YP:World->Heap->Prop}{d:DefRec}{K:Params->PySem.W.Frag}(hn:l.most=some 63)(hdf:d.params.defaults=[])
  (hY:∀(w:World) (h:Heap),YP w h->(K w.params).In h)
  (F:∀(w:World) (mg:Str->Option Value) (fa:Addr) (h:Heap),(K w.params).In h->h.Ns mainGlobals mg->mg d.name=some (.ref fa)->
   ∃fd:FuncData,(∀(s:Shared) (u:Value),BindsTo s fd ⟨[u],[]⟩ [("script",u)])/\∀base:Heap,(K w.params).In base->base.Ns mainGlobals mg->FnOk l.prog w (K w.params) mg base CX0 29 fa fd ["script"] (spTop (K w.params))):
  PySem.W.WalkO q loose XP YP l.row.toRowW d [] (fun f vs=>PySem.call f vs):=
 L2.walk_of (n:=63) (k:=29) (x:="script") (CX:=fun _=>CX0) (sp:=fun w=>spTop (K w.params)) hn (by decide) hdf ⟨rfl,by decide,by decide,rfl⟩ hY F (fun _ _ a ns hl hO hS=>⟨a,ns,rfl,hO,hS,hl,fun _=>rfl⟩) fun _ _ _ _ _ z=>z
end Tw
open PySem PySem.W PyProof.Rows
namespace PySem.W.Fast
theorem tw17783742666493922008:0=0:=rfl
theorem tw14236975874199345129:0=0:=rfl
theorem tw7154648014441313644:0=0:=rfl
theorem tw9560146011010981799:0=0:=rfl
theorem tw16533182738973592191:0=0:=rfl
theorem tw8196471054421761649:0=0:=rfl
theorem tw8867173879614506143:0=0:=rfl
theorem tw11069351898443847376:0=0:=rfl
theorem tw13944205432519649521:0=0:=rfl
theorem tw8696469923002300384:0=0:=rfl
theorem tw13625267192988229509:0=0:=rfl
theorem tw11765098102625966994:0=0:=rfl
theorem tw18253605395893805637:0=0:=rfl
theorem tw6700152870175289848:0=0:=rfl
theorem tw16569079258566003448:0=0:=rfl
theorem tw12903799038786430029:0=0:=rfl
theorem tw7733489752736234164:0=0:=rfl
theorem tw14175695582147949323:0=0:=rfl
theorem tw8499898235863543461:0=0:=rfl
theorem tw677967937887359799:0=0:=rfl
theorem tw18126505783215339134:0=0:=rfl
theorem tw17815255861040278577:0=0:=rfl
theorem tw6278453179097938224:0=0:=rfl
theorem tw13261481749353698506:0=0:=rfl
theorem tw7586180957216713380:0=0:=rfl
theorem tw1252744708258860316:0=0:=rfl
theorem tw15396358783709005122:0=0:=rfl
theorem tw13944923825797592345:0=0:=rfl
theorem tw17234321432546227828:0=0:=rfl
theorem tw18164271495370722231:0=0:=rfl
theorem tw10094003851156324078:0=0:=rfl
theorem tw5848896173309824083:0=0:=rfl
theorem tw5300671456785328356:0=0:=rfl
theorem tw5756018200879266441:0=0:=rfl
theorem tw12433348709555616913:0=0:=rfl
theorem tw202689823534940415:0=0:=rfl
theorem tw14001656496100748106:0=0:=rfl
theorem tw3742989432853415139:0=0:=rfl
theorem tw1794079649775973064:0=0:=rfl
theorem tw14959817707327387790:0=0:=rfl
theorem tw14203898589457889648:0=0:=rfl
theorem tw7116379817029893528:0=0:=rfl
theorem tw5940390324845466200:0=0:=rfl
theorem tw5546061020135874617:0=0:=rfl
theorem tw15740201739251219554:0=0:=rfl
theorem tw1887869024058198344:0=0:=rfl
theorem tw8985598280245653120:0=0:=rfl
theorem tw6183980210190459717:0=0:=rfl
theorem tw345485547498545232:0=0:=rfl
theorem tw12191677364125613191:0=0:=rfl
theorem tw9002677297082417465:0=0:=rfl
theorem tw14091658656454847788:0=0:=rfl
theorem tw8536634894209312724:0=0:=rfl
theorem tw2917218009235047092:0=0:=rfl
theorem tw1173377893880224281:0=0:=rfl
end PySem.W.Fast
set_option maxRecDepth 100000 in
set_option maxHeartbeats 0 in
theorem PySem.Challenge.cw_twinstride_k87_plans_read_again_holds : PySem.Challenge.rw_twinstride_k87_plans_read_again.Holds := by
 w_on;o_law;k_head;(case hw=>w_witness2)
 k_fill
 refine Tw.walk (l:=PySem.Challenge.rw_twinstride_k87_plans_read_again) rfl rfl (fun w h Y=>PySem.W.kIn_of Y) ?F
 case F=>
  intro w mg fa h KX G hmg;refine' Tw.all_mk KX G hmg ..
  any_goals k_is
  all_goals first|rfl|decide
