import PyProof.Rows.All
import Wide.All
import OpenK.AllK
import Wide.FinOn
import Lean
import PyProof.EqAt
import PyProof.EqKinds
import PyProof.TupleCall
import PySem.Challenge.RW_twinstride_k80_unlike_rows
set_option Elab.async false
set_option linter.all false
set_option maxRecDepth 100000
set_option maxHeartbeats 4000000
set_option compiler.extract_closed false
set_option Elab.async false
set_option linter.all false
set_option maxRecDepth 100000
namespace L2
open PySem PySem.Spec PyProof.Rows
abbrev di:=Sum Int Str
def kM:di->Value->Bool
 |.inl k,v=>Value.isInt k v
 |.inr x,v=>Value.isStrOf x v
def keyH(w:World):di->Int
 |.inl k=>hashInt k
 |.inr x=>hashStr w x
theorem cf:∀{k:di} {v:Value},kM k v=true->(∃i t,k=Sum.inl i/\v=Value.int i t)\/(∃x t,k=Sum.inr x/\v=Value.str x t)
 |.inl i,v,h=>by
  obtain ⟨t,e⟩:=Value.isInt_shape (k:=i) (v:=v) h;exact .inl ⟨i,t,rfl,e⟩
 |.inr x,v,h=>by
  obtain ⟨t,e⟩:=Value.isStrOf_shape (x:=x) (v:=v) h;exact .inr ⟨x,t,rfl,e⟩
theorem su(i:Int)(t:Tok):kM (.inl i) (.int i t)=true:=by simp [kM,Value.isInt]
theorem sV(x:Str)(t:Tok):kM (.inr x) (.str x t)=true:=by simp [kM,Value.isStrOf]
theorem B8(a b:Int):decide ((Sum.inl a:di)=Sum.inl b)=(a==b):=by
 by_cases e:a=b
 ·subst e;simp
 ·have h:¬(Sum.inl a:di)=Sum.inl b:=fun q=>e (Sum.inl.inj q)
  rw [decide_eq_false h];exact (beq_eq_false_iff_ne.mpr e).symm
theorem AV(a b:Str):decide ((Sum.inr a:di)=Sum.inr b)=decide (a=b):=by
 by_cases e:a=b
 ·subst e;simp
 ·have h:¬(Sum.inr a:di)=Sum.inr b:=fun q=>e (Sum.inr.inj q)
  rw [decide_eq_false h,decide_eq_false e]
theorem AM(a:Int)(b:Str):decide ((Sum.inl a:di)=Sum.inr b)=false:=decide_eq_false (fun q=>nomatch q)
theorem Aq(a:Str)(b:Int):decide ((Sum.inr a:di)=Sum.inl b)=false:=decide_eq_false (fun q=>nomatch q)
def cu(prog:Program)(w:World):PySem.KeyKind prog w di where
 is:=kM
 hash:=keyH w
 inj:=fun v a b ha hb=>by
  rcases cf ha with ⟨i,t,rfl,rfl⟩|⟨x,t,rfl,rfl⟩
  ·rcases cf hb with ⟨j,u,rfl,e⟩|⟨y,u,rfl,e⟩
   ·injection e with e1 _;rw [e1]
   ·exact nomatch e
  ·rcases cf hb with ⟨j,u,rfl,e⟩|⟨y,u,rfl,e⟩
   ·exact nomatch e
   ·injection e with e1 _;rw [e1]
 byValue:=fun k v h=>by
  rcases cf h with ⟨i,t,rfl,rfl⟩|⟨x,t,rfl,rfl⟩<;>rfl
 pyHash:=fun hv h=>by
  rcases cf hv with ⟨i,t,rfl,rfl⟩|⟨x,t,rfl,rfl⟩
  ·exact wpAny_pyHash_int h
  ·exact wpAny_pyHash_str h
 eqBool:=fun hu hv h=>by
  rcases cf hu with ⟨i,t,rfl,rfl⟩|⟨x,t,rfl,rfl⟩
  ·rcases cf hv with ⟨j,u,rfl,rfl⟩|⟨y,u,rfl,rfl⟩
   ·rw [B8] at h;exact wpAny_eqBool_int h
   ·rw [AM] at h;exact SeqAt.EqAt.int_str i t y u _ _ _ _ h
  ·rcases cf hv with ⟨j,u,rfl,rfl⟩|⟨y,u,rfl,rfl⟩
   ·rw [Aq] at h;exact SeqAt.EqAt.str_int x t j u _ _ _ _ h
   ·rw [AV] at h;exact wpAny_eqBool_str h
 «strs»:=fun k x t v h=>by
  rcases cf h with ⟨i,u,rfl,e⟩|⟨y,u,rfl,e⟩
  ·exact nomatch e
  ·injection e with e1 _
   subst e1;cases v<;>rfl
theorem o9(prog:Program)(w:World)(i:Int)(t:Tok):(cu prog w).is (.inl i) (.int i t)=true:=su i t
theorem mJ(prog:Program)(w:World)(x:Str)(t:Tok):(cu prog w).is (.inr x) (.str x t)=true:=sV x t
end L2
namespace L2
open PySem PySem.Spec PyProof.Rows
inductive V where
 |non|bl (b:Bool)|int (i:Int)|str (x:Str)|byt (b:Array UInt8)|flt (b:UInt64)|ref (a:Addr)|ty (n:String)
 deriving DecidableEq
def RelV:V->Value->Prop
 |.non,u=>u=Value.none
 |.bl b,u=>u=Value.bool b
 |.int i,u=>∃t,u=Value.int i t
 |.str x,u=>∃t,u=Value.str x t
 |.byt b,u=>∃t,u=Value.bytes b t
 |.flt b,u=>∃t,u=Value.float b t
 |.ref a,u=>u=Value.ref a
 |.ty n,u=>u=Value.type n
abbrev Vals:List V->List Value->Prop:=Paired RelV
theorem Vals.length{xs:List V}{us:List Value}(r:Vals xs us):xs.length=us.length:=Paired.length r
theorem Vals.get:∀{xs:List V} {us:List Value} {i:Nat} {x:V},Vals xs us->xs[i]?=some x->∃u,us[i]?=some u/\RelV x u
 |_,_,_,_,.nil,e=>by simp at e
 |_,_,0,_,.cons r _,e=>by simp at e;subst e;exact ⟨_,rfl,r⟩
 |_,_,i+1,x,.cons _ t,e=>by
  obtain ⟨u,h1,h2⟩:=Vals.get (i:=i) (x:=x) t (by simpa using e)
  exact ⟨u,by simpa using h1,h2⟩
theorem Vals.set{x:V}{u:Value}(r:RelV x u):∀{xs:List V} {us:List Value} (i:Nat),Vals xs us->Vals (xs.set i x) (us.set i u)
 |_,_,_,.nil=>.nil
 |_,_,0,.cons _ t=>.cons r t
 |_,_,i+1,.cons q t=>.cons q (Vals.set r i t)
theorem Vals.append:∀{xs ys:List V} {us ws:List Value},Vals xs us->Vals ys ws->Vals (xs++ys) (us++ws)
 |_,_,_,_,.nil,s=>s
 |_,_,_,_,.cons r t,s=>.cons r (Vals.append t s)
theorem Vals.take:∀{xs:List V} {us:List Value} (n:Nat),Vals xs us->Vals (xs.take n) (us.take n)
 |_,_,0,_=>.nil
 |_,_,_+1,.nil=>.nil
 |_,_,n+1,.cons r t=>.cons r (Vals.take n t)
theorem Vals.drop:∀{xs:List V} {us:List Value} (n:Nat),Vals xs us->Vals (xs.drop n) (us.drop n)
 |_,_,0,r=>r
 |_,_,_+1,.nil=>.nil
 |_,_,n+1,.cons _ t=>Vals.drop n t
def RelO:Option V->Option Value->Prop
 |some v,some u=>RelV v u
 |none,none=>True
 |_,_=>False
def KV{κ:Type}:List (κ×V)->List (κ×Value)->Prop:=Paired fun (p:κ×V) (q:κ×Value)=>p.1=q.1/\RelV p.2 q.2
def kV:di->V
 |.inl i=>.int i
 |.inr x=>.str x
inductive HO where
  |lst (xs:List V)
  |tup (xs:List V)
  |dK (kvs:List (di×V))|dT (kvs:List (List di×V))
  |set (S:Int->Bool) (n:Nat)
  |ins (C dx:Addr) (fs:List (Str×V))
  |own (x:Addr)
  |xd (fs:List (Str×V))
  |met (f x:Addr)
  |rng (lo hi:Int)
  |frz (o:Obj) (u:HO)
  |tbl (ps:Array Value)
  |ext (φ:Heap->Prop)
abbrev Hp:=Addr->Option HO
def upd(H:Hp)(a:Addr)(o:HO):Hp:=fun b=>if b=a then some o else H b
theorem upd_same{H:Hp}{a:Addr}{o:HO}:upd H a o a=some o:=by unfold upd;rw [if_pos rfl]
theorem bf{H:Hp}{a b:Addr}{o:HO}(h:b≠a):upd H a o b=H b:=by unfold upd;rw [if_neg h]
theorem CA{H:Hp}{a b:Addr}{o u:HO}(h:H a=some o)(h':H b=some u)(d:o≠u):a≠b:=by
 intro e;subst e;rw [h] at h';exact d (Option.some.inj h')
theorem bO{H:Hp}{a b:Addr}{o:HO}(h:H a=some o)(h':H b=none):a≠b:=by
 intro e;subst e;rw [h] at h';cases h'
section
variable (P:Program)(w:World)
def ObjOk(H:Hp)(h:Heap)(a:Addr):HO->Prop
 |.lst xs=>xs.length<=sizeLine/\∃(its:List Value) (n:Nat),Vals xs its/\h.get? a=some { cls:=.type "list",data:=.seq its.toArray n }
 |.tup xs=>xs.length<=sizeLine/\∃its:List Value,Vals xs its/\∃o,h.get? a=some o/\(o.cls=.type "tuple"/\∃n,o.data=.seq its.toArray n)/\o.dict=none
 |.dK kvs=>kvs.length<=sizeLine/\(a==sysModules)=false/\∃vs,KV kvs vs/\h.DictOf (cu P w) a vs
 |.dT kvs=>kvs.length<=sizeLine/\(a==sysModules)=false/\∃xs:List (List di×Addr×Value),
   Paired (fun (p:List di×V) (q:List di×Addr×Value)=>p.1=q.1/\H q.2.1=some (.tup (p.1.map kV))/\RelV p.2 q.2.2) kvs xs/\
   ∃o es ep,h.get? a=some o/\o.ExactDict/\o.data=.dict es ep/\es.toList=xs.map (entryOfKey (tupleKind (cu P w)))/\(xs.map (·.1)).Nodup
 |.set S n=>h.SetOf (intKind P w) a S n
 |.ins C dx fs=>H dx=some (.own a)/\fs.length<=1000/\dx≠a/\h.get? a=some (W.instObj C dx)/\
   ∃mA,h.Ns1 dx mA/\(∀f,RelO (fs.lookup f) (mA f))/\PySem.Within mA (fs.map (·.1))
 |.own _=>∃o,h.get? a=some o
 |.xd fs=>∃mA,h.Ns1 a mA/\∀f,RelO (fs.lookup f) (mA f)
 |.rng lo hi=>∃t u v,h.get? a=some { cls:=.type "range",data:=.fields #[.int lo t,.int hi u,.int 1 v] }
 |.frz o u=>h.get? a=some o/\ObjOk H h a u
 |.tbl ps=>h.get? a=some { cls:=.none,data:=.fields ps }
 |.met f x=>h.get? a=some (W.methodObj (.ref f) (.ref x))
 |.ext φ=>φ h/\(∃o,h.get? a=some o)/\∀h1 h2:Heap,φ h1->(∀o,h1.get? a=some o->h2.get? a=some o)->φ h2
def HOk(H:Hp)(h:Heap):Prop:=∀a o,H a=some o->ObjOk P w H h a o
end
section
variable {P:Program}{w:World}{H H':Hp}{h h':Heap}{a:Addr}{o:HO}
theorem ObjOk.lt(x:ObjOk P w H h a o):a<h.objs.size:=by
 cases o with
 |lst xs=>obtain ⟨_,_,_,_,e⟩:=x;exact Heap.lt_size e
 |tup xs=>obtain ⟨_,_,_,_,e,_⟩:=x;exact Heap.lt_size e
 |dK kvs=>obtain ⟨_,_,_,_,o,_,_,e,_⟩:=x;exact Heap.lt_size e
 |dT kvs=>obtain ⟨_,_,_,_,o,_,_,e,_⟩:=x;exact Heap.lt_size e
 |set S n=>obtain ⟨o,_,_,_,e,_⟩:=x;exact Heap.lt_size e
 |ins C dx fs=>obtain ⟨_,_,_,e,_⟩:=x;exact Heap.lt_size e
 |own y=>obtain ⟨_,e⟩:=x;exact Heap.lt_size e
 |xd fs=>obtain ⟨_,⟨_,_,_,e,_⟩,_⟩:=x;exact Heap.lt_size e
 |rng lo hi=>obtain ⟨_,_,_,e⟩:=x;exact Heap.lt_size e
 |frz ob u=>obtain ⟨e,_⟩:=x;exact Heap.lt_size e
 |tbl ps=>exact Heap.lt_size (show h.get? a=some _ from x)
 |met f y=>exact Heap.lt_size (show h.get? a=some _ from x)
 |ext φ=>obtain ⟨_,⟨_,e⟩,_⟩:=x;exact Heap.lt_size e
theorem eO{α β:Type}{F G:α->β->Prop}:∀{l₁:List α} {l₂:List β},Paired F l₁ l₂->(∀a b,F a b->G a b)->Paired G l₁ l₂
 |_,_,.nil,_=>.nil
 |_,_,.cons r t,f=>.cons (f _ _ r) (eO t f)
theorem ObjOk.stay(x:ObjOk P w H h a o)(k:∀b u,(b=a\/H b=some (.own a))->h.get? b=some u->h'.get? b=some u)
  (ho:∀b,H b=some (.own a)->H' b=some (.own a)) (ht:∀b xs,H b=some (.tup xs)->H' b=some (.tup xs)):ObjOk P w H' h' a o:=by
 induction o with
 |lst xs=>obtain ⟨z,its,n,r,e⟩:=x;exact ⟨z,its,n,r,k _ _ (.inl rfl) e⟩
 |tup xs=>obtain ⟨z,its,r,ob,e,c⟩:=x;exact ⟨z,its,r,ob,k _ _ (.inl rfl) e,c⟩
 |dK kvs=>obtain ⟨z,y,vs,r,ob,es,ep,e,c⟩:=x;exact ⟨z,y,vs,r,ob,es,ep,k _ _ (.inl rfl) e,c⟩
 |dT kvs=>
  obtain ⟨z,y,xs,r,ob,es,ep,e,c⟩:=x;exact ⟨z,y,xs,eO r fun p q z=>⟨z.1,ht _ _ z.2.1,z.2.2⟩,ob,es,ep,k _ _ (.inl rfl) e,c⟩
 |set S n=>obtain ⟨ob,es,ep,t,e,c⟩:=x;exact ⟨ob,es,ep,t,k _ _ (.inl rfl) e,c⟩
 |ins C dx fs=>
  obtain ⟨d,z,ne,e,mA,⟨od,es,ep,e2,c⟩,r⟩:=x;exact ⟨ho _ d,z,ne,k _ _ (.inl rfl) e,mA,⟨od,es,ep,k _ _ (.inr d) e2,c⟩,r⟩
 |own y=>obtain ⟨ob,e⟩:=x;exact ⟨ob,k _ _ (.inl rfl) e⟩
 |xd fs=>obtain ⟨mA,⟨od,es,ep,e,c⟩,r⟩:=x;exact ⟨mA,⟨od,es,ep,k _ _ (.inl rfl) e,c⟩,r⟩
 |rng lo hi=>obtain ⟨t,u,v,e⟩:=x;exact ⟨t,u,v,k _ _ (.inl rfl) e⟩
 |frz ob u ih=>obtain ⟨e,q⟩:=x;exact ⟨k _ _ (.inl rfl) e,ih q⟩
 |tbl ps=>
  have e:h.get? a=some { cls:=.none,data:=.fields ps }:=x;show h'.get? a=some { cls:=.none,data:=.fields ps };exact k a _ (.inl rfl) e
 |met f y=>
  have e:h.get? a=some (W.methodObj (.ref f) (.ref y)):=x;show h'.get? a=some (W.methodObj (.ref f) (.ref y));exact k a _ (.inl rfl) e
 |ext φ=>obtain ⟨p,⟨o,e⟩,st⟩:=x;exact ⟨st _ _ p fun o q=>k _ _ (.inl rfl) q,⟨o,k _ _ (.inl rfl) e⟩,st⟩
theorem HOk.lt(x:HOk P w H h)(e:H a=some o):a<h.objs.size:=(x a o e).lt
theorem HOk.fresh(x:HOk P w H h)(e:h.objs.size<=a):H a=none:=by
 cases q:H a with
 |none=>rfl
 |some u=>exact absurd (Nat.lt_of_lt_of_le (x.lt q) e) (Nat.lt_irrefl _)
theorem HOk.kept(x:HOk P w H h)(k:∀b u,h.get? b=some u->h'.get? b=some u):HOk P w H h':=fun a o e=>
 (x a o e).stay (fun b u _ q=>k b u q) (fun _ q=>q) fun _ _ q=>q
theorem HOk.laid(x:HOk P w H h)(k:∀b u,h.get? b=some u->h'.get? b=some u)(hp:h.objs.size<=a)(new:ObjOk P w (upd H a o) h' a o):HOk P w (upd H a o) h':=fun b u e=>by
 have hn:=x.fresh hp
 by_cases hb:b=a
 ·subst hb;rw [upd_same] at e;cases e;exact new
 ·rw [bf hb] at e
  exact (x b u e).stay (fun c v _ q=>k c v q) (fun c q=>by rw [bf (bO q hn)];exact q) fun c xs q=>by rw [bf (bO q hn)];exact q
end
def Rd(H:Hp)(a:Addr)(u:HO):Prop:=H a=some u\/∃o,H a=some (.frz o u)
theorem Rd.ok{P:Program}{w:World}{H:Hp}{h:Heap}{a:Addr}{u:HO}(r:Rd H a u)(x:HOk P w H h):ObjOk P w H h a u:=by
 rcases r with r|⟨o,r⟩
 ·exact x a u r
 ·obtain ⟨_,q⟩:=x a _ r
  exact q
def CG:Option HO->Prop
 |some (.lst _)=>True
 |some (.dK _)=>True
 |some (.dT _)=>True
 |some (.set _ _)=>True
 |some (.ins _ _ _)=>True
 |some (.ext _)=>True
 |_=>False
section
variable {P:Program}{w:World}{H:Hp}{h h':Heap}{x e:Addr}{o':HO}
theorem HOk.write(ok:HOk P w H h)(mu:CG (H x))(he:e=x\/H e=some (.own x))(k:∀b u,b≠e->h.get? b=some u->h'.get? b=some u)(heo:∃u,h'.get? e=some u)
  (new:ObjOk P w (upd H x o') h' x o'):HOk P w (upd H x o') h':=fun b u q=>by
 have nown:∀c y,H c=some (.own y)->c≠x:=fun c y r z=>by subst z;rw [r] at mu;exact mu
 have ntup:∀c xs,H c=some (.tup xs)->c≠x:=fun c xs r z=>by subst z;rw [r] at mu;exact mu
 by_cases hb:b=x
 ·subst hb;rw [upd_same] at q;cases q;exact new
 ·rw [bf hb] at q
  by_cases hbe:b=e
  ·have q':H b=some (.own x):=by
    rcases he with z|z
    ·exact absurd (hbe.trans z) hb
    ·rw [hbe];exact z
   rw [q] at q';cases q';obtain ⟨v,hv⟩:=heo;exact ⟨v,by rw [hbe];exact hv⟩
  ·refine (ok b u q).stay (fun c v hc r=>k c v ?_ r) (fun c r=>by rw [bf (nown c b r)];exact r) fun c xs r=>by rw [bf (ntup c xs r)];exact r
   rcases hc with rfl|hc
   ·exact hbe
   ·rintro rfl
    rcases he with z|z
    ·exact nown c b hc z
    ·rw [hc] at z;cases z;exact hb rfl
end
structure Un(fs ex:List Addr)(H H':Hp)(h h':Heap):Prop where
 keep:∀b o,h.get? b=some o->H b=none->b∉fs->b∉ex->h'.get? b=some o
 slot:∀b o,h.get? b=some o->H b=none->b∈fs->b∉ex->∃sl,h'.get? b=some { o with slots:=sl }
 free:∀b o,h.get? b=some o->H b=none->b∉ex->H' b=none
 there:∀b o,h.get? b=some o->b∉ex->∃o',h'.get? b=some o'
 tups:∀b xs,H b=some (.tup xs)->H' b=some (.tup xs)
 frzs:∀b o u,H b=some (.frz o u)->H' b=some (.frz o u)
 tbls:∀b ps,H b=some (.tbl ps)->∃more,H' b=some (.tbl (ps++more))
section
variable {fs fs' ex ex':List Addr}{H H1 H2:Hp}{h h1 h2 h':Heap}{a x e:Addr}{o:HO}
theorem Un.any(u:Un fs ex H H1 h h1){b:Addr}{ob:Obj}(q:h.get? b=some ob)(n:H b=none)(hx:b∉ex):∃sl,h1.get? b=some { ob with slots:=sl }:=by
 by_cases hb:b∈fs
 ·exact u.slot b ob q n hb hx
 ·exact ⟨ob.slots,u.keep b ob q n hb hx⟩
theorem Un.kept(k:∀b u,h.get? b=some u->h'.get? b=some u):Un fs ex H H h h':=
 ⟨fun b ob q _ _ _=>k b ob q,fun b ob q _ _ _=>⟨ob.slots,k b ob q⟩,fun _ _ _ n _=>n,fun b ob q _=>⟨ob,k b ob q⟩,fun _ _ q=>q,fun _ _ _ q=>q,fun _ ps q=>⟨#[],by rw [q];simp⟩⟩
theorem Un.refl:Un fs ex H H h h:=Un.kept fun _ _ q=>q
theorem Un.laid(k:∀b u,h.get? b=some u->h'.get? b=some u)(hp:h.objs.size<=a)(hn:H a=none):Un fs ex H (upd H a o) h h' where
 keep:=fun b u q _ _ _=>k b u q
 slot:=fun b u q _ _ _=>⟨u.slots,k b u q⟩
 free:=fun b u q n _=>by rw [bf (Nat.ne_of_lt (Nat.lt_of_lt_of_le (Heap.lt_size q) hp))];exact n
 there:=fun b u q _=>⟨u,k b u q⟩
 tups:=fun b xs q=>by rw [bf (bO q hn)];exact q
 frzs:=fun b u xs q=>by rw [bf (bO q hn)];exact q
 tbls:=fun b ps q=>⟨#[],by rw [bf (bO q hn),q];simp⟩
theorem Un.write(mu:CG (H x))(he:e=x\/H e=some (.own x))(k:∀b u,b≠e->h.get? b=some u->h'.get? b=some u)(heo:∃u,h'.get? e=some u):Un fs ex H (upd H x o) h h':=by
 have hx:∀b,H b=none->b≠x:=fun b n z=>by subst z;rw [n] at mu;exact mu
 have hb:∀b,H b=none->b≠e:=fun b n z=>by
  subst z;rcases he with r|r
  ·exact hx b n r
  ·rw [n] at r;cases r
 have hm:∀b u,H b=some u->¬CG (some u)->b≠x:=fun b u q nm z=>by subst z;rw [q] at mu;exact nm mu
 refine ⟨fun b u q n _ _=>k b u (hb b n) q,fun b u q n _ _=>⟨u.slots,k b u (hb b n) q⟩,fun b u q n _=>by rw [bf (hx b n)];exact n,fun b u q _=>?_,
  fun b xs q=>by rw [bf (hm b _ q fun z=>z)];exact q,fun b u xs q=>by rw [bf (hm b _ q fun z=>z)];exact q,fun b ps q=>⟨#[],by rw [bf (hm b _ q fun z=>z),q];simp⟩⟩
 by_cases hbe:b=e
 ·subst hbe;exact heo
 ·exact ⟨u,k b u hbe q⟩
end
def trk(h:Heap)(H:Hp):List Addr:=(List.range h.objs.size).filter fun a=>(H a).isSome
def me(h:Heap)(H:Hp):Heap:=W.hideAll h (trk h H)
theorem rZ(h:Heap)(H:Hp):(me h H).objs.size=h.objs.size:=W.hideAll_size _ _
theorem vP{h:Heap}{H:Hp}{b:Addr}{o:Obj}(e:h.get? b=some o)(n:H b=none):(me h H).get? b=some o:=
 W.hideAll_get _ e fun hm=>by
  have q:(H b).isSome=true:=(List.mem_filter.mp hm).2;rw [n] at q;simp at q
theorem wV{h:Heap}{H:Hp}{b:Addr}{o:Obj}(e:(me h H).get? b=some o):h.get? b=some o/\H b=none:=by
 have e':h.get? b=some o:=W.of_hideAll (trk h H) e;refine ⟨e',?_⟩;cases q:H b with
 |none=>rfl
 |some x=>
  have hm:b∈trk h H:=List.mem_filter.mpr ⟨List.mem_range.mpr (Heap.lt_size e'),by simp [q]⟩
  have z:(me h H).get? b=none:=W.hideAll_none (trk h H) hm;rw [z] at e;cases e
end L2
namespace L2
open PySem PySem.Spec PyProof.Rows
structure Mod(K:W.Frag)(mg:Str->Option Value)(base:Heap):Prop where
 kin:K.In base
 glob:base.Ns mainGlobals mg
 blt:∃mb,base.Ns builtinsNs mb/\∀x:Str,x≠"__name__"->mb x=bootBuiltins x
 nolimit:base.NoLimit
structure Cx where
 prog:Program
 w:World
 K:W.Frag
 mg:Str->Option Value
 base:Heap
 A:Around
 N:List Str
 s₀:Shared
 H₀:Hp
 env:Env
 outer:List Env
 stack:List Env
 ex:List Addr
 fn:Str->Bool
 calm:Bool
 pn:List (Addr×Obj)
 xe:Value->Shared->Prop
def gf(l:List Env):List Addr:=l.filterMap (·.frame)
abbrev Cx.fs(X:Cx):List Addr:=gf X.outer
def Cj(sc:Scope)(x:Str):Prop:=sc.names.lookup x=some .local\/sc.names.lookup x=some .cell\/sc.names.lookup x=some .free
def wT(sc:Scope)(x:Str):Prop:=sc.names.lookup x=some .local\/sc.names.lookup x=some .cell
def Look(env:Env)(h:Heap)(m:Str->Option Value)(x:Str)(u:Value):Prop:=
 (env.kindOf x=some .local/\m x=some u)\/((env.kindOf x=some .cell\/env.kindOf x=some .free)/\∃c,env.cells.lookup x=some c/\h.IsCell c (some u))
structure Cx.Ok(X:Cx):Prop where
 mod:Mod X.K X.mg X.base
 kind:X.env.scope.kind=.function
 glob:X.env.globals=mainGlobals
 blt:X.env.builtins=builtinsNs
 above:X.s₀.heap.objs.size<=X.env.locals
 inj:∀x y c,X.env.cells.lookup x=some c->X.env.cells.lookup y=some c->x=y
 has:∀x,(X.env.kindOf x=some .cell\/X.env.kindOf x=some .free)->∃c,X.env.cells.lookup x=some c
 cab:∀x c,X.fn x=true->X.env.cells.lookup x=some c->X.s₀.heap.objs.size<=c
 hd:X.calm=true->X.A.handled=none
 frames:X.A.frames=some X.stack
 stk:X.stack=X.outer\/(X.stack=X.env::X.outer/\X.env.frame=some X.env.locals)
 exf:∀b∈X.ex,b≠X.env.locals/\∀x c,X.env.cells.lookup x=some c->c≠b
 bs:∀b o,X.base.get? b=some o->X.s₀.heap.get? b=some o/\X.H₀ b=none
 bsz:X.base.objs.size<=X.s₀.heap.objs.size
 noex:∀b o,X.base.get? b=some o->b∉X.ex
 exfs:∀b∈X.ex,b∉X.fs
 funs:X.s₀.heap.FunFrames X.base X.outer
 frf:∀b∈X.fs,X.H₀ b=none
structure Inv(X:Cx)(pins:List (Addr×Obj))(σ:List (Option V))(H:Hp)(s:Shared):Prop where
 ok:X.Ok
 os:s.os=X.s₀.os
 bare:AllBare s.gens
 base:Un X.fs X.ex X.H₀ H X.s₀.heap s.heap
 loc:∃m,s.heap.Ns X.env.locals m/\∀(i:Nat) (x:Str) (v:V),X.N[i]?=some x->σ[i]?=some (some v)->Cj X.env.scope x->∃u,RelV v u/\Look X.env s.heap m x u
 cell:∀x c,X.env.cells.lookup x=some c->∃v,s.heap.IsCell c v
 free:H X.env.locals=none
 freeC:∀x c,X.env.cells.lookup x=some c->H c=none
 pin:∀p∈X.pn++pins,s.heap.get? p.1=some p.2/\H p.1=none/\p.1≠X.env.locals/\p.1∉X.fs/\∀v,p.2.data≠.cell v
 hok:HOk X.prog X.w H s.heap
 len:σ.length=X.N.length
section
variable {X:Cx}{pins:List (Addr×Obj)}{σ:List (Option V)}{H H':Hp}{s:Shared}{h':Heap}
theorem Cx.Ok.nofr(ok:X.Ok){b:Addr}{o:Obj}(e:X.base.get? b=some o):b∉X.fs:=fun hb=>by
 have:=(ok.funs.mem hb).1;rw [e] at this;cases this
theorem Inv.bs(I:Inv X pins σ H s):∀b o,X.base.get? b=some o->s.heap.get? b=some o/\H b=none:=fun b o e=>
 ⟨I.base.keep b o (I.ok.bs b o e).1 (I.ok.bs b o e).2 (I.ok.nofr e) (I.ok.noex b o e),I.base.free b o (I.ok.bs b o e).1 (I.ok.bs b o e).2 (I.ok.noex b o e)⟩
theorem Inv.bk(I:Inv X pins σ H s):∀b o,X.base.get? b=some o->s.heap.get? b=some o:=fun b o e=>(I.bs b o e).1
theorem Inv.mod(I:Inv X pins σ H s):Mod X.K X.mg X.base:=I.ok.mod
theorem Inv.kIn(I:Inv X pins σ H s):X.K.In s.heap:=I.ok.mod.kin.keeps I.bk
theorem Inv.lt(I:Inv X pins σ H s):X.env.locals<s.heap.objs.size:=let ⟨_,hn,_⟩:=I.loc;hn.lt
theorem Inv.sz(I:Inv X pins σ H s):X.s₀.heap.objs.size<=s.heap.objs.size:=Nat.le_trans I.ok.above (Nat.le_of_lt I.lt)
theorem Inv.nofs(I:Inv X pins σ H s){a:Addr}(h:s.heap.objs.size<=a):a∉X.fs:=fun hb=>by
 obtain ⟨_,o,ho,_⟩:=I.ok.funs.mem hb;exact absurd (Nat.lt_of_lt_of_le (Heap.lt_size ho) (Nat.le_trans I.sz h)) (Nat.lt_irrefl _)
theorem Inv.cne(I:Inv X pins σ H s):∀x c,X.env.cells.lookup x=some c->c≠X.env.locals:=fun x c e z=>by
 obtain ⟨v,o,ho,hd⟩:=I.cell x c e;obtain ⟨m,⟨o',es,ep,ho',hd',_⟩,_⟩:=I.loc;rw [z,ho'] at ho;cases ho;rw [hd'] at hd;cases hd
theorem Inv.funs(I:Inv X pins σ H s):s.heap.FunFrames X.base X.outer:=by
 have all:∀(l:List Env),(∀b∈gf l,b∈X.fs)->X.s₀.heap.FunFrames X.base l->s.heap.FunFrames X.base l:=by
  intro l
  induction l with
  |nil=>intro _ _;trivial
  |cons env r ih=>
   intro hs hl;obtain ⟨hk,⟨L,o,hf,hn,ho,hd⟩,hr⟩:=hl;have hL:L∈X.fs:=hs L (by unfold gf;rw [List.filterMap_cons,hf];exact List.mem_cons_self)
   obtain ⟨sl,e⟩:=I.base.slot L o ho (I.ok.frf L hL) hL fun z=>I.ok.exfs L z hL;exact ⟨hk,⟨L,_,hf,hn,e,hd⟩,ih (fun b hb=>hs b (by unfold gf;rw [List.filterMap_cons,hf];exact List.mem_cons_of_mem _ hb)) hr⟩
 exact all X.outer (fun _ hb=>hb) I.ok.funs
theorem Inv.stack(I:Inv X pins σ H s):s.heap.FunFrames X.base X.stack:=by
 rcases I.ok.stk with e|⟨e,hf⟩
 ·rw [e];exact I.funs
 ·rw [e]
  obtain ⟨m,hn,_⟩:=I.loc;refine .cons (by rw [I.ok.kind];decide) hf hn ?_ I.funs
  exact Heap.get?_none_of_le (Nat.le_trans I.ok.bsz I.ok.above)
theorem Inv.stkSub(I:Inv X pins σ H s):∀b∈gf X.stack,b∈X.env.locals::X.fs:=fun b hb=>by
 rcases I.ok.stk with e|⟨e,hf⟩
 ·rw [e] at hb;exact List.mem_cons_of_mem _ hb
 ·rw [e] at hb
  unfold gf at hb;rw [List.filterMap_cons,hf] at hb;exact hb
theorem Inv.stkFree(I:Inv X pins σ H s):∀b∈gf X.stack,H b=none:=fun b hb=>by
 rcases List.mem_cons.mp (I.stkSub b hb) with e|hb
 ·rw [e];exact I.free
 ·obtain ⟨_,o,ho,_⟩:=I.ok.funs.mem hb
  exact I.base.free b o ho (I.ok.frf b hb) fun z=>I.ok.exfs b z hb
theorem Inv.step{g':Array GenState}{t':Nat}{d':Drawn}{ch:List Addr}(I:Inv X pins σ H s)
  (hch:∀b∈ch,(b∈X.ex\/X.s₀.heap.objs.size<=b)/\b≠X.env.locals/\(∀x c,X.env.cells.lookup x=some c->c≠b)/\∀p∈X.pn++pins,p.1≠b)
  (keep:∀b o,b≠X.env.locals->b∉X.fs->b∉ch->s.heap.get? b=some o->H b=none->h'.get? b=some o)
  (slot:∀b o,b≠X.env.locals->b∈X.fs->b∉ch->s.heap.get? b=some o->H b=none->∃sl,h'.get? b=some { o with slots:=sl }) (free:∀b o,b∉ch->s.heap.get? b=some o->H b=none->H' b=none)
  (there:∀b o,b∉ch->s.heap.get? b=some o->∃o',h'.get? b=some o')
  (tups:∀b xs,H b=some (.tup xs)->H' b=some (.tup xs)) (frzs:∀b o u,H b=some (.frz o u)->H' b=some (.frz o u)) (tbls:∀b ps,H b=some (.tbl ps)->∃more,H' b=some (.tbl (ps++more)))
  (ns:∀m,s.heap.Ns X.env.locals m->h'.Ns X.env.locals m) (hok:HOk X.prog X.w H' h') (hg:AllBare g'):
  Inv X pins σ H' { s with heap:=h',gens:=g',drawn:=d',toks:=t' }:=by
 have neL:∀b o,X.s₀.heap.get? b=some o->b≠X.env.locals:=fun b o e=>Nat.ne_of_lt (Nat.lt_of_lt_of_le (Heap.lt_size e) I.ok.above);have neC:∀b o,X.s₀.heap.get? b=some o->b∉X.ex->b∉ch:=fun b o e hx hb=>by
  rcases (hch b hb).1 with z|z
  ·exact hx z
  ·exact absurd (Nat.lt_of_lt_of_le (Heap.lt_size e) z) (Nat.lt_irrefl _)
 have cellK:∀x c,X.env.cells.lookup x=some c->∀v,s.heap.IsCell c v->h'.IsCell c v:=fun x c e v ⟨o,ho,hd⟩=>by
  have nch:c∉ch:=fun z=>(hch c z).2.2.1 x c e rfl
  by_cases hc:c∈X.fs
  ·obtain ⟨sl,q⟩:=slot c o (I.cne x c e) hc nch ho (I.freeC x c e)
   exact ⟨_,q,hd⟩
  ·exact ⟨o,keep c o (I.cne x c e) hc nch ho (I.freeC x c e),hd⟩
 refine ⟨I.ok,I.os,hg,⟨fun b o e n hb hx=>?_,fun b o e n hb hx=>?_,fun b o e n hx=>?_,fun b o e hx=>?_,fun b xs e=>tups b xs (I.base.tups b xs e),fun b o xs e=>frzs b o xs (I.base.frzs b o xs e),fun b ps e=>?_⟩,?_,fun x c e=>?_,?_,fun x c e=>?_,fun p hp=>?_,hok,I.len⟩
 ·exact keep b o (neL b o e) hb (neC b o e hx) (I.base.keep b o e n hb hx) (I.base.free b o e n hx)
 ·obtain ⟨sl,e1⟩:=I.base.slot b o e n hb hx
  obtain ⟨sl',e2⟩:=slot b _ (neL b o e) hb (neC b o e hx) e1 (I.base.free b o e n hx);exact ⟨sl',e2⟩
 ·obtain ⟨o',e1⟩:=I.base.there b o e hx
  exact free b o' (neC b o e hx) e1 (I.base.free b o e n hx)
 ·obtain ⟨o',e1⟩:=I.base.there b o e hx
  exact there b o' (neC b o e hx) e1
 ·obtain ⟨m1,e1⟩:=I.base.tbls b ps e
  obtain ⟨m2,e2⟩:=tbls b _ e1;exact ⟨m1++m2,by rw [e2,Array.append_assoc]⟩
 ·obtain ⟨m,hn,hl⟩:=I.loc
  refine ⟨m,ns m hn,fun i x v e1 e2 e3=>?_⟩;obtain ⟨u,r,l⟩:=hl i x v e1 e2 e3;refine ⟨u,r,?_⟩;rcases l with l|⟨k,c,e,z⟩
  ·exact .inl l
  ·exact .inr ⟨k,c,e,cellK x c e _ z⟩
 ·obtain ⟨v,z⟩:=I.cell x c e
  exact ⟨v,cellK x c e v z⟩
 ·obtain ⟨m,⟨o,_,_,ho,_⟩,_⟩:=I.loc
  exact free _ o (fun z=>(hch _ z).2.1 rfl) ho I.free
 ·obtain ⟨v,o,ho,hd⟩:=I.cell x c e
  exact free c o (fun z=>(hch c z).2.2.1 x c e rfl) ho (I.freeC x c e)
 ·obtain ⟨e,n,ne,nf,d⟩:=I.pin p hp
  have nch:p.1∉ch:=fun z=>(hch p.1 z).2.2.2 p hp rfl;exact ⟨keep p.1 p.2 ne nf nch e n,free p.1 p.2 nch e n,ne,nf,d⟩
theorem Inv.un{t':Nat}(I:Inv X pins σ H s)(u:Un X.fs [] H H' s.heap h')(hok:HOk X.prog X.w H' h'):Inv X pins σ H' { s with heap:=h',toks:=t' }:=by
 obtain ⟨m,⟨o,es,ep,ho,r⟩,_⟩:=id I.loc;obtain ⟨sl,hL⟩:=u.any ho I.free (by simp)
 exact I.step (g':=s.gens) (d':=s.drawn) (ch:=[]) (fun _ z=>nomatch z) (fun b o _ hb _ e n=>u.keep b o e n hb (by simp)) (fun b o _ hb _ e n=>u.slot b o e n hb (by simp)) (fun b o _ e n=>u.free b o e n (by simp)) (fun b o _ e=>u.there b o e (by simp)) u.tups u.frzs u.tbls (fun m' hm=>by
  obtain ⟨o',es',ep',ho',r'⟩:=hm;rw [ho] at ho';cases ho';exact ⟨_,es',ep',hL,r'⟩) hok I.bare
theorem Inv.call{g':Array GenState}{t':Nat}{d':Drawn}{ch:List Addr}(I:Inv X pins σ H s)(u:Un (gf X.stack) ch H H' s.heap h')(hok:HOk X.prog X.w H' h')(hg:AllBare g')
  (hch:∀b∈ch,(b∈X.ex\/X.s₀.heap.objs.size<=b)/\b≠X.env.locals/\(∀x c,X.env.cells.lookup x=some c->c≠b)/\∀p∈X.pn++pins,p.1≠b):
  Inv X pins σ H' { s with heap:=h',gens:=g',drawn:=d',toks:=t' }:=by
 obtain ⟨m,⟨o,es,ep,ho,r⟩,_⟩:=id I.loc;obtain ⟨sl,hL⟩:=u.any ho I.free fun z=>(hch _ z).2.1 rfl;exact I.step (ch:=ch) hch (fun b o hL hb hc e n=>u.keep b o e n (fun z=>(List.mem_cons.mp (I.stkSub b z)).elim hL hb) hc) (fun b o _ _ hc e n=>u.any e n hc) (fun b o hc e n=>u.free b o e n hc) (fun b o hc e=>u.there b o e hc) u.tups u.frzs u.tbls (fun m' hm=>by
  obtain ⟨o',es',ep',ho',r'⟩:=hm;rw [ho] at ho';cases ho';exact ⟨_,es',ep',hL,r'⟩) hok hg
theorem Inv.turned{t':Nat}{it:Addr}(I:Inv X pins σ H s)(k:∀b o,b≠it->s.heap.get? b=some o->h'.get? b=some o)(hn:H it=none)(hL:it≠X.env.locals)
  (h1:it∈X.ex\/X.s₀.heap.objs.size<=it) (h2:∀x c,X.env.cells.lookup x=some c->c≠it) (h3:∀p∈X.pn++pins,p.1≠it):Inv X pins σ H { s with heap:=h',toks:=t' }:=by
 have nit:∀b u,H b=some u->b≠it:=fun b u e z=>by rw [z,hn] at e;cases e
 refine I.step (g':=s.gens) (d':=s.drawn) (ch:=[it]) (fun b hb=>?_) (fun b o _ _ hc e _=>k b o (fun z=>hc (by simp [z])) e) (fun b o _ _ hc e _=>⟨o.slots,k b o (fun z=>hc (by simp [z])) e⟩) (fun _ _ _ _ n=>n)
  (fun b o hc e=>⟨o,k b o (fun z=>hc (by simp [z])) e⟩) (fun _ _ e=>e) (fun _ _ _ e=>e) (fun b ps e=>⟨#[],by rw [e];simp⟩) (fun m hm=>?_) (fun b u e=>?_) I.bare
 ·have e:b=it:=by simpa using hb
  subst e;exact ⟨h1,hL,h2,h3⟩
 ·obtain ⟨o,es,ep,ho,r⟩:=hm
  exact ⟨o,es,ep,k _ o (Ne.symm hL) ho,r⟩
 ·refine (I.hok b u e).stay (fun c v hc q=>k c v ?_ q) (fun _ q=>q) fun _ _ q=>q
  rcases hc with z|z
  ·rw [z];exact nit b u e
  ·exact nit c _ z
theorem Inv.tok(I:Inv X pins σ H s)(t:Nat):Inv X pins σ H { s with toks:=t }:=I.un (h':=s.heap) (t':=t) Un.refl I.hok
theorem Inv.kept{t':Nat}(I:Inv X pins σ H s)(k:∀b u,s.heap.get? b=some u->h'.get? b=some u):Inv X pins σ H { s with heap:=h',toks:=t' }:=I.un (Un.kept k) (I.hok.kept k)
theorem Inv.laid{a:Addr}{o:HO}{t':Nat}(I:Inv X pins σ H s)(k:∀b u,s.heap.get? b=some u->h'.get? b=some u)(hp:s.heap.objs.size<=a)(new:ObjOk X.prog X.w (upd H a o) h' a o):
  Inv X pins σ (upd H a o) { s with heap:=h',toks:=t' }:=I.un (Un.laid k hp (I.hok.fresh hp)) (I.hok.laid k hp new)
theorem Inv.write{x e:Addr}{o:HO}{t':Nat}(I:Inv X pins σ H s)(mu:CG (H x))(he:e=x\/H e=some (.own x))(k:∀b u,b≠e->s.heap.get? b=some u->h'.get? b=some u)(heo:∃u,h'.get? e=some u)
  (new:ObjOk X.prog X.w (upd H x o) h' x o):Inv X pins σ (upd H x o) { s with heap:=h',toks:=t' }:=I.un (Un.write mu he k heo) (I.hok.write mu he k heo new)
theorem Inv.pins_of{pins':List (Addr×Obj)}(I:Inv X pins σ H s)(h:∀p∈pins',s.heap.get? p.1=some p.2/\H p.1=none/\p.1≠X.env.locals/\p.1∉X.fs/\∀v,p.2.data≠.cell v):Inv X pins' σ H s:=
 ⟨I.ok,I.os,I.bare,I.base,I.loc,I.cell,I.free,I.freeC,fun p hp=>(List.mem_append.mp hp).elim (fun z=>I.pin p (List.mem_append_left _ z)) (h p),I.hok,I.len⟩
theorem jG{N:List Str}(hN:N.Nodup){i j:Nat}{x:Str}(a:N[i]?=some x)(b:N[j]?=some x):i=j:=by
 obtain ⟨h1,e1⟩:=List.getElem?_eq_some_iff.mp a;obtain ⟨h2,e2⟩:=List.getElem?_eq_some_iff.mp b;exact (List.getElem_inj hN).mp (e1.trans e2.symm)
theorem sH{M:Model}{A:Around}{E:Value->Shared->Prop}{i:Nat}{x:Str}{v:V}{u:Value}{Q:Unit->Shared->Prop}(I:Inv X pins σ H s)(hN:X.N.Nodup)(hi:X.N[i]?=some x)(hx:wT X.env.scope x)(r:RelV v u)
  (h:∀s',Inv X pins (σ.set i (some v)) H s'->(∃a,Heap.SameBut a s.heap s'.heap/\(a=X.env.locals\/X.env.cells.lookup x=some a))->Q () s') (hf:X.fn x=true\/X.env.scope.names.lookup x=some .local:=by first|exact .inl rfl|exact .inr rfl|assumption):wpAny M A (storeName X.env x u) Q E s:=by
 obtain ⟨m,hn,hl⟩:=id I.loc;have hcls:(X.env.scope.kind==.class||(X.env.scope.kind==.module&&X.env.locals != X.env.globals))=false:=by rw [I.ok.kind];rfl
 have hiσ:i<σ.length:=by rw [I.len];exact (List.getElem?_eq_some_iff.mp hi).1
 have cne:=I.cne;have tracked:∀{a:Addr} {h':Heap},(∃o,s.heap.get? a=some o/\H a=none)->Heap.SameBut a s.heap h'->HOk X.prog X.w H h':=fun {a h'} ha hs b ob e=>by
  obtain ⟨_,_,hfree⟩:=ha;refine (I.hok b ob e).stay (fun c w' hc q=>(hs.2 c ?_).trans q) (fun _ q=>q) fun _ _ q=>q
  rintro rfl
  rcases hc with rfl|hc
  ·rw [hfree] at e;cases e
  ·rw [hfree] at hc;cases hc
 rcases hx with hk|hk
 ·refine wpAny_storeName_local hk hn (fun h' hn' hs=>?_) hcls
  obtain ⟨oL,_,_,hoL,_⟩:=id hn;refine h _ ⟨I.ok,I.os,I.bare,⟨fun b o e n hb hx=>?_,fun b o e n hb hx=>?_,I.base.free,fun b o e hx=>?_,I.base.tups,I.base.frzs,I.base.tbls⟩,⟨_,hn',fun j y v' e1 e2 e3=>?_⟩,fun y c e=>?_,I.free,I.freeC,fun p hp=>?_,tracked ⟨oL,hoL,I.free⟩ hs,by simpa using I.len⟩ ⟨_,hs,.inl rfl⟩
  ·exact (hs.2 b (Nat.ne_of_lt (Nat.lt_of_lt_of_le (Heap.lt_size e) I.ok.above))).trans (I.base.keep b o e n hb hx)
  ·obtain ⟨sl,e1⟩:=I.base.slot b o e n hb hx
   exact ⟨sl,(hs.2 b (Nat.ne_of_lt (Nat.lt_of_lt_of_le (Heap.lt_size e) I.ok.above))).trans e1⟩
  ·obtain ⟨o',e1⟩:=I.base.there b o e hx
   exact ⟨o',(hs.2 b (Nat.ne_of_lt (Nat.lt_of_lt_of_le (Heap.lt_size e) I.ok.above))).trans e1⟩
  ·by_cases hj:j=i
   ·subst hj
    rw [hi] at e1;cases e1;rw [List.getElem?_set_self hiσ] at e2;cases e2;exact ⟨u,r,.inl ⟨hk,by simp⟩⟩
   ·rw [List.getElem?_set_ne (Ne.symm hj)] at e2
    obtain ⟨u',r',q⟩:=hl j y v' e1 e2 e3;refine ⟨u',r',?_⟩;rcases q with ⟨k,e⟩|⟨k,c,e,z⟩
    ·refine .inl ⟨k,?_⟩
     have:y≠x:=fun e=>hj (jG hN e1 (e▸hi));simp [this,e]
    ·exact .inr ⟨k,c,e,z.sameBut hs (cne y c e)⟩
  ·obtain ⟨w',z⟩:=I.cell y c e
   exact ⟨w',z.sameBut hs (cne y c e)⟩
  ·obtain ⟨e,n,ne,nf,d⟩:=I.pin p hp
   exact ⟨(hs.2 p.1 ne).trans e,n,ne,nf,d⟩
 ·have hfn:X.fn x=true:=by
   rcases hf with z|z
   ·exact z
   ·rw [z] at hk;cases hk
  obtain ⟨c,hc⟩:=I.ok.has x (.inl hk);obtain ⟨w',z⟩:=I.cell x c hc;refine wpAny_storeName_cell I.ok.kind hk hc z (fun h' hc' hs=>?_);obtain ⟨oc,hoc,hocd⟩:=id z;refine h { s with heap:=h' } ⟨I.ok,I.os,I.bare,⟨fun b o e n hb hx=>?_,fun b o e n hb hx=>?_,I.base.free,fun b o e hx=>?_,I.base.tups,I.base.frzs,I.base.tbls⟩,⟨m,hn.sameBut hs (Ne.symm (cne x c hc)),fun j y v' e1 e2 e3=>?_⟩,fun y c' e=>?_,I.free,I.freeC,fun p hp=>?_,tracked ⟨oc,hoc,I.freeC x c hc⟩ hs,by simpa using I.len⟩ ⟨c,hs,.inr hc⟩
  ·exact (hs.2 b (Nat.ne_of_lt (Nat.lt_of_lt_of_le (Heap.lt_size e) (I.ok.cab x c hfn hc)))).trans (I.base.keep b o e n hb hx)
  ·obtain ⟨sl,e1⟩:=I.base.slot b o e n hb hx
   exact ⟨sl,(hs.2 b (Nat.ne_of_lt (Nat.lt_of_lt_of_le (Heap.lt_size e) (I.ok.cab x c hfn hc)))).trans e1⟩
  ·obtain ⟨o',e1⟩:=I.base.there b o e hx
   exact ⟨o',(hs.2 b (Nat.ne_of_lt (Nat.lt_of_lt_of_le (Heap.lt_size e) (I.ok.cab x c hfn hc)))).trans e1⟩
  ·by_cases hj:j=i
   ·subst hj
    rw [hi] at e1;cases e1;rw [List.getElem?_set_self hiσ] at e2;cases e2;exact ⟨u,r,.inr ⟨.inl hk,c,hc,hc'⟩⟩
   ·rw [List.getElem?_set_ne (Ne.symm hj)] at e2
    obtain ⟨u',r',q⟩:=hl j y v' e1 e2 e3;refine ⟨u',r',?_⟩;rcases q with q|⟨k,c',e,z'⟩
    ·exact .inl q
    ·refine .inr ⟨k,c',e,z'.sameBut hs ?_⟩
     rintro rfl
     exact hj (jG hN e1 (I.ok.inj _ _ _ e hc▸hi))
  ·by_cases hcc:c'=c
   ·subst hcc;exact ⟨_,hc'⟩
   ·obtain ⟨w2,z2⟩:=I.cell y c' e
    exact ⟨w2,z2.sameBut hs hcc⟩
  ·obtain ⟨e,n,ne,nf,d⟩:=I.pin p hp
   refine ⟨(hs.2 p.1 ?_).trans e,n,ne,nf,d⟩;intro q;rw [q,hoc] at e;have q':oc=p.2:=Option.some.inj e;exact d w' (by rw [<- q'];exact hocd)
theorem il{M:Model}{A:Around}{E:Value->Shared->Prop}{i:Nat}{x:Str}{v:V}{u:Value}{Q:Unit->Shared->Prop}(I:Inv X pins σ H s)(hN:X.N.Nodup)(hi:X.N[i]?=some x)(hx:wT X.env.scope x)(r:RelV v u)
  (h:∀s',Inv X pins (σ.set i (some v)) H s'->Q () s') (hf:X.fn x=true\/X.env.scope.names.lookup x=some .local:=by first|exact .inl rfl|exact .inr rfl|assumption):wpAny M A (storeName X.env x u) Q E s:=
 sH I hN hi hx r (fun s' I' _=>h s' I') hf
theorem Inv.call'{s':Shared}{ch:List Addr}(I:Inv X pins σ H s)(ho:s'.os=s.os)(u:Un (gf X.stack) ch H H' s.heap s'.heap)(hok:HOk X.prog X.w H' s'.heap)(hg:AllBare s'.gens)
  (hch:∀b∈ch,(b∈X.ex\/X.s₀.heap.objs.size<=b)/\b≠X.env.locals/\(∀x c,X.env.cells.lookup x=some c->c≠b)/\∀p∈X.pn++pins,p.1≠b):Inv X pins σ H' s':=by
 obtain ⟨h',g',d',t',o'⟩:=s';have e:o'=s.os:=ho;subst e;exact I.call (g':=g') (t':=t') (d':=d') u hok hg hch
end
abbrev XK:=Value->Option Addr->Hp->Prop
abbrev St:=List (Option V)
abbrev VK:=V->Hp->Prop
abbrev TE:=St->Hp->VK->Prop
abbrev TT:=St->Hp->(Bool->Hp->Prop)->Prop
abbrev TA:=St->Hp->(List V->Hp->Prop)->Prop
structure Ends where
 nx:St->Hp->Prop
 rt:VK
 bk:St->Hp->Prop:=fun _ _=>False
 ct:St->Hp->Prop:=fun _ _=>False
abbrev TS:=Ends->St->Hp->Prop
inductive EP(X:Cx)(pins:List (Addr×Obj))(σ:St)(Q:VK)(u:Value)(s':Shared):Prop
 |mk (v:V) (H':Hp) (h0:Inv X pins σ H' s') (h1:RelV v u) (h2:Q v H'):EP X pins σ Q u s'
inductive TP(X:Cx)(pins:List (Addr×Obj))(σ:St)(Q:Bool->Hp->Prop)(b:Bool)(s':Shared):Prop
 |mk (H':Hp) (h0:Inv X pins σ H' s') (h1:Q b H'):TP X pins σ Q b s'
inductive AP(X:Cx)(pins:List (Addr×Obj))(σ:St)(Q:List V->Hp->Prop)(us:List Value)(s':Shared):Prop
 |mk (vs:List V) (H':Hp) (h0:Inv X pins σ H' s') (h1:Vals vs us) (h2:Q vs H'):AP X pins σ Q us s'
def SP(X:Cx)(pins:List (Addr×Obj))(D:Ends)(f:Flow)(s':Shared):Prop:=
 match f with
 |.next=>∃σ' H',Inv X pins σ' H' s'/\D.nx σ' H'
 |.brk=>∃σ' H',Inv X pins σ' H' s'/\D.bk σ' H'
 |.cont=>∃σ' H',Inv X pins σ' H' s'/\D.ct σ' H'
 |.ret u=>∃v σ' H',Inv X pins σ' H' s'/\RelV v u/\D.rt v H'
def PE(X:Cx)(e:Expr)(t:TE):Prop:=
 ∀(pins:List (Addr×Obj)) (s:Shared) (σ:St) (H:Hp) (Q:VK),Inv X pins σ H s->t σ H Q->wpAny (model X.prog X.w) X.A (eval e X.env) (EP X pins σ Q) X.xe s
def PT(X:Cx)(e:Expr)(t:TT):Prop:=
 ∀(pins:List (Addr×Obj)) (s:Shared) (σ:St) (H:Hp) (Q:Bool->Hp->Prop),Inv X pins σ H s->t σ H Q->wpAny (model X.prog X.w) X.A (isTrue e X.env (eval e X.env)) (TP X pins σ Q) X.xe s
def PW(X:Cx)(e:Expr)(t:TT):Prop:=
 ∀(whole:Sem Value) (pins:List (Addr×Obj)) (s:Shared) (σ:St) (H:Hp) (Q:Bool->Hp->Prop),Inv X pins σ H s->t σ H Q->wpAny (model X.prog X.w) X.A (isTrue e X.env whole) (TP X pins σ Q) X.xe s
theorem Df{X:Cx}{e:Expr}{t:TT}(h:PW X e t):PT X e t:=h _
def PA(X:Cx)(es:List Expr)(t:TA):Prop:=
 ∀(pos:Pos) (pins:List (Addr×Obj)) (s:Shared) (σ:St) (H:Hp) (Q:List V->Hp->Prop),Inv X pins σ H s->t σ H Q->wpAny (model X.prog X.w) X.A (spliced (backTo pos (starEach es X.env))) (AP X pins σ Q) X.xe s
def PS(X:Cx)(st:Stmt)(t:TS):Prop:=
 ∀(pins:List (Addr×Obj)) (s:Shared) (σ:St) (H:Hp) (D:Ends),Inv X pins σ H s->t D σ H->wpAny (model X.prog X.w) X.A (exec st X.env) (SP X pins D) X.xe s
def qC(X:Cx)(st:List Stmt)(t:TS):Prop:=
 ∀(pins:List (Addr×Obj)) (s:Shared) (σ:St) (H:Hp) (D:Ends),Inv X pins σ H s->t D σ H->wpAny (model X.prog X.w) X.A (execs st X.env) (SP X pins D) X.xe s
theorem cL{α:Type}{t:Sem α}{Q Q':α->Shared->Prop}{M:Model}{A:Around}{E:Value->Shared->Prop}{s:Shared}(h:wpAny M A t Q E s)(hQ:∀a s,Q a s->Q' a s):wpAny M A t Q' E s:=wpAny_mono h hQ fun _ _ x=>x
end L2
namespace L2
open PySem PySem.Spec PyProof.Rows
section
variable {X:Cx}
def At(i:Nat):TE:=fun σ H Q=>∃v,σ[i]?=some (some v)/\Q v H
def tC(v:V):TE:=fun _ H Q=>Q v H
theorem t_{i:Nat}{x:Str}{pos:Pos}(hN:X.N[i]?=some x)(hv:Cj X.env.scope x)(hd:(x==("__debug__":Str))=false:=by decide)(hcd:(x==("__classdict__":Str))=false:=by decide):PE X (.Name x pos) (At i):=by
 intro pins s σ H Q I h;obtain ⟨v,e,h⟩:=h;obtain ⟨m,hn,hl⟩:=I.loc;obtain ⟨u,r,l⟩:=hl i x v hN e hv;have fin:EP X pins σ Q u s:=⟨v,H,I,r,h⟩;rcases l with ⟨hk,hm⟩|⟨hk,c,hc,hcell⟩
 ·exact wpAny_Name (wpAny_loadName_local I.ok.kind hk hn hm fin) hd
 ·rcases hk with hk|hk
  ·exact wpAny_Name (wpAny_loadName_cell I.ok.kind hk hc hcell fin) hd
  ·exact wpAny_Name (wpAny_loadName_free I.ok.kind hk hc hcell fin hcd) hd
theorem Aa{i j pos}:PE X (.Constant (.int i) j pos) (tC (.int i)):=fun _ _ _ H _ I h=>wpAny_Constant_int ⟨.int i,H,I.tok _,⟨_,rfl⟩,h⟩
theorem Cg{b j pos}:PE X (.Constant (.bool b) j pos) (tC (.bl b)):=fun _ _ _ H _ I h=>Constant_bool ⟨.bl b,H,I,rfl,h⟩
theorem B4{j pos}:PE X (.Constant .none j pos) (tC .non):=fun _ _ _ H _ I h=>Constant_none ⟨.non,H,I,rfl,h⟩
theorem uN{x j pos}:PE X (.Constant (.str x) j pos) (tC (.str x)):=fun _ _ _ H _ I h=>Calls.Constant_str ⟨.str x,H,I.tok _,⟨_,rfl⟩,h⟩
def Gl(X:Cx)(x:Str):Prop:=X.env.kindOf x=some .globalImplicit
theorem gi{E:Value->Shared->Prop}{pins:List (Addr×Obj)}{s:Shared}{σ:St}{H:Hp}{x:Str}{u:Value}{pos:Pos}{Q:Value->Shared->Prop}(I:Inv X pins σ H s)(hg:Gl X x)(hm:X.mg x=some u)(h:Q u s)
  (hd:(x==("__debug__":Str))=false:=by decide):wpAny (model X.prog X.w) X.A (eval (.Name x pos) X.env) Q E s:=
 Calls.Name_function_global I.ok.kind hg (Calls.loadGlobal_global (by rw [I.ok.glob];exact I.mod.glob.keeps I.bk) hm h) hd
theorem gA{E:Value->Shared->Prop}{pins:List (Addr×Obj)}{s:Shared}{σ:St}{H:Hp}{x:Str}{u:Value}{pos:Pos}{Q:Value->Shared->Prop}(I:Inv X pins σ H s)(hg:Gl X x)(hm:X.mg x=none)(hv:bootBuiltins x=some u)(h:Q u s)
  (hn:x≠"__name__":=by decide) (hd:(x==("__debug__":Str))=false:=by decide):wpAny (model X.prog X.w) X.A (eval (.Name x pos) X.env) Q E s:=by
 obtain ⟨mb,h1,h2⟩:=I.mod.blt;exact Calls.Name_function_global I.ok.kind hg (Calls.loadGlobal_builtin (by rw [I.ok.glob];exact I.mod.glob.keeps I.bk) hm (by rw [I.ok.blt];exact h1.keeps I.bk) ((h2 x hn).trans hv) h) hd
theorem y_{x:Str}{v:V}{u:Value}{pos:Pos}(hg:Gl X x)(hm:X.mg x=some u)(r:RelV v u)(hd:(x==("__debug__":Str))=false:=by decide):PE X (.Name x pos) (tC v):=
 fun _ _ _ H _ I h=>gi I hg hm ⟨v,H,I,r,h⟩ hd
theorem yR{x:Str}{v:V}{u:Value}{pos:Pos}(hg:Gl X x)(hm:X.mg x=none)(hv:bootBuiltins x=some u)(r:RelV v u)(hn:x≠"__name__":=by decide)(hd:(x==("__debug__":Str))=false:=by decide):PE X (.Name x pos) (tC v):=
 fun _ _ _ H _ I h=>gA I hg hm hv ⟨v,H,I,r,h⟩ hn hd
variable {a b:Expr}{ta tb:TE}{pos:Pos}
variable {tA tB':TT}{rest:List Expr}
def tAnd(t u:TT):TT:=fun σ H Q=>t σ H fun c H1=>if c=true then u σ H1 Q else Q false H1
def tOr(t u:TT):TT:=fun σ H Q=>t σ H fun c H1=>if c=true then Q true H1 else u σ H1 Q
def tNot(t:TT):TT:=fun σ H Q=>t σ H fun c H1=>Q (!c) H1
theorem y9(ha:PT X a tA):PW X (.BoolOp .And [a] pos) tA:=by
 intro wh pins s σ H Q I h;refine isTrue_and (cL (ha pins s σ H Q I h) fun c s1 e=>?_);cases c with
 |true=>exact isTrue_and_nil e
 |false=>exact e
theorem AU(ha:PT X a tA):PW X (.BoolOp .Or [a] pos) tA:=by
 intro wh pins s σ H Q I h;refine isTrue_or (cL (ha pins s σ H Q I h) fun c s1 e=>?_);cases c with
 |false=>exact isTrue_or_nil e
 |true=>exact e
theorem Ac(ha:PT X a tA)(hb:PW X (.BoolOp .And (b::rest) pos) tB'):PW X (.BoolOp .And (a::b::rest) pos) (tAnd tA tB'):=by
 intro wh pins s σ H Q I h;refine isTrue_and (cL (ha pins s σ H _ I h) fun c s1 ⟨H1,I1,q1⟩=>?_);cases c with
 |true=>exact hb wh pins s1 σ H1 Q I1 q1
 |false=>exact ⟨H1,I1,q1⟩
theorem Cz(ha:PT X a tA)(hb:PW X (.BoolOp .Or (b::rest) pos) tB'):PW X (.BoolOp .Or (a::b::rest) pos) (tOr tA tB'):=by
 intro wh pins s σ H Q I h;refine isTrue_or (cL (ha pins s σ H _ I h) fun c s1 ⟨H1,I1,q1⟩=>?_);cases c with
 |true=>exact ⟨H1,I1,q1⟩
 |false=>exact hb wh pins s1 σ H1 Q I1 q1
theorem B7(ha:PT X a tA):PT X (.UnaryOp .Not a pos) (tNot tA):=by
 intro pins s σ H Q I h;exact isTrue_not (wpAny_mono (ha pins s σ H (fun c H1=>Q (!c) H1) I h) (fun c s' z=>by cases z with|mk a b d=>exact ⟨a,b,d⟩) fun _ _ e=>e)
def Ch(ta tb:TE):TE:=fun σ H Q=>ta σ H fun x H1=>∃c,x=.bl c/\if c=true then tb σ H1 Q else Q (.bl false) H1
def tOrV(ta tb:TE):TE:=fun σ H Q=>ta σ H fun x H1=>∃c,x=.bl c/\if c=true then Q (.bl true) H1 else tb σ H1 Q
def CN(ta:TE):TE:=fun σ H Q=>ta σ H fun x H1=>∃c,x=.bl c/\Q (.bl (!c)) H1
theorem Be{op}{t:TE}(h:PE X a t):PE X (.BoolOp op [a] pos) t:=fun pins s σ H Q I hw=>BoolOp_one (h pins s σ H Q I hw)
theorem zG(ha:PE X a ta)(hb:PE X (.BoolOp .And (b::rest) pos) tb):PE X (.BoolOp .And (a::b::rest) pos) (Ch ta tb):=by
 intro pins s σ H Q I h;refine BoolOp_and (cL (ha pins s σ H _ I h) fun v s1 ⟨x,H1,I1,r1,q1⟩=>?_);obtain ⟨c,rfl,q1⟩:=q1;cases r1;refine wpAny_truthy_bool ?_;cases c with
 |true=>exact hb pins s1 σ H1 Q I1 q1
 |false=>exact ⟨.bl false,H1,I1,rfl,q1⟩
theorem Da(ha:PE X a ta)(hb:PE X (.BoolOp .Or (b::rest) pos) tb):PE X (.BoolOp .Or (a::b::rest) pos) (tOrV ta tb):=by
 intro pins s σ H Q I h;refine BoolOp_or (cL (ha pins s σ H _ I h) fun v s1 ⟨x,H1,I1,r1,q1⟩=>?_);obtain ⟨c,rfl,q1⟩:=q1;cases r1;refine wpAny_truthy_bool ?_;cases c with
 |false=>exact hb pins s1 σ H1 Q I1 q1
 |true=>exact ⟨.bl true,H1,I1,rfl,q1⟩
theorem Bq(ha:PE X a ta):PE X (.UnaryOp .Not a pos) (CN ta):=by
 intro pins s σ H Q I h;refine UnaryOp_ (cL (ha pins s σ H _ I h) fun v s1 ⟨x,H1,I1,r1,q1⟩=>?_);obtain ⟨c,rfl,q1⟩:=q1;cases r1;exact not_of (wpAny_truthy_bool ⟨.bl (!c),H1,I1,rfl,q1⟩)
def tIf(t:TT)(ta tb:TE):TE:=fun σ H Q=>t σ H fun c H1=>if c=true then ta σ H1 Q else tb σ H1 Q
theorem vV{c:Expr}(hc:PT X c tA)(ha:PE X a ta)(hb:PE X b tb):PE X (.IfExp c a b pos) (tIf tA ta tb):=by
 intro pins s σ H Q I h;refine wpAny_IfExp (cL (hc pins s σ H _ I h) fun d s1 ⟨H1,I1,q1⟩=>?_);cases d with
 |true=>exact ha pins s1 σ H1 Q I1 q1
 |false=>exact hb pins s1 σ H1 Q I1 q1
end
end L2
namespace L2
open PySem PySem.Spec PyProof.Rows
def SqL(K:W.Frag)(H:Hp)(a:Addr)(xs:List V):Prop:=
 Rd H a (.lst xs)\/
  ∃(o:Obj) (its:Array Value) (n:Nat),K.lookup a=some o/\o.cls=.type "list"/\o.dict=none/\o.data=.seq its n/\its.size<=sizeLine/\Vals xs its.toList
def iB(K:W.Frag)(H:Hp)(a:Addr)(xs:List V):Prop:=
 Rd H a (.tup xs)\/
  ∃(o:Obj) (its:Array Value) (n:Nat),K.lookup a=some o/\o.cls=.type "tuple"/\o.data=.seq its n/\its.size<=sizeLine/\Vals xs its.toList
def absV:Value->Option V
 |.none=>some .non
 |.bool b=>some (.bl b)
 |.int i _=>some (.int i)
 |.str x _=>some (.str x)
 |.bytes b _=>some (.byt b)
 |.float b _=>some (.flt b)
 |.ref a=>some (.ref a)
 |.type n=>some (.ty n)
 |_=>none
theorem RelV.abs{x:V}{u:Value}(r:RelV x u):absV u=some x:=by
 cases x with
 |non=>cases r;rfl
 |bl _=>cases r;rfl
 |int _=>obtain ⟨t,rfl⟩:=r;rfl
 |str _=>obtain ⟨t,rfl⟩:=r;rfl
 |byt _=>obtain ⟨t,rfl⟩:=r;rfl
 |flt _=>obtain ⟨t,rfl⟩:=r;rfl
 |ref _=>cases r;rfl
 |ty _=>cases r;rfl
theorem RelV.inj{x y:V}{u:Value}(r:RelV x u)(q:RelV y u):x=y:=Option.some.inj (r.abs.symm.trans q.abs)
theorem Vals.inj:∀{xs ys:List V} {us:List Value},Vals xs us->Vals ys us->xs=ys
 |_,_,_,.nil,.nil=>rfl
 |_,_,_,.cons r t,.cons r' t'=>by rw [r.inj r',Vals.inj t t']
section
variable {X:Cx}{pins:List (Addr×Obj)}{σ:St}{H:Hp}{s:Shared}{a:Addr}{xs ys:List V}
theorem SqL.of{K:W.Frag}(h:H a=some (.lst xs)):SqL K H a xs:=.inl (.inl h)
theorem Inv.list(I:Inv X pins σ H s)(h:SqL X.K H a xs):∃its:List Value,Vals xs its/\PlainL s.heap a its.toArray/\xs.length<=sizeLine:=by
 rcases h with h|⟨o,its,n,hk,hc,hd,hs,hz,r⟩
 ·obtain ⟨z,its,n,r,e⟩:=h.ok I.hok
  exact ⟨its,r,⟨_,n,e,rfl,rfl,rfl⟩,z⟩
 ·refine ⟨its.toList,r,⟨o,n,I.kIn a o hk,hc,hd,by simpa using hs⟩,?_⟩
  have e:=r.length;simp only [Array.length_toList] at e;lia
theorem Inv.tuple(I:Inv X pins σ H s)(h:iB X.K H a xs):∃its:List Value,Vals xs its/\IsTup s.heap a its.toArray/\xs.length<=sizeLine:=by
 rcases h with h|⟨o,its,n,hk,hc,hs,hz,r⟩
 ·obtain ⟨z,its,r,ob,e,c,_⟩:=h.ok I.hok
  exact ⟨its,r,⟨ob,e,c⟩,z⟩
 ·refine ⟨its.toList,r,⟨o,I.kIn a o hk,hc,n,by simpa using hs⟩,?_⟩
  have e:=r.length;simp only [Array.length_toList] at e;lia
theorem Inv.list_inj(I:Inv X pins σ H s)(h:SqL X.K H a xs)(h':SqL X.K H a ys):xs=ys:=by
 obtain ⟨its,r,⟨o,n,e,_,_,d⟩,_⟩:=I.list h;obtain ⟨its',r',⟨o',n',e',_,_,d'⟩,_⟩:=I.list h';rw [e] at e';cases e';rw [d] at d'
 injection d' with d1 _
 have:its=its':=by simpa using congrArg Array.toList d1
 subst this;exact r.inj r'
theorem Inv.tuple_inj(I:Inv X pins σ H s)(h:iB X.K H a xs)(h':iB X.K H a ys):xs=ys:=by
 obtain ⟨its,r,⟨o,e,_,n,d⟩,_⟩:=I.tuple h;obtain ⟨its',r',⟨o',e',_,n',d'⟩,_⟩:=I.tuple h';rw [e] at e';cases e';rw [d] at d'
 injection d' with d1 _
 have:its=its':=by simpa using congrArg Array.toList d1
 subst this;exact r.inj r'
end
abbrev Cx.wish(X:Cx)(E:Value->Shared->Prop):Cx:={ X with xe:=E }
abbrev Cx.nox(X:Cx):Cx:=X.wish fun _ _=>False
theorem Cx.Ok.wish{X:Cx}(ok:X.Ok)(E:Value->Shared->Prop):(X.wish E).Ok:=
 ⟨ok.mod,ok.kind,ok.glob,ok.blt,ok.above,ok.inj,ok.has,ok.cab,ok.hd,ok.frames,ok.stk,ok.exf,ok.bs,ok.bsz,ok.noex,ok.exfs,ok.funs,ok.frf⟩
theorem Cx.Ok.unwish{X:Cx}{E:Value->Shared->Prop}(ok:(X.wish E).Ok):X.Ok:=
 ⟨ok.mod,ok.kind,ok.glob,ok.blt,ok.above,ok.inj,ok.has,ok.cab,ok.hd,ok.frames,ok.stk,ok.exf,ok.bs,ok.bsz,ok.noex,ok.exfs,ok.funs,ok.frf⟩
section
variable {X:Cx}{pins:List (Addr×Obj)}{σ:St}{H:Hp}{s:Shared}{E:Value->Shared->Prop}
theorem Inv.wish(I:Inv X pins σ H s)(E:Value->Shared->Prop):Inv (X.wish E) pins σ H s:=⟨I.ok.wish E,I.os,I.bare,I.base,I.loc,I.cell,I.free,I.freeC,I.pin,I.hok,I.len⟩
theorem Inv.unwish(I:Inv (X.wish E) pins σ H s):Inv X pins σ H s:=⟨I.ok.unwish,I.os,I.bare,I.base,I.loc,I.cell,I.free,I.freeC,I.pin,I.hok,I.len⟩
end
section
variable {X:Cx}{st:Stmt}{rest:List Stmt}{t u:TS}{e:Expr}{te:TE}{pos:Pos}
def Cr:TS:=fun D σ H=>D.nx σ H
def tSeq(t u:TS):TS:=fun D σ H=>t { D with nx:=u D } σ H
theorem yB:qC X [] Cr:=fun _ _ σ H _ I h=>wpAny_execs_nil ⟨σ,H,I,h⟩
theorem tF(h1:PS X st t)(h2:qC X rest u):qC X (st::rest) (tSeq t u):=by
 intro pins s σ H D I h;refine wpAny_execs_cons (cL (h1 pins s σ H { D with nx:=u D } I h) fun f s1 q=>?_);cases f with
 |next=>
  obtain ⟨σ',H',I',q⟩:=q;exact h2 pins s1 σ' H' D I' q
 |ret v=>exact q
 |brk=>exact q
 |cont=>exact q
theorem qY(h1:PS X st t):qC X [st] t:=by
 intro pins s σ H D I h;refine wpAny_execs_cons (cL (h1 pins s σ H D I h) fun f s1 q=>?_);cases f with
 |next=>exact wpAny_execs_nil q
 |ret v=>exact q
 |brk=>exact q
 |cont=>exact q
theorem Inv.quiet{pins:List (Addr×Obj)}{σ:St}{H:Hp}{s:Shared}(I:Inv X pins σ H s):interactive X.env=false:=by simp [interactive,I.ok.kind]
def C2(te:TE):TS:=fun D σ H=>te σ H fun _ H1=>D.nx σ H1
theorem xN(he:PE X e te)(hs:swapsWith e none pos.line X.env=pure false:=by rfl):PS X (.Expr e pos) (C2 te):=by
 intro pins s σ H D I h;exact wpAny_Expr_any (cL (he pins s σ H _ I h) fun v s1 ⟨x,H1,I1,r1,q1⟩=>⟨σ,H1,I1,q1⟩) I.quiet hs
def tRet(te:TE):TS:=fun D σ H=>te σ H D.rt
theorem AA(he:PE X e te):PS X (.Return (some e) pos) (tRet te):=by
 intro pins s σ H D I h;exact wpAny_Return_some (cL (he pins s σ H _ I h) fun v s1 ⟨x,H1,I1,r1,q1⟩=>⟨x,σ,H1,I1,r1,q1⟩)
def tIfS(c:TT)(t u:TS):TS:=fun D σ H=>c σ H fun b H1=>if b=true then t D σ H1 else u D σ H1
theorem B_{c:Expr}{a b:List Stmt}{tc:TT}(hc:PT X c tc)(ha:qC X a t)(hb:qC X b u):PS X (.If c a b pos) (tIfS tc t u):=by
 intro pins s σ H D I h;refine wpAny_If (cL (hc pins s σ H _ I h) fun d s1 ⟨H1,I1,q1⟩=>?_);cases d with
 |true=>exact ha pins s1 σ H1 D I1 q1
 |false=>exact hb pins s1 σ H1 D I1 q1
end
abbrev TG:=V->St->Hp->(St->Hp->Prop)->Prop
abbrev zy:=List V->St->Hp->(St->Hp->Prop)->Prop
def PG(X:Cx)(target:Expr)(t:TG):Prop:=
 ∀(pins:List (Addr×Obj)) (s:Shared) (σ:St) (H:Hp) (v:V) (u:Value) (Q:St->Hp->Prop),Inv X pins σ H s->RelV v u->t v σ H Q->
  wpAny (model X.prog X.w) X.A (assign target X.env u) (fun _ s'=>∃σ' H',Inv X pins σ' H' s'/\Q σ' H') X.xe s
def zX(X:Cx)(ts:List Expr)(t:zy):Prop:=
 ∀(pins:List (Addr×Obj)) (s:Shared) (σ:St) (H:Hp) (vs:List V) (us:List Value) (Q:St->Hp->Prop),Inv X pins σ H s->Vals vs us->t vs σ H Q->
  wpAny (model X.prog X.w) X.A (assignInOrder ((assignEach ts X.env).map (·.2)) us) (fun _ s'=>∃σ' H',Inv X pins σ' H' s'/\Q σ' H') X.xe s
abbrev Bn:=V->V->V->Hp->(Hp->Prop)->Prop
def AK(X:Cx)(t:Bn):Prop:=
 ∀(pins:List (Addr×Obj)) (s:Shared) (σ:St) (H:Hp) (o i v:V) (ov iv u:Value) (Q:Hp->Prop),Inv X pins σ H s->RelV o ov->RelV i iv->RelV v u->t o i v H Q->
  wpAny (model X.prog X.w) X.A (setItem ov iv u) (fun _ s'=>∃H',Inv X pins σ H' s'/\Q H') X.xe s
section
variable {X:Cx}{pos:Pos}
def zF(i:Nat):TG:=fun v σ H Q=>Q (σ.set i (some v)) H
theorem yZ{i:Nat}{x:Str}(hN:X.N.Nodup)(hi:X.N[i]?=some x)(hx:wT X.env.scope x)(hf:X.fn x=true\/X.env.scope.names.lookup x=some .local:=by first|exact .inl rfl|exact .inr rfl|assumption):PG X (.Name x pos) (zF i):=by
 intro pins s σ H v u Q I r h;exact wpAny_assign_Name (il I hN hi hx r (fun s' I'=>⟨_,H,I',h⟩) hf)
def gNil:zy:=fun vs σ H Q=>vs=[]/\Q σ H
def CY(t:TG)(u:zy):zy:=fun vs σ H Q=>∃v r,vs=v::r/\t v σ H fun σ' H'=>u r σ' H' Q
theorem xG:zX X [] gNil:=by
 intro pins s σ H vs us Q I r h;obtain ⟨e,h⟩:=h;subst e;cases r;exact assignInOrder_nil ⟨σ,H,I,h⟩
theorem v5{e:Expr}{es:List Expr}{t:TG}{u:zy}(h1:PG X e t)(h2:zX X es u)
  (hs:(assignEach (e::es) X.env).map (·.2)=assign e X.env::(assignEach es X.env).map (·.2):=by rfl):zX X (e::es) (CY t u):=by
 intro pins s σ H vs us Q I r h;obtain ⟨v,vr,e1,h⟩:=h;subst e1;cases r with
 |cons r rr=>
  rw [hs];refine assignInOrder_cons (cL (h1 pins s σ H _ _ _ I r h) fun _ s1 ⟨σ1,H1,I1,q1⟩=>?_);exact h2 pins s1 σ1 H1 _ _ Q I1 rr q1
def gTup(K:W.Frag)(n:Nat)(t:zy):TG:=fun v σ H Q=>∃a xs,v=.ref a/\iB K H a xs/\xs.length=n/\t xs σ H Q
theorem zQ{es:List Expr}{k:Nat}{t:zy}{n:Nat}(hc:X.calm=true)(h:zX X es t)
  (hn:(assignEach es X.env).length=n:=by rfl) (hst:(assignEach es X.env).findIdx? (·.1)=none:=by rfl):PG X (.Tuple es k pos) (gTup X.K n t):=by
 intro pins s σ H v u Q I r hw;obtain ⟨a,xs,e1,hq,hl,hw⟩:=hw;subst e1;cases r;obtain ⟨its,rv,ht,hz⟩:=I.tuple hq;refine assign_Tuple_tuple (I.ok.hd hc) ht (by simp [hn,<- hl,rv.length]) hst fun h' hx=>?_
 have I1:Inv X pins σ H { s with heap:=h' }:=I.kept (t':=s.toks) fun b o e=>hx b o (Nat.ne_of_lt (Heap.lt_size e)) e;exact h pins _ σ H xs _ Q I1 (by simpa using rv) hw
def gSub(to ti:TE)(t:Bn):TG:=fun v σ H Q=>to σ H fun o H1=>ti σ H1 fun i H2=>t o i v H2 fun H3=>Q σ H3
theorem BF{o i:Expr}{to ti:TE}{t:Bn}(ho:PE X o to)(hi:PE X i ti)(hs:AK X t)
  (ha:∀v,assign (.Subscript o i pos) X.env v=(do
   let ov <- holding [v] (eval o X.env)
   let iv <- holding [v,ov] (eval i X.env)
   standAt pos
   holding [v,ov,iv] (setItem ov iv v)
   release [v,ov,iv] []):=by intro _;rfl):PG X (.Subscript o i pos) (gSub to ti t):=by
 intro pins s σ H v u Q I r h;rw [ha];refine wpAny_bind (wpAny_holding (cL (ho pins s σ H _ I h) fun ov s1 ⟨x,H1,I1,r1,q1⟩=>?_));refine wpAny_bind (wpAny_holding (cL (hi pins s1 σ H1 _ I1 q1) fun iv s2 ⟨y,H2,I2,r2,q2⟩=>?_));refine wpAny_bind (wpAny_standAt (wpAny_bind (wpAny_holding (cL (hs pins s2 σ H2 x y v ov iv u _ I2 r1 r2 r q2) fun _ s3 ⟨H3,I3,q3⟩=>?_))));exact wpAny_release ⟨σ,H3,I3,q3⟩
def Cb(te:TE)(g:TG):TS:=fun D σ H=>te σ H fun x H1=>g x σ H1 D.nx
theorem AF{tg e:Expr}{te:TE}{g:TG}(he:PE X e te)(hg:PG X tg g)(hs:swapsWithSole [tg] e pos.line X.env=pure false:=by rfl)(hw:swappedStores [tg] e X.env=pure none:=by rfl)
  (h1:(assignEach [tg] X.env).map (·.2)=[assign tg X.env]:=by rfl):PS X (.Assign [tg] e pos) (Cb te g):=by
 intro pins s σ H D I h;refine wpAny_Assign_stores (cL (he pins s σ H _ I h) fun v s1 ⟨x,H1,I1,r1,q1⟩=>?_) hs hw;rw [h1];exact cL (hg pins s1 σ H1 x v _ I1 r1 q1) fun _ s2 q=>q
theorem uJ{i:Nat}{x:Str}{e:Expr}{te:TE}{pos':Pos}(hN:X.N.Nodup)(hi:X.N[i]?=some x)(hx:wT X.env.scope x)(he:PE X e te)(hs:swapsWith e (some (.Name x pos')) pos.line X.env=pure false:=by rfl)(hf:X.fn x=true\/X.env.scope.names.lookup x=some .local:=by first|exact .inl rfl|exact .inr rfl|assumption):
  PS X (.Assign [.Name x pos'] e pos) (Cb te (zF i)):=by
 intro pins s σ H D I h;refine wpAny_Assign_Name (cL (he pins s σ H _ I h) fun v s1 ⟨y,H1,I1,r1,q1⟩=>?_) hs;exact il I1 hN hi hx r1 (fun s2 I2=>⟨_,H1,I2,q1⟩) hf
end
section
variable {X:Cx}{pos:Pos}
end
structure It where
 go:Nat->Hp->Prop
 yld:Nat->Hp->V->Hp->Prop
 stop:Nat->Hp->Prop
def iO(X:Cx)(pins:List (Addr×Obj))(H:Hp)(b:Addr):Prop:=
 H b=none/\b≠X.env.locals/\b∉X.fs/\(b∈X.ex\/X.s₀.heap.objs.size<=b)/\(∀x c,X.env.cells.lookup x=some c->c≠b)/\∀p∈X.pn++pins,p.1≠b
theorem Inv.fpOk{X:Cx}{pins:List (Addr×Obj)}{σ:St}{H H':Hp}{s:Shared}{b:Addr}(I:Inv X pins σ H s)(hb:s.heap.objs.size<=b)(hn:H' b=none):iO X pins H' b:=by
 refine ⟨hn,Nat.ne_of_gt (Nat.lt_of_lt_of_le I.lt hb),I.nofs hb,.inr (Nat.le_trans I.sz hb),fun x c e z=>?_,fun p hp z=>?_⟩
 ·obtain ⟨v,q⟩:=I.cell x c e
  exact absurd (Nat.lt_of_lt_of_le q.lt (by rw [z];exact hb)) (Nat.lt_irrefl _)
 ·exact absurd (Nat.lt_of_lt_of_le (Heap.lt_size (I.pin p hp).1) (by rw [z];exact hb)) (Nat.lt_irrefl _)
structure Turn(P:Program)(w:World)(K:W.Frag)(tg:Expr)(J:It)(fp:List Addr)(it:Addr)(tn:Nat->Heap->Prop):Prop where
 mem:it∈fp
 obj:∀i h,tn i h->∀b∈fp,∃o,h.get? b=some o/\∀v,o.data≠.cell v
 keep:∀i h h',tn i h->(∀b∈fp,∀o,h.get? b=some o->h'.get? b=some o)->tn i h'
 item:∀(X:Cx),X.prog=P->X.w=w->X.K=K->X.calm=true->∀(i:Nat) (pins:List (Addr×Obj)) (s:Shared) (σ:St) (H:Hp) (E:Value->Shared->Prop),Inv X pins σ H s->(∀b∈fp,iO X pins H b)->tn i s.heap->J.go i H->
  wpAny (model P w) X.A (pyNext (.ref it)) (fun r s1=>∃u,r=some u/\
   wpAny (model P w) X.A (letOwnedTupleGo tg (.ref it) u) (fun _ s2=>∃x H',Inv X pins σ H' s2/\RelV x u/\J.yld i H x H'/\tn (i+1) s2.heap/\∀b∈fp,H' b=none) E s1) E s
 done:∀(X:Cx),X.prog=P->X.w=w->X.K=K->X.calm=true->∀(i:Nat) (pins:List (Addr×Obj)) (s:Shared) (σ:St) (H:Hp) (E:Value->Shared->Prop),Inv X pins σ H s->(∀b∈fp,iO X pins H b)->tn i s.heap->J.stop i H->
  wpAny (model P w) X.A (pyNext (.ref it)) (fun r s1=>r=none/\Inv X pins σ H s1) E s
 self:∀(A:Around) (i:Nat) (s:Shared) (Q:Value->Shared->Prop) (E:Value->Shared->Prop),tn i s.heap->Q (.ref it) s->wpAny (model P w) A (pyIter (.ref it)) Q E s
abbrev TI:=St->Hp->(It->Hp->Prop)->Prop
def PIE(X:Cx)(pins:List (Addr×Obj))(σ:St)(tg:Expr)(R:It->Hp->Prop)(itv:Value)(s2:Shared):Prop:=
 ∃(it:Addr) (fp:List Addr) (tn:Nat->Heap->Prop) (J:It) (H':Hp),itv=.ref it/\Inv X pins σ H' s2/\Turn X.prog X.w X.K tg J fp it tn/\tn 0 s2.heap/\(∀b∈fp,iO X pins H' b)/\R J H'
def PI(X:Cx)(tg iter:Expr)(wi:TI):Prop:=
 ∀(pins:List (Addr×Obj)) (s:Shared) (σ:St) (H:Hp) (R:It->Hp->Prop),Inv X pins σ H s->wi σ H R->
  wpAny (model X.prog X.w) X.A (eval iter X.env) (fun v s1=>wpAny (model X.prog X.w) X.A (pyIter v) (PIE X pins σ tg R) X.xe s1) X.xe s
theorem vA{M:Model}{A:Around}{E:Value->Shared->Prop}{s:Shared}{tg:Expr}{it:Addr}{u:Value}{o:Obj}{n:String}{vs:Array Value}{Q:Unit->Shared->Prop}(ho:s.heap.get? it=some o)(hc:o.cls=.type n)(hd:o.data=.fields vs)
  (hn:["enumerate","zip","dict_itemiterator","dict_reverseitemiterator","odict_iterator","itertools.zip_longest","itertools.pairwise"].contains n=false) (hQ:Q () s):wpAny M A (letOwnedTupleGo tg (.ref it) u) Q E s:=by
 unfold letOwnedTupleGo
 cases tg<;>first
  |exact wpAny_pure hQ
  |(cases u<;>first
    |exact wpAny_pure hQ
    |(refine wpAny_bind (wpAny_load ho ?_)
      rw [hc,hd];show wpAny M A (if (["enumerate","zip","dict_itemiterator","dict_reverseitemiterator","odict_iterator","itertools.zip_longest","itertools.pairwise"].contains n&&vs[0]?==some (rawInt _))=true then _ else _) Q E s
      rw [if_neg (by intro h;rw [hn,Bool.false_and] at h;cases h)]
      exact wpAny_pure hQ))
def Itl(K:W.Frag)(a:Addr):It:=
 ⟨fun i H=>∃xs x,SqL K H a xs/\xs[i]?=some x,fun i H x H'=>H'=H/\∀xs,SqL K H a xs->xs[i]?=some x,fun i H=>∃xs,SqL K H a xs/\xs.length<=i⟩
def Itt(K:W.Frag)(a:Addr):It:=
 ⟨fun i H=>∃xs x,iB K H a xs/\xs[i]?=some x,fun i H x H'=>H'=H/\∀xs,iB K H a xs->xs[i]?=some x,fun i H=>∃xs,iB K H a xs/\xs.length<=i⟩
def Itr(lo:Int)(n:Nat):It:=⟨fun i _=>i<n,fun i H x H'=>H'=H/\x=.int (lo+i),fun i _=>n<=i⟩
theorem sQ{P:Program}{w:World}{K:W.Frag}{tg:Expr}(a it:Addr):Turn P w K tg (Itl K a) [it] it (fun i h=>h.IsListIter it a i) where
 mem:=by simp
 obj:=fun i h st b hb=>by
  have e:b=it:=by simpa using hb
  subst e;obtain ⟨o,e,c,d⟩:=st;exact ⟨o,e,fun v z=>by rw [d] at z;cases z⟩
 keep:=fun i h h' st k=>st.at fun o e=>k it (by simp) o e
 item:=by
  intro X hP hw hK hc i pins s σ H E I hf st hg;subst hP hw hK;obtain ⟨xs,x,hq,hx⟩:=hg;obtain ⟨its,rv,p,hz⟩:=I.list hq;obtain ⟨u,hu,ru⟩:=rv.get hx;obtain ⟨f0,f1,f2,f3,f4,f5⟩:=hf it (by simp)
  refine wpAny_pyNext_list_item st p.isList (x:=u) (by simpa using hu) fun h' st' sb=>?_
  have I1:Inv X pins σ H { s with heap:=h' }:=I.turned (t':=s.toks) (fun b o hb e=>(sb.2 b hb).trans e) f0 f1 f3 f4 f5;obtain ⟨o,e,c,d⟩:=id st';exact ⟨u,rfl,vA (s:={ s with heap:=h' }) e c d (by decide) ⟨x,H,I1,ru,⟨rfl,fun ys hy=>by rw [I.list_inj hy hq];exact hx⟩,st',fun b hb=>(hf b hb).1⟩⟩
 done:=by
  intro X hP hw hK hc i pins s σ H E I hf st hg;subst hP hw hK;obtain ⟨xs,hq,hx⟩:=hg;obtain ⟨its,rv,p,hz⟩:=I.list hq;obtain ⟨f0,f1,f2,f3,f4,f5⟩:=hf it (by simp)
  have hl:=rv.length;exact wpAny_pyNext_list_end (I.ok.hd hc) st p.isList (by simp;lia) fun h' eb=>⟨rfl,I.turned (t':=s.toks) (fun b o hb e=>eb b o hb e) f0 f1 f3 f4 f5⟩
 self:=fun _ _ _ _ _ st h=>wpAny_pyIter_listiter st h
theorem pO{P:Program}{w:World}{K:W.Frag}{tg:Expr}(a it:Addr):Turn P w K tg (Itt K a) [it] it (fun i h=>h.IsTupleIter it a i) where
 mem:=by simp
 obj:=fun i h st b hb=>by
  have e:b=it:=by simpa using hb
  subst e;obtain ⟨o,e,c,d⟩:=st;exact ⟨o,e,fun v z=>by rw [d] at z;cases z⟩
 keep:=fun i h h' st k=>st.at fun o e=>k it (by simp) o e
 item:=by
  intro X hP hw hK hc i pins s σ H E I hf st hg;subst hP hw hK;obtain ⟨xs,x,hq,hx⟩:=hg;obtain ⟨its,rv,p,hz⟩:=I.tuple hq;obtain ⟨u,hu,ru⟩:=rv.get hx;obtain ⟨f0,f1,f2,f3,f4,f5⟩:=hf it (by simp)
  refine wpAny_pyNext_tuple_item st (show s.heap.IsTuple a its.toArray from p) (x:=u) (by simpa using hu) fun h' st' sb=>?_
  have I1:Inv X pins σ H { s with heap:=h' }:=I.turned (t':=s.toks) (fun b o hb e=>(sb.2 b hb).trans e) f0 f1 f3 f4 f5;obtain ⟨o,e,c,d⟩:=id st';exact ⟨u,rfl,vA (s:={ s with heap:=h' }) e c d (by decide) ⟨x,H,I1,ru,⟨rfl,fun ys hy=>by rw [I.tuple_inj hy hq];exact hx⟩,st',fun b hb=>(hf b hb).1⟩⟩
 done:=by
  intro X hP hw hK hc i pins s σ H E I hf st hg;subst hP hw hK;obtain ⟨xs,hq,hx⟩:=hg;obtain ⟨its,rv,p,hz⟩:=I.tuple hq;obtain ⟨f0,f1,f2,f3,f4,f5⟩:=hf it (by simp)
  have hl:=rv.length;exact wpAny_pyNext_tuple_end (I.ok.hd hc) st (show s.heap.IsTuple a its.toArray from p) (by simp;lia) fun h' eb=>⟨rfl,I.turned (t':=s.toks) (fun b o hb e=>eb b o hb e) f0 f1 f3 f4 f5⟩
 self:=fun _ _ _ _ _ st h=>wpAny_pyIter_tupleiter st h
theorem pv{P:Program}{w:World}{K:W.Frag}{tg:Expr}(it:Addr)(lo:Int)(n:Nat):Turn P w K tg (Itr lo n) [it] it (fun i h=>IsRangeIter h it (lo+(i:Nat)*1) ((n:Int)-(i:Nat)) 1) where
 mem:=by simp
 obj:=fun i h st b hb=>by
  have e:b=it:=by simpa using hb
  subst e;exact ⟨_,st,fun v z=>by
   have z':Data.fields _=Data.cell v:=z;cases z'⟩
 keep:=fun i h h' st k=>k it (by simp) _ st
 item:=by
  intro X hP hw hK hc i pins s σ H E I hf st hg;subst hP hw hK;obtain ⟨f0,f1,f2,f3,f4,f5⟩:=hf it (by simp)
  have W:=Walks.range (prog:=X.prog) (w:=X.w) (I.ok.hd hc) it lo 1 n;refine W.item i s _ _ hg st fun v h' tk hv st' kk=>?_;obtain ⟨t,rfl⟩:=hv;have I1:Inv X pins σ H { s with heap:=h',toks:=tk }:=I.turned (fun b o hb e=>kk b o (by simpa using hb) e) f0 f1 f3 f4 f5
  refine ⟨_,rfl,vA (s:={ s with heap:=h',toks:=tk }) (n:="range_iterator") st' rfl rfl (by decide) ⟨.int (lo+i),H,I1,⟨t,?_⟩,⟨rfl,rfl⟩,st',fun b hb=>(hf b hb).1⟩⟩
  rw [Int.mul_one]
 done:=by
  intro X hP hw hK hc i pins s σ H E I hf st hg;subst hP hw hK;obtain ⟨f0,f1,f2,f3,f4,f5⟩:=hf it (by simp)
  exact wpAny_pyNext_range_end (I.ok.hd hc) st (by have:n<=i:=hg;lia) fun h' eb=>⟨rfl,I.turned (t':=s.toks) (fun b o hb e=>eb b o hb e) f0 f1 f3 f4 f5⟩
 self:=fun _ _ _ _ _ st h=>wpAny_pyIter_rangeiter st h
end L2
namespace L2
open PySem PySem.Spec PyProof.Rows
section
variable {X:Cx}{tg:Expr}
theorem tD{pins:List (Addr×Obj)}{σ:St}{H:Hp}{s:Shared}{R:It->Hp->Prop}{E:Value->Shared->Prop}{lo hi:Int}{t u v:Tok}{tk:Nat}(I:Inv X pins σ H s)(h1:-(2 ^ 62)<=lo)(h2:lo<2 ^ 62)(h3:-(2 ^ 62)<=hi)(h4:hi<2 ^ 62)
  (q:R (Itr lo (hi-lo).toNat) H):wpAny (model X.prog X.w) X.A (pyIter (.ref s.heap.objs.size)) (PIE X pins σ tg R) E { s with heap:=s.heap.push { cls:=.type "range",data:=.fields #[.int lo t,.int hi u,.int 1 v] },toks:=tk }:=by
 refine wpAny_pyIter_range (IsRange.new ..) (small_one h1 h2 h3 h4) ?_;have I1:Inv X pins σ H { s with heap:=s.heap.push { cls:=.type "range",data:=.fields #[.int lo t,.int hi u,.int 1 v] },toks:=tk }:=I.kept fun b o e=>Heap.get?_push_of_some _ e;refine ⟨(s.heap.push { cls:=.type "range",data:=.fields #[.int lo t,.int hi u,.int 1 v] }).objs.size,[(s.heap.push { cls:=.type "range",data:=.fields #[.int lo t,.int hi u,.int 1 v] }).objs.size],_,_,H,rfl,
  I1.kept (t':=tk) fun b o e=>Heap.get?_push_of_some _ e,pv _ lo (hi-lo).toNat,?_,fun b hb=>?_,q⟩
 ·have e1:lo+((0:Nat):Int)*1=lo:=by simp
  have e2:(((hi-lo).toNat:Nat):Int)-((0:Nat):Int)=Builtin.Range.rangeSize lo hi 1:=by rw [rangeSize_one];split<;>lia
  show IsRangeIter _ _ (lo+((0:Nat):Int)*1) ((((hi-lo).toNat:Nat):Int)-((0:Nat):Int)) 1;rw [e1,e2];exact Heap.get?_push_size _ rfl
 ·have e:b=(s.heap.push { cls:=.type "range",data:=.fields #[.int lo t,.int hi u,.int 1 v] }).objs.size:=by simpa using hb
  subst e;exact I1.fpOk (Nat.le_refl _) (I1.hok.fresh (Nat.le_refl _))
def D1(ta:TA):TI:=fun σ H R=>ta σ H fun vs H1=>∃j:Int,vs=[.int j]/\-(2 ^ 62)<=j/\j<2 ^ 62/\R (Itr 0 j.toNat) H1
theorem sL{a:Expr}{ta:TA}{p pos:Pos}(hg:Gl X "range")(hm:X.mg "range"=none)(ha:PA X [a] ta)(hs:starEach [a] X.env=[(false,eval a X.env)]:=by rfl):PI X tg (.Call (.Name "range" p) [a] [] pos) (D1 ta):=by
 intro pins s σ H R I h;refine Call_ (gA I hg hm boot_range (PyProof.Rows.callWith_type1 (cL (ha pos pins s σ H _ I h) fun us s1 ⟨vs,H1,I1,r1,q1⟩=>?_) hs rfl));obtain ⟨j,e,q1,q2,q⟩:=q1;subst e;cases r1 with
 |cons r rr=>
  cases rr;obtain ⟨t,rfl⟩:=r;exact call_range_1 (tD I1 (by lia) (by lia) q1 q2 (by simpa using q))
def tFor(wi:TI)(g:TG)(tb:TS):TS:=fun D σ H=>wi σ H fun J H1=>∃W:Nat->Nat->St->Hp->Prop,(∃m,W 0 m σ H1)/\∀i m σ H,W i m σ H->
 (J.stop i H/\D.nx σ H)\/(J.go i H/\∃N:St->Hp->Prop,(∀σ' H',N σ' H'->∃m',m'<m/\W (i+1) m' σ' H')/\∀x H',J.yld i H x H'->g x σ H' fun σ2 H2=>tb { D with nx:=N,ct:=N,bk:=D.nx } σ2 H2)
def jZ(fp:List Addr)(h:Heap):List (Addr×Obj):=fp.filterMap fun b=>(h.get? b).map fun o=>(b,o)
theorem fj{fp:List Addr}{h:Heap}{b:Addr}{o:Obj}(hb:b∈fp)(e:h.get? b=some o):(b,o)∈jZ fp h:=List.mem_filterMap.mpr ⟨b,hb,by rw [e];rfl⟩
theorem rT{fp:List Addr}{h:Heap}{p:Addr×Obj}(hp:p∈jZ fp h):p.1∈fp/\h.get? p.1=some p.2:=by
 obtain ⟨b,hb,e⟩:=List.mem_filterMap.mp hp;cases q:h.get? b with
 |none=>rw [q] at e;cases e
 |some o=>
  rw [q] at e;have e':(b,o)=p:=Option.some.inj e;subst e';exact ⟨hb,q⟩
theorem Inv.pinned{pins:List (Addr×Obj)}{σ:St}{H:Hp}{s:Shared}{fp:List Addr}(I:Inv X pins σ H s)(hf:∀b∈fp,iO X pins H b)(ho:∀b∈fp,∃o,s.heap.get? b=some o/\∀v,o.data≠.cell v):Inv X (pins++jZ fp s.heap) σ H s:=
 I.pins_of fun p hp=>(List.mem_append.mp hp).elim (fun z=>I.pin p (List.mem_append_right _ z)) fun z=>by
  obtain ⟨hb,e⟩:=rT z;obtain ⟨f0,f1,f2,_⟩:=hf p.1 hb;obtain ⟨o,e',d⟩:=ho p.1 hb;rw [e] at e';cases e';exact ⟨e,f0,f1,f2,d⟩
theorem Inv.unpinned{pins pl:List (Addr×Obj)}{σ:St}{H:Hp}{s:Shared}(I:Inv X (pins++pl) σ H s):Inv X pins σ H s:=I.pins_of fun p hp=>I.pin p (List.mem_append_right _ (List.mem_append_left _ hp))
theorem zV{iter:Expr}{body:List Stmt}{wi:TI}{g:TG}{tb:TS}{pos:Pos}(hp:PassesOwn (model X.prog X.w) X.A X.env X.xe)(hc:X.calm=true)(hi:PI X tg iter wi)(hg:PG X tg g)(hb:qC X body tb)
  (hs:∀x,foldedSetIterable iter X.env x=pure x:=by intro _;rfl):PS X (.For tg iter body [] pos) (tFor wi g tb):=by
 intro pins s σ H D I h;refine wpAny_For (cL (hi pins s σ H _ I h) fun v s1 h1=>cL h1 fun itv s2 h2=>?_) hs;obtain ⟨it,fp,tn,J,H2,e,I2,T,st2,f2,W,⟨m0,w0⟩,turn⟩:=h2;subst e
 -- what stays true of the iterator's objects through the loop
 have stat:∀{H':Hp},(∀b∈fp,H' b=none)->∀b∈fp,iO X pins H' b:=fun hn b hb=>⟨hn b hb,(f2 b hb).2⟩;refine codeAny_forLoop_any (fun n s'=>∃i σ' H',Inv X pins σ' H' s'/\tn i s'.heap/\(∀b∈fp,H' b=none)/\W i n σ' H') ?_ m0 ⟨0,σ,H2,I2,st2,fun b hb=>(f2 b hb).1,w0⟩
 rintro n s3 ⟨i,σ3,H3,I3,st3,fr3,w3⟩
 rcases turn i n σ3 H3 w3 with ⟨stop,qn⟩|⟨go,N,hN,step⟩
 ·refine wpAny_passesOwn hp (cL (T.done X rfl rfl rfl hc i pins s3 σ3 H3 X.xe I3 (stat fr3) st3 stop) fun r s4 ⟨hr,I4⟩=>?_)
  subst hr;exact wpAny_execs_nil ⟨σ3,H3,I4,qn⟩
 ·refine wpAny_passesOwn hp (cL (T.item X rfl rfl rfl hc i pins s3 σ3 H3 X.xe I3 (stat fr3) st3 go) fun r s4 ⟨u,hr,h4⟩=>?_)
  subst hr;refine wpAny_passesOwn hp (cL h4 fun _ s5 ⟨x,H5,I5,r5,y5,st5,fr5⟩=>?_);have I5':=I5.pinned (stat fr5) (T.obj _ _ st5);refine wpAny_passesOwn hp (cL (hg _ s5 σ3 H5 x u _ I5' r5 (step x H5 y5)) fun _ s6 ⟨σ6,H6,I6,q6⟩=>?_);refine wpAny_passesOwn hp (cL (hb _ s6 σ6 H6 _ I6 q6) fun f s7 q7=>?_);have again:∀{σ7:St} {H7:Hp},Inv X (pins++jZ fp s5.heap) σ7 H7 s7->N σ7 H7->∃m,m<n/\∃i σ' H',Inv X pins σ' H' s7/\tn i s7.heap/\(∀b∈fp,H' b=none)/\W i m σ' H':=fun {σ7 H7} I7 n7=>by
   obtain ⟨m',hm,w7⟩:=hN σ7 H7 n7;refine ⟨m',hm,i+1,σ7,H7,I7.unpinned,T.keep _ _ _ st5 fun b hb o e=>(I7.pin (b,o) (List.mem_append_right _ (List.mem_append_right _ (fj hb e)))).1,fun b hb=>?_,w7⟩;obtain ⟨o,e,d⟩:=T.obj _ _ st5 b hb;exact (I7.pin (b,o) (List.mem_append_right _ (List.mem_append_right _ (fj hb e)))).2.1
  cases f with
  |next=>obtain ⟨σ7,H7,I7,n7⟩:=q7;exact again I7 n7
  |cont=>obtain ⟨σ7,H7,I7,n7⟩:=q7;exact again I7 n7
  |brk=>obtain ⟨σ7,H7,I7,q7⟩:=q7;exact ⟨σ7,H7,I7.unpinned,q7⟩
  |ret v=>obtain ⟨x7,σ7,H7,I7,r7,q7⟩:=q7;exact ⟨x7,σ7,H7,I7.unpinned,r7,q7⟩
end
end L2
namespace L2
open PySem PySem.Spec PyProof.Rows
abbrev R2:=V->V->Hp->VK->Prop
def eg(X:Cx)(f:Value->Value->Sem Value)(r:R2):Prop:=
 ∀(pins:List (Addr×Obj)) (s:Shared) (σ:St) (H:Hp) (x y:V) (v u:Value) (Q:VK),Inv X pins σ H s->RelV x v->RelV y u->r x y H Q->
  wpAny (model X.prog X.w) X.A (f v u) (EP X pins σ Q) X.xe s
def UnR(X:Cx)(f:Value->Sem Value)(r:V->Hp->VK->Prop):Prop:=
 ∀(pins:List (Addr×Obj)) (s:Shared) (σ:St) (H:Hp) (x:V) (v:Value) (Q:VK),Inv X pins σ H s->RelV x v->r x H Q->
  wpAny (model X.prog X.w) X.A (f v) (EP X pins σ Q) X.xe s
def dq(X:Cx)(f:Value)(r:List V->Hp->VK->Prop):Prop:=
 ∀(pins:List (Addr×Obj)) (s:Shared) (σ:St) (H:Hp) (xs:List V) (us:List Value) (Q:VK),Inv X pins σ H s->Vals xs us->r xs H Q->
  wpAny (model X.prog X.w) X.A (call f us) (EP X pins σ Q) X.xe s
def TruR(X:Cx)(r:V->Hp->(Bool->Hp->Prop)->Prop):Prop:=
 ∀(pins:List (Addr×Obj)) (s:Shared) (σ:St) (H:Hp) (x:V) (v:Value) (Q:Bool->Hp->Prop),Inv X pins σ H s->RelV x v->r x H Q->
  wpAny (model X.prog X.w) X.A (truthy v) (TP X pins σ Q) X.xe s
def Db(r:R2)(ta tb:TE):TE:=fun σ H Q=>ta σ H fun x H1=>tb σ H1 fun y H2=>r x y H2 Q
def tUn(r:V->Hp->VK->Prop)(ta:TE):TE:=fun σ H Q=>ta σ H fun x H1=>r x H1 Q
def rI(C:Int->Int->Prop)(g:Int->Int->V):R2:=fun x y H Q=>∃i j,x=.int i/\y=.int j/\C i j/\Q (g i j) H
def zr(g:Int->Int->V):R2:=fun x y H Q=>∃i j,x=.int i/\y=.int j/\Q (g i j) H
def rU(g:Int->V):V->Hp->VK->Prop:=fun x H Q=>∃i,x=.int i/\Q (g i) H
section
variable {X:Cx}{a b c:Expr}{ta tb tc:TE}{pos:Pos}
theorem Ak(ha:PE X a ta)(hb:PE X b tb){pins:List (Addr×Obj)}{s:Shared}{σ:St}{H:Hp}{R:V->V->Hp->Prop}(I:Inv X pins σ H s)
  (h:ta σ H fun x H1=>tb σ H1 fun y H2=>R x y H2) {Q:Value->Shared->Prop} {f:Value->Value->Sem Value}
  (hf:∀v u s2 x y H2,Inv X pins σ H2 s2->RelV x v->RelV y u->R x y H2->wpAny (model X.prog X.w) X.A (f v u) Q X.xe s2):
  wpAny (model X.prog X.w) X.A (eval a X.env) (fun v s₁=>wpAny (model X.prog X.w) X.A (eval b X.env) (fun u s₂=>wpAny (model X.prog X.w) X.A (f v u) Q X.xe s₂) X.xe s₁) X.xe s:=by
 refine cL (ha pins s σ H _ I h) fun v s1 ⟨x,H1,I1,r1,q1⟩=>?_;refine cL (hb pins s1 σ H1 _ I1 q1) fun u s2 ⟨y,H2,I2,r2,q2⟩=>?_;exact hf v u s2 x y H2 I2 r1 r2 q2
theorem CU{op:Operator}{r:R2}(ho:eg X (binaryOp op) r)(ha:PE X a ta)(hb:PE X b tb):PE X (.BinOp a op b pos) (Db r ta tb):=by
 intro pins s σ H Q I h;exact wpAny_BinOp (Ak ha hb I h fun v u s2 x y H2 I2 rx ry q=>ho pins s2 σ H2 x y v u Q I2 rx ry q)
theorem D5{op:UnaryOp}{r:V->Hp->VK->Prop}(ho:UnR X (unaryOp op) r)(ha:PE X a ta):PE X (.UnaryOp op a pos) (tUn r ta):=by
 intro pins s σ H Q I h;exact UnaryOp_ (cL (ha pins s σ H _ I h) fun v s1 ⟨x,H1,I1,r1,q1⟩=>ho pins s1 σ H1 x v Q I1 r1 q1)
theorem opI{f:Value->Value->Sem Value}{C:Int->Int->Prop}{g:Int->Int->Int}
  (rule:∀(i j:Int) (t u:Tok) (s:Shared) (Q:Value->Shared->Prop) (E:Value->Shared->Prop),C i j->Q (.int (g i j) s.toks) { s with toks:=s.toks+1 }->wpAny (model X.prog X.w) X.A (f (.int i t) (.int j u)) Q E s):
  eg X f (rI C fun i j=>.int (g i j)):=by
 intro pins s σ H x y v u Q I rx ry h;obtain ⟨i,j,rfl,rfl,hc,q⟩:=h;obtain ⟨t,rfl⟩:=rx;obtain ⟨t',rfl⟩:=ry;exact rule i j t t' s _ _ hc ⟨.int (g i j),H,I.tok _,⟨_,rfl⟩,q⟩
theorem Bg{f:Value->Value->Sem Value}{g:Int->Int->Int}
  (rule:∀(i j:Int) (t u:Tok) (s:Shared) (Q:Value->Shared->Prop) (E:Value->Shared->Prop),Q (.int (g i j) s.toks) { s with toks:=s.toks+1 }->wpAny (model X.prog X.w) X.A (f (.int i t) (.int j u)) Q E s):
  eg X f (zr fun i j=>.int (g i j)):=by
 intro pins s σ H x y v u Q I rx ry h;obtain ⟨i,j,rfl,rfl,q⟩:=h;obtain ⟨t,rfl⟩:=rx;obtain ⟨t',rfl⟩:=ry;exact rule i j t t' s _ _ ⟨.int (g i j),H,I.tok _,⟨_,rfl⟩,q⟩
theorem D4{f:Value->Value->Sem Value}{g:Int->Int->Bool}
  (rule:∀(i j:Int) (t u:Tok) (s:Shared) (Q:Value->Shared->Prop) (E:Value->Shared->Prop),Q (.bool (g i j)) s->wpAny (model X.prog X.w) X.A (f (.int i t) (.int j u)) Q E s):
  eg X f (zr fun i j=>.bl (g i j)):=by
 intro pins s σ H x y v u Q I rx ry h;obtain ⟨i,j,rfl,rfl,q⟩:=h;obtain ⟨t,rfl⟩:=rx;obtain ⟨t',rfl⟩:=ry;exact rule i j t t' s _ _ ⟨.bl (g i j),H,I,rfl,q⟩
def BX(i j:Int):Prop:=0<=j/\j<=1000000/\i.natAbs<2 ^ 64
def CMul(i j:Int):Prop:=(-(2 ^ 64)<i/\i<2 ^ 64)\/(-(2 ^ 64)<j/\j<2 ^ 64)
theorem CMul.ok{i j:Int}(h:CMul i j):IntMulOk i j:=by
 rcases h with ⟨h1,h2⟩|⟨h1,h2⟩
 ·exact .of_left (intBits_le_64 h1 h2)
 ·exact .of_right (intBits_le_64 h1 h2)
theorem AL:eg X (binaryOp .Add) (zr fun i j=>.int (i+j)):=Bg fun _ _ _ _ _ _ _ q=>add_int q
theorem Af:eg X (binaryOp .Sub) (zr fun i j=>.int (i-j)):=Bg fun _ _ _ _ _ _ _ q=>sub_int q
theorem AX:eg X (binaryOp .Mult) (rI CMul fun i j=>.int (i*j)):=opI fun _ _ _ _ _ _ _ hc q=>mul_int q hc.ok
theorem AS:eg X (binaryOp .Mod) (rI (fun _ j=>0<j) fun i j=>.int (i % j)):=opI fun i j _ _ _ _ _ hc q=>by
 have h1:(0:Int)<j:=hc;exact mod_int' (by lia) (by rw [Int.fmod_eq_emod_of_nonneg i (by lia)];exact q)
theorem zZ:eg X (binaryOp .Pow) (rI BX fun i j=>.int (i ^ j.toNat)):=opI fun _ _ _ _ _ _ _ hc q=>pow_int_small hc.1 hc.2.1 hc.2.2 q
theorem Ba:eg X (binaryOp .BitXor) (zr fun i j=>.int (Builtin.bitXor i j)):=Bg fun _ _ _ _ _ _ _ q=>xor_int q
theorem unI{f:Value->Sem Value}{g:Int->Int}
  (rule:∀(i:Int) (t:Tok) (s:Shared) (Q:Value->Shared->Prop) (E:Value->Shared->Prop),Q (.int (g i) s.toks) { s with toks:=s.toks+1 }->wpAny (model X.prog X.w) X.A (f (.int i t)) Q E s):
  UnR X f (rU fun i=>.int (g i)):=by
 intro pins s σ H x v Q I rx h;obtain ⟨i,rfl,q⟩:=h;obtain ⟨t,rfl⟩:=rx;exact rule i t s _ _ ⟨.int (g i),H,I.tok _,⟨_,rfl⟩,q⟩
theorem AD:UnR X (unaryOp .USub) (rU fun i=>.int (-i)):=unI fun _ _ _ _ _ q=>neg_int q
end
section
variable {X:Cx}{a b c:Expr}{ta tb tc:TE}{pos:Pos}
theorem Bw{pins:List (Addr×Obj)}{σ:St}{H:Hp}{s:Shared}{Q:VK}{k k':Bool}(I:Inv X pins σ H s)(q:Q (.bl k) H)(e:k=k'):EP X pins σ Q (.bool k') s:=by
 subst e;exact ⟨.bl k,H,I,rfl,q⟩
theorem Cp:eg X (compareOp .Lt) (zr fun i j=>.bl (decide (i<j))):=D4 fun _ _ _ _ _ _ _ q=>lt_int q
theorem Cc:eg X (compareOp .Gt) (zr fun i j=>.bl (decide (j<i))):=D4 fun _ _ _ _ _ _ _ q=>gt_int q
theorem Ax:eg X (compareOp .Is) (fun x y H Q=>y=.non/\Q (.bl (decide (x=.non))) H):=by
 intro pins s σ H x y v u Q I rx ry h;obtain ⟨rfl,q⟩:=h;cases ry;refine is_none_gen (Bw I q ?_)
 cases x<;>first
  |(cases rx;rfl)
  |(obtain ⟨t,rfl⟩:=rx;rfl)
theorem aM(b:Expr){op:CmpOp}(h:op≠.In:=by decide)(h2:op≠.NotIn:=by decide):behindInMarks op b=false:=by
 have e1:(op==CmpOp.In)=false:=by cases op<;>first|rfl|exact absurd rfl h
 have e2:(op==CmpOp.NotIn)=false:=by cases op<;>first|rfl|exact absurd rfl h2
 cases b<;>simp [behindInMarks,e1,e2]
theorem y2{op:CmpOp}{r:R2}(ho:eg X (compareOp op) r)(ha:PE X a ta)(hb:PE X b tb)(hm:behindInMarks op b=false):PE X (.Compare a [op] [b] pos) (Db r ta tb):=by
 intro pins s σ H Q I h;exact wpAny_Compare1 (Ak ha hb I h fun v u s2 x y H2 I2 rx ry q=>ho pins s2 σ H2 x y v u Q I2 rx ry q) hm
def BM(t:TE):TT:=fun σ H Q=>t σ H fun x H'=>∃k,x=.bl k/\Q k H'
theorem wD{op:CmpOp}{r:R2}(ho:eg X (compareOp op) r)(ha:PE X a ta)(hb:PE X b tb)(hm:behindInMarks op b=false):PT X (.Compare a [op] [b] pos) (BM (Db r ta tb)):=by
 intro pins s σ H Q I h;refine wpAny_isTrue_Compare1 (cL (ha pins s σ H _ I h) fun v s1 ⟨x,H1,I1,r1,q1⟩=>cL (hb pins s1 σ H1 _ I1 q1) fun u s2 ⟨y,H2,I2,r2,q2⟩=>
  cL (ho pins s2 σ H2 x y v u _ I2 r1 r2 q2) fun c s3 ⟨z,H3,I3,r3,k,e,q3⟩=>?_) hm
 subst e;cases r3;exact wpAny_truthy_bool ⟨H3,I3,q3⟩
def zR(r r':R2)(ta tb tc:TE):TE:=fun σ H Q=>ta σ H fun x H1=>tb σ H1 fun y H2=>r x y H2 fun z H3=>∃k,z=.bl k/\
 (if k=true then tc σ H3 fun w' H4=>r' y w' H4 Q else Q (.bl false) H3)
theorem tB{op op':CmpOp}{r r':R2}(ho:eg X (compareOp op) r)(ho':eg X (compareOp op') r')(ha:PE X a ta)(hb:PE X b tb)(hc:PE X c tc)
  (hm:lastMarks [op,op'] [b,c]=false:=by with_unfolding_all rfl):PE X (.Compare a [op,op'] [b,c] pos) (zR r r' ta tb tc):=by
 intro pins s σ H Q I h;refine Compare_chain (cL (ha pins s σ H _ I h) fun v s1 ⟨x,H1,I1,r1,q1⟩=>chain_link (cL (hb pins s1 σ H1 _ I1 q1) fun u s2 ⟨y,H2,I2,r2,q2⟩=>
  cL (ho pins s2 σ H2 x y v u _ I2 r1 r2 q2) fun d s3 ⟨z,H3,I3,r3,k,e,q3⟩=>?_)) hm
 subst e;cases r3;refine wpAny_truthy_bool ?_;cases k with
 |false=>exact ite_ff ⟨.bl false,H3,I3,rfl,q3⟩
 |true=>exact ite_tt (chain_last (cL (hc pins s3 σ H3 _ I3 q3) fun w' s4 ⟨z',H4,I4,r4,q4⟩=>ho' pins s4 σ H4 y z' u w' Q I4 r2 r4 q4))
def Bl(K:W.Frag)(x:V)(H:Hp)(k:Bool):Prop:=
 match x with
 |.non=>k=false
 |.bl b=>k=b
 |.int i=>k=(i != 0)
 |.str y=>y.length<=sizeLine/\k=((y.length:Int) != 0)
 |.byt y=>y.size<=sizeLine/\k=((y.size:Int) != 0)
 |.ref p=>(∃xs,SqL K H p xs/\k=!xs.isEmpty)\/(∃xs,iB K H p xs/\k=!xs.isEmpty)\/∃kvs,H p=some (.dK kvs)/\k=!kvs.isEmpty
 |_=>False
theorem pd{κ:Type}{kvs:List (κ×V)}{vs:List (κ×Value)}(r:KV kvs vs):(!vs.isEmpty)=!kvs.isEmpty:=by
 cases r<;>rfl
theorem jX{xs:List V}{its:List Value}(r:Vals xs its):(!its.toArray.isEmpty)=!xs.isEmpty:=by
 cases r<;>simp
theorem gH:(sizeLine:Nat)<2 ^ 63:=by rw [sizeLine_eq];decide
theorem AO:TruR X (fun x H Q=>∃k,Bl X.K x H k/\Q k H):=by
 intro pins s σ H x v Q I rx h;obtain ⟨k,e,q⟩:=h;have hl:=gH;have hs:sizeLine=16777216:=sizeLine_eq;cases x with
 |non=>
  cases rx;have e':k=false:=e;subst e';exact truthy_none ⟨H,I,q⟩
 |bl b=>
  cases rx;have e':k=b:=e;subst e';exact wpAny_truthy_bool ⟨H,I,q⟩
 |int i=>
  obtain ⟨t,rfl⟩:=rx;have e':k=(i != 0):=e;subst e';exact PySem.P.truthy_int ⟨H,I,q⟩
 |str y=>
  obtain ⟨t,rfl⟩:=rx;obtain ⟨hy,e'⟩:y.length<=sizeLine/\k=((y.length:Int) != 0):=e;subst e';exact PySem.P.truthy_str (by lia) ⟨H,I.tok _,q⟩
 |byt y=>
  obtain ⟨t,rfl⟩:=rx;obtain ⟨hy,e'⟩:y.size<=sizeLine/\k=((y.size:Int) != 0):=e;subst e';exact W.truthy_bytes (by lia) ⟨H,I.tok _,q⟩
 |ref p=>
  cases rx;have e':(∃xs,SqL X.K H p xs/\k=!xs.isEmpty)\/(∃xs,iB X.K H p xs/\k=!xs.isEmpty)\/∃kvs,H p=some (.dK kvs)/\k=!kvs.isEmpty:=e;rcases e' with ⟨xs,hx,e'⟩|⟨xs,hx,e'⟩|⟨kvs,hx,e'⟩
  ·subst e'
   obtain ⟨its,r,pl,hz⟩:=I.list hx;have hlen:=r.length;exact wpAny_truthy_list pl.isList (by simp only [List.size_toArray];lia) ⟨H,I.tok _,by rw [jX r];exact q⟩
  ·subst e'
   obtain ⟨its,r,pl,hz⟩:=I.tuple hx;have hlen:=r.length;exact truthy_tuple pl (by simp only [List.size_toArray];lia) ⟨H,I.tok _,by rw [jX r];exact q⟩
  ·subst e'
   obtain ⟨hz,hS,vs,r,m⟩:kvs.length<=sizeLine/\(p==sysModules)=false/\∃vs,KV kvs vs/\s.heap.DictOf (cu X.prog X.w) p vs:=I.hok p _ hx;have hlen:kvs.length=vs.length:=Paired.length r;exact wpAny_truthy_dict hS m (by lia) ⟨H,I.tok _,by rw [pd r];exact q⟩
 |_=>exact (show False from e).elim
theorem uH(ha:PE X a ta)(he:∀whole,isTrue a X.env whole=(do let v <- whole;standAt a.pos;holding [v] (truthy v))):
  PT X a (fun σ H Q=>ta σ H fun x H'=>∃k,Bl X.K x H' k/\Q k H'):=by
 intro pins s σ H Q I h;exact isTrue_plain (cL (ha pins s σ H _ I h) fun v s1 ⟨x,H1,I1,r1,q1⟩=>AO pins s1 σ H1 x v Q I1 r1 q1) (he _)
theorem qb:eg X (binaryOp .Add) (fun x y H Q=>∃i j,x=.str i/\y=.str j/\i.length+j.length<=sizeLine/\Q (.str (i++j)) H):=by
 intro pins s σ H x y v u Q I rx ry h;obtain ⟨i,j,rfl,rfl,hz,q⟩:=h;obtain ⟨t,rfl⟩:=rx;obtain ⟨t',rfl⟩:=ry;exact add_str (fun t' tk=>⟨.str (i++j),H,I.tok _,⟨_,rfl⟩,q⟩) hz
theorem iT{x:V}{us:List Value}(r:Vals [x] us):∃u,us=[u]/\RelV x u:=by
 cases r with
 |cons r1 r2=>cases r2;exact ⟨_,rfl,r1⟩
theorem BL{x y:V}{us:List Value}(r:Vals [x,y] us):∃u w',us=[u,w']/\RelV x u/\RelV y w':=by
 cases r with
 |cons r1 r2=>
  cases r2 with
  |cons r3 r4=>cases r4;exact ⟨_,_,rfl,r1,r3⟩
theorem so(hc:X.calm=true):dq X (.builtin "min") (fun xs H Q=>∃i j,xs=[.int i,.int j]/\Q (.int (if j<i then j else i)) H):=by
 intro pins s σ H xs us Q I r h;obtain ⟨i,j,rfl,q⟩:=h;obtain ⟨u,w',rfl,⟨t,rfl⟩,⟨t',rfl⟩⟩:=BL r;refine min_two_ints (I.ok.hd hc) fun h' tk k=>⟨_,H,I.kept k,?_,q⟩
 by_cases hj:j<i
 ·rw [if_pos hj,if_pos hj];exact ⟨_,rfl⟩
 ·rw [if_neg hj,if_neg hj];exact ⟨_,rfl⟩
end
end L2
namespace L2
open PySem PySem.Spec PyProof.Rows
structure ObjM(h:Heap)(x dx C:Addr)(mA:Str->Option Value):Prop where
 obj:h.get? x=some (W.instObj C dx)
 ns:h.Ns1 dx mA
 ne:dx≠x
theorem rK{h:Heap}{dx:Addr}{mA:Str->Option Value}(n:h.Ns1 dx mA):∃od,h.get? dx=some od/\∀name,W.lookIn name od=some (mA name):=by
 obtain ⟨o,es,ep,ho,hd,hk,_,hm⟩:=n;refine ⟨o,ho,fun name=>?_⟩;have e:=hm name;unfold nsFind findBy at e;rw [<- Array.find?_toList] at e;unfold W.lookIn;rw [hd];dsimp only
 split
 ·rename_i y q
  rw [q] at e;exact congrArg some e
 ·rename_i q
  rw [q] at e;have a:es.toList.any (·.refKey)=false:=by
   rw [List.any_eq_false];intro y hy;obtain ⟨z,t,hkey⟩:=hk y (Array.mem_toList_iff.mp hy);simp [DictEntry.refKey,hkey]
  have a':¬es.toList.any (·.refKey)=true:=by rw [a];exact Bool.false_ne_true
  rw [if_neg a'];exact congrArg some e
theorem ObjM.look{h:Heap}{x dx C:Addr}{mA:Str->Option Value}(I:ObjM h x dx C mA):∃od,W.InstAt h x (W.instObj C dx) C (some od)/\∀name,W.lookIn name od=some (mA name):=
 let ⟨od,ho,hl⟩:=rK I.ns
 ⟨od,⟨I.obj,rfl,rfl,ho⟩,hl⟩
section
variable {prog:Program}{w:World}{A:Around}{E:Value->Shared->Prop}{s:Shared}{K:W.Frag}{x dx C f:Addr}{mA:Str->Option Value}{name:Str}{v:Value}
end
theorem iz{v:V}{o:Option Value}(r:RelO (some v) o):∃u,o=some u/\RelV v u:=by
 cases o with
 |none=>exact (show False from r).elim
 |some u=>exact ⟨u,rfl,r⟩
section
variable {P:Program}{w:World}{H H':Hp}{h h':Heap}{a C dx:Addr}{fs fs':List (Str×V)}
theorem yE(hok:HOk P w H h)(e:H a=some (.ins C dx fs)):∃mA,ObjM h a dx C mA/\(∀f,RelO (fs.lookup f) (mA f))/\PySem.Within mA (fs.map (·.1))/\fs.length<=1000/\H dx=some (.own a):=by
 obtain ⟨d,z,ne,ob,mA,n,r,q⟩:=(show ObjOk P w H h a (.ins C dx fs) from hok a _ e);exact ⟨mA,⟨ob,n,ne⟩,r,q,z,d⟩
end
structure Cls(K:W.Frag)(C:Addr):Prop where
 pg:W.plainGet K C Str.empty=true
 hd:W.hasDictIn K C=true
 po:W.plainOver K C=true
 sa:W.findIn K (.ref C) "__setattr__"=some (some (.builtin "object.__setattr__"))
theorem Cls.get{K:W.Frag}{C:Addr}(c:Cls K C)(f:Str):W.plainGet K C f=true:=c.pg
section
variable {X:Cx}{pins:List (Addr×Obj)}{σ:St}{H:Hp}{s:Shared}{a C dx:Addr}{fs:List (Str×V)}{f:Str}{v:V}{A:Around}{E:Value->Shared->Prop}
end
section
variable {X:Cx}{o e value:Expr}{f:Str}{pos pos' tpos:Pos}{ta tv:TE}
end
section
variable {X:Cx}{pins:List (Addr×Obj)}{σ:St}{H:Hp}{s:Shared}{A:Around}{E:Value->Shared->Prop}{Q:Value->Shared->Prop}{c:Value}{b:Bool}
inductive TyOf(K:W.Frag)(H:Hp):V->Value->Prop where
 |non:TyOf K H .non (.type "NoneType")
 |bl (x:Bool):TyOf K H (.bl x) (.type "bool")
 |int (i:Int):TyOf K H (.int i) (.type "int")
 |str (x:Str):TyOf K H (.str x) (.type "str")
 |flt (x:UInt64):TyOf K H (.flt x) (.type "float")
 |lst {a:Addr} {xs:List V} (e:H a=some (.lst xs)):TyOf K H (.ref a) (.type "list")
 |frz {a:Addr} {o:Obj} {xs:List V} (e:H a=some (.frz o (.lst xs))):TyOf K H (.ref a) (.type "list")
 |tup {a:Addr} {xs:List V} (e:H a=some (.tup xs)):TyOf K H (.ref a) (.type "tuple")
 |dK {a:Addr} {kvs:List (di×V)} (e:H a=some (.dK kvs)):TyOf K H (.ref a) (.type "dict")
 |dT {a:Addr} {kvs:List (List di×V)} (e:H a=some (.dT kvs)):TyOf K H (.ref a) (.type "dict")
 |ins {a C dx:Addr} {fs:List (Str×V)} (e:H a=some (.ins C dx fs)) (cl:Cls K C) (ha:W.findIn K (.ref C) "__class__"=some (some (.builtin "object.__class__")))
   (hn:W.specialIn K (.builtin "object.__class__") "__get__"=some (some (.builtin "getset_descriptor.__get__"))) (htk:W.takesIn K (.builtin "object.__class__")=some true)
   (hm:W.mroIn K C (.type "object")=some true):TyOf K H (.ref a) (.ref C)
theorem rX{x:V}{u t:Value}(I:Inv X pins σ H s)(rx:RelV x u)(ty:TyOf X.K H x t)(e:W.kitOne X.K t c=some b)(h:∀tk,Q (.bool b) { s with toks:=tk }):
  wpAny (model X.prog X.w) A (call (.builtin "isinstance") [u,c]) Q E s:=by
 cases ty with
 |non=>cases (show u=Value.none from rx);exact W.kia_one W.kitx_none I.kIn True.intro e (fun z=>nomatch z) h
 |bl y=>cases (show u=Value.bool y from rx);exact W.kia_one W.kitx_bool I.kIn True.intro e (fun z=>nomatch z) h
 |int i=>obtain ⟨t,q⟩:=(show ∃t,u=Value.int i t from rx);cases q;exact W.kia_one W.kitx_int I.kIn True.intro e (fun z=>nomatch z) h
 |str y=>obtain ⟨t,q⟩:=(show ∃t,u=Value.str y t from rx);cases q;exact W.kia_one W.kitx_str I.kIn True.intro e (fun z=>nomatch z) h
 |flt y=>obtain ⟨t,q⟩:=(show ∃t,u=Value.float y t from rx);cases q;exact W.kia_one W.kitx_float I.kIn True.intro e (fun z=>nomatch z) h
 |@lst a xs ea=>
  cases (show u=Value.ref a from rx);obtain ⟨_,_,n,_,h1⟩:=(show ObjOk X.prog X.w H s.heap a (.lst xs) from I.hok a _ ea);exact W.kia_one W.kitx_list I.kIn ⟨_,h1,rfl⟩ e (fun z=>nomatch z) h
 |@frz a ob xs ea=>
  cases (show u=Value.ref a from rx);obtain ⟨_,_,_,n,_,h1⟩:=(show ObjOk X.prog X.w H s.heap a (.frz ob (.lst xs)) from I.hok a _ ea);exact W.kia_one W.kitx_list I.kIn ⟨_,h1,rfl⟩ e (fun z=>nomatch z) h
 |@tup a xs ea=>
  cases (show u=Value.ref a from rx);obtain ⟨_,_,_,p⟩:=(show ObjOk X.prog X.w H s.heap a (.tup xs) from I.hok a _ ea);obtain ⟨o,h1,⟨h2,_⟩,_⟩:=p;exact W.kia_one W.kitx_tuple I.kIn ⟨o,h1,h2⟩ e (fun z=>nomatch z) h
 |@dK a kvs ea=>
  cases (show u=Value.ref a from rx);obtain ⟨_,_,vs,_,p⟩:=(show ObjOk X.prog X.w H s.heap a (.dK kvs) from I.hok a _ ea);obtain ⟨o,es,ep,h1,h2,_⟩:=p;exact W.kia_one W.kitx_dict I.kIn ⟨o,h1,h2.1⟩ e (fun z=>nomatch z) h
 |@dT a kvs ea=>
  cases (show u=Value.ref a from rx);obtain ⟨_,_,xs,_,o,es,ep,h1,h2,_⟩:=(show ObjOk X.prog X.w H s.heap a (.dT kvs) from I.hok a _ ea);exact W.kia_one W.kitx_dict I.kIn ⟨o,h1,h2.1⟩ e (fun z=>nomatch z) h
 |@ins a C dx fs ea cl ha hn htk hm=>
  cases (show u=Value.ref a from rx);obtain ⟨mA,O,_⟩:=yE I.hok ea;obtain ⟨od,J,_⟩:=O.look;exact W.kia_one (W.kitx_own (cl.get _) cl.hd ha hn htk hm) I.kIn J e (fun z=>nomatch z) h
end
end L2
namespace L2
open PySem PySem.Spec PyProof.Rows
structure Room(k:Nat)(A:Around):Prop where
 hd:A.handled=none
 dp:A.depth+3*k+5<recursionLimit
 un:A.units+16*k+200<cLine
 gd:A.guards=some []
theorem Room.mono{j k:Nat}{A:Around}(r:Room k A)(h:j<=k):Room j A:=⟨r.hd,by have:=r.dp;lia,by have:=r.un;lia,r.gd⟩
theorem Room.deeper{k:Nat}{A:Around}(r:Room (k+1) A)(env:Env):Room k (A.deeper env):=
 ⟨r.hd,by have:=r.dp;show A.depth+1+3*k+5<_;lia,by have:=r.un;show A.units+3+16*k+200<_;lia,r.gd⟩
theorem Room.depth{k:Nat}{A:Around}(r:Room k A):A.depth<recursionLimit:=by have:=r.dp;lia
theorem Room.units{k:Nat}{A:Around}(r:Room k A):A.units+64<cLine:=by have:=r.un;lia
def tNil:TA:=fun _ H Q=>Q [] H
def BS(ta:TE)(tr:TA):TA:=fun σ H Q=>ta σ H fun x H1=>tr σ H1 fun xs H2=>Q (x::xs) H2
section
variable {X:Cx}{e:Expr}{es:List Expr}{te:TE}{t:TA}{pos:Pos}
theorem pL:PA X [] tNil:=fun _ _ _ _ H Q I h=>Calls.spliced_nil ⟨[],H,I,.nil,h⟩
theorem my(ha:PE X e te)(hr:PA X es t)(hs:starEach (e::es) X.env=(false,eval e X.env)::starEach es X.env:=by rfl):PA X (e::es) (BS te t):=by
 intro pos pins s σ H Q I h;rw [hs];show wpAny _ _ (spliced ((false,eval e X.env)::backTo pos (starEach es X.env))) _ _ s;refine Calls.spliced_cons (cL (ha pins s σ H _ I h) fun u s1 ⟨x,H1,I1,r1,q1⟩=>?_);exact cL (hr pos pins s1 σ H1 _ I1 q1) fun us s2 ⟨xs,H2,I2,r2,q2⟩=>⟨x::xs,H2,I2,.cons r1 r2,q2⟩
def tTup(t:TA):TE:=fun σ H Q=>t σ H fun xs H1=>xs.length<=sizeLine/\∀p,H1 p=none->Q (.ref p) (upd H1 p (.tup xs))
def tLst(t:TA):TE:=fun σ H Q=>t σ H fun xs H1=>xs.length<=sizeLine/\∀p,H1 p=none->Q (.ref p) (upd H1 p (.lst xs))
theorem AW{x1}(h:PA X es t):PE X (.Tuple es x1 pos) (tTup t):=by
 intro pins s σ H Q I hq;refine wpAny_Tuple_spliced (cL (h pos pins s σ H _ I hq) fun us s1 ⟨xs,H1,I1,r,z,q⟩=>⟨by rw [<- r.length];exact z,?_⟩)
 have hf:H1 s1.heap.objs.size=none:=I1.hok.fresh (Nat.le_refl _);refine ⟨.ref s1.heap.objs.size,upd H1 s1.heap.objs.size (.tup xs),I1.laid (t':=s1.toks) (fun b u e=>Heap.get?_push_of_some _ e) (Nat.le_refl _) ?_,rfl,q _ hf⟩;exact ⟨z,us,r,⟨_,Heap.get?_push_size _ rfl,⟨rfl,_,rfl⟩,rfl⟩⟩
theorem B0(h:PA X es t):PE X (.List es pos) (tLst t):=by
 intro pins s σ H Q I hq;refine wpAny_List_spliced (cL (h pos pins s σ H _ I hq) fun us s1 ⟨xs,H1,I1,r,z,q⟩=>⟨by rw [<- r.length];exact z,?_⟩)
 have hf:H1 s1.heap.objs.size=none:=I1.hok.fresh (Nat.le_refl _);refine ⟨.ref s1.heap.objs.size,upd H1 s1.heap.objs.size (.lst xs),I1.laid (t':=s1.toks) (fun b u e=>Heap.get?_push_of_some _ e) (Nat.le_refl _) ?_,rfl,q _ hf⟩;exact ⟨z,us,0,r,Heap.get?_push_size _ rfl⟩
end
abbrev Sp:=List V->Hp->VK->XK->Prop
abbrev ku:=List Env->Hp->Shared->XK->Value->Shared->Prop
structure Env0(P:Program)(w:World)(K:W.Frag)(mg:Str->Option Value)(base:Heap)(A:Around)(outer:List Env)(s:Shared)(H:Hp):Prop where
 frames:A.frames=some outer
 mod:Mod K mg base
 bs:∀b o,base.get? b=some o->s.heap.get? b=some o/\H b=none
 bsz:base.objs.size<=s.heap.objs.size
 funs:s.heap.FunFrames base outer
 frf:∀b∈gf outer,H b=none
 hok:HOk P w H s.heap
 bare:AllBare s.gens
def CE(outer:List Env)(P:Program)(w:World)(H:Hp)(s:Shared)(Q:VK)(u:Value)(s':Shared):Prop:=
 ∃v H',s'.os=s.os/\AllBare s'.gens/\Un (gf outer) [] H H' s.heap s'.heap/\HOk P w H' s'.heap/\RelV v u/\Q v H'
def CR(CX:ku)(outer:List Env)(P:Program)(w:World)(H:Hp)(s:Shared)(Q:VK)(E:XK)(r:Result)(s':Shared):Prop:=
 match r with
 |.ok (.ret u)=>CE outer P w H s Q u s'
 |.ok _=>False
 |.error e=>CX outer H s E e s'
structure FnOk(P:Program)(w:World)(K:W.Frag)(mg:Str->Option Value)(base:Heap)(CX:ku)(k:Nat)(f:Addr)(fd:FuncData)(ps:List Str)(sp:Sp):Prop where
 len:∀vs H Q E,sp vs H Q E->vs.length=ps.length
 run:∀(A:Around) (outer:List Env) (s:Shared) (H:Hp) (args:Args) (us:List Value) (vs:List V) (Q:VK) (E:XK),Room k A->Env0 P w K mg base A outer s H->BindsTo s fd args (ps.zip us)->Vals vs us->sp vs H Q E->
  codeAny (model P w) A (.call (.ref f) args) (CR CX outer P w H s Q E) s
theorem FnOk.imp{P:Program}{w:World}{K:W.Frag}{mg:Str->Option Value}{base:Heap}{CX:ku}{k:Nat}{f:Addr}{fd:FuncData}{ps:List Str}{sp sp':Sp}(F:FnOk P w K mg base CX k f fd ps sp)
  (h:∀vs H Q E,sp' vs H Q E->sp vs H Q E):FnOk P w K mg base CX k f fd ps sp':=
 ⟨fun vs H Q E q=>F.len vs H Q E (h _ _ _ _ q),fun A outer s H args us vs Q E hr he hb hv hs=>F.run A outer s H args us vs Q E hr he hb hv (h _ _ _ _ hs)⟩
section
variable {X:Cx}{pins:List (Addr×Obj)}{σ:St}{H:Hp}{s s':Shared}
theorem Inv.env0(I:Inv X pins σ H s):Env0 X.prog X.w X.K X.mg X.base X.A X.stack s H:=
 ⟨I.ok.frames,I.ok.mod,I.bs,Nat.le_trans I.ok.bsz I.sz,I.stack,I.stkFree,I.hok,I.bare⟩
theorem Inv.after{Q:VK}{u:Value}(I:Inv X pins σ H s)(h:CE X.stack X.prog X.w H s Q u s'):EP X pins σ Q u s':=by
 obtain ⟨v,H',os,bare,un,hok,r,q⟩:=h;obtain ⟨hh,g,d,t,os'⟩:=s';obtain rfl:os'=s.os:=os;exact ⟨v,H',I.call (h':=hh) (g':=g) (d':=d) (t':=t) (ch:=[]) un hok bare (fun b z=>absurd z (by simp)),r,q⟩
end
def zm(sp:Sp)(dvs:List V)(E:XK)(t:TA):TE:=fun σ H Q=>t σ H fun vs H1=>sp (vs++dvs) H1 Q E
def Binds(K:W.Frag)(fd:FuncData)(ps:List Str)(ds:List Value):Prop:=
 ∀(s:Shared) (us:List Value),K.In s.heap->(us++ds).length=ps.length->BindsTo s fd ⟨us,[]⟩ (ps.zip (us++ds))
theorem Binds.all{K:W.Frag}{fd:FuncData}{ps:List Str}(h:∀us:List Value,us.length=ps.length->bindArgs fd ⟨us,[]⟩=pure (ps.zip us)):Binds K fd ps []:=fun s us _ hl=>by
 rw [List.append_nil] at hl ⊢;exact .of_eq (h us hl)
def gF(CX:ku)(X:Cx)(E:XK):Prop:=∀(pins:List (Addr×Obj)) (σ:St) (H:Hp) (s:Shared) (e:Value) (s':Shared),Inv X pins σ H s->CX X.stack H s E e s'->X.xe e s'
section
variable {X:Cx}{CX:ku}{k:Nat}{f C:Addr}{fd:FuncData}{ps:List Str}{sp:Sp}{dvs:List V}{ds:List Value}{E:XK}{x m:Str}{p pos apos:Pos}{e o:Expr}{es:List Expr}{ta:TE}{t:TA}
theorem Ai{pins:List (Addr×Obj)}{σ:St}{H:Hp}{s:Shared}{Q:VK}{us:List Value}{vs:List V}(F:FnOk X.prog X.w X.K X.mg X.base CX k f fd ps sp)(hr:Room k X.A)(hb:Binds X.K fd ps ds)(hd:Vals dvs ds)(hx:gF CX X E)
  (I:Inv X pins σ H s) (r:Vals vs us) (h:sp (vs++dvs) H Q E):wpAny (model X.prog X.w) X.A (call (.ref f) us) (EP X pins σ Q) X.xe s:=by
 have r2:Vals (vs++dvs) (us++ds):=r.append hd;have hl:(us++ds).length=ps.length:=by rw [<- r2.length];exact F.len _ _ _ _ h
 refine wpAny_call (codeAny_mono (F.run X.A X.stack s H ⟨us,[]⟩ (us++ds) (vs++dvs) Q E hr I.env0 (hb s us I.kIn hl) r2 h) fun r s' hq=>?_);cases r with
 |error e=>exact hx pins σ H s e s' I hq
 |ok fl=>
  cases fl with
  |ret u=>exact I.after hq
  |next=>exact False.elim hq
  |brk=>exact False.elim hq
  |cont=>exact False.elim hq
theorem zd(F:FnOk X.prog X.w X.K X.mg X.base CX k f fd ps sp)(hr:Room k X.A)(hg:Gl X x)(hm:X.mg x=some (.ref f))(hk:W.keepIn X.K (.ref f)=true)(hb:Binds X.K fd ps ds)(hd:Vals dvs ds)(hx:gF CX X E)
  (ha:PA X (e::es) t) (hdb:(x==("__debug__":Str))=false:=by decide) (he:starEach (e::es) X.env=(false,eval e X.env)::starEach es X.env:=by rfl) (hpl:(backTo pos (starEach es X.env)).any (·.1)=false:=by rfl):
  PE X (.Call (.Name x p) (e::es) [] pos) (zm sp dvs E t):=by
 intro pins s σ H Q I h;refine wpAny_Call_Name_kw (gi I hg hm ?_ hdb);refine W.callWith_K (h₀:=X.base) I.ok.mod.kin hk (cL (ha pos pins s σ H _ I h) fun us s1 ⟨vs,H1,I1,r,q⟩=>⟨I1.kIn,?_⟩) he hpl;exact Ai F hr hb hd hx I1 r q
end
section
variable {X:Cx}{CX:ku}{k:Nat}{f C:Addr}{fd:FuncData}{ps ks:List Str}{sp:Sp}{E:XK}{x m:Str}{p pos apos kpos:Pos}{e o:Expr}{es:List Expr}{kws:List Keyword}{te ta:TE}{t tk:TA}{nm:Option Str}
variable {g:List Value->List Value->List Value}{gV:List V->List V->List V}
end
structure FnScope(N P:List Str)(sc:Scope):Prop where
 kind:sc.kind=.function
 co:sc.isCoroutine=false
 gen:sc.isGenerator=false
 nd:N.Nodup
 pre:N.take P.length=P
 par:∀x∈P,sc.names.lookup x=some .local\/sc.names.lookup x=some .cell
 nofree:∀y∈sc.names,y.2≠.free
theorem kY{kindOf:Str->Option NameKind}{x:Str}:∀{binds:List (Str×Value)} {m:Str->Option Value},(∀v,(x,v)∉binds)->bindL kindOf binds m x=m x
 |[],_,_=>rfl
 |(n,v)::r,m,h=>by
  unfold bindL;rw [kY fun w hw=>h w (List.mem_cons_of_mem _ hw)]
  split
  ·have:x≠n:=by rintro rfl;exact h v List.mem_cons_self
   simp [this]
  ·rfl
theorem kW{kindOf:Str->Option NameKind}{x:Str}:∀{binds:List (Str×Value)} {m:Str->Option Value},(∀v,(x,v)∉binds)->bindC kindOf binds m x=m x
 |[],_,_=>rfl
 |(n,v)::r,m,h=>by
  unfold bindC;rw [kW fun w hw=>h w (List.mem_cons_of_mem _ hw)]
  split
  ·rfl
  ·have:x≠n:=by rintro rfl;exact h v List.mem_cons_self
   simp [this]
theorem kX{kindOf:Str->Option NameKind}{x:Str}{v:Value}:∀{P:List Str} {vs:List Value} {i:Nat} {m:Str->Option Value},P.Nodup->P[i]?=some x->vs[i]?=some v->kindOf x=some .local->
  bindL kindOf (P.zip vs) m x=some v
 |[],_,_,_,_,h,_,_=>by simp at h
 |_::_,[],_,_,_,_,h,_=>by simp at h
 |p::P,w::vs,0,m,nd,h1,h2,hk=>by
  simp at h1 h2;subst h1;subst h2;show bindL kindOf ((p,w)::P.zip vs) m p=_;unfold bindL;rw [kY fun v hv=>(List.nodup_cons.mp nd).1 (List.of_mem_zip hv).1,if_pos hk];simp
 |p::P,w::vs,i+1,m,nd,h1,h2,hk=>by
  show bindL kindOf ((p,w)::P.zip vs) m x=_;unfold bindL;exact kX (i:=i) (List.nodup_cons.mp nd).2 (by simpa using h1) (by simpa using h2) hk
theorem lb{kindOf:Str->Option NameKind}{x:Str}{v:Value}:∀{P:List Str} {vs:List Value} {i:Nat} {m:Str->Option Value},P.Nodup->P[i]?=some x->vs[i]?=some v->kindOf x≠some .local->
  bindC kindOf (P.zip vs) m x=some v
 |[],_,_,_,_,h,_,_=>by simp at h
 |_::_,[],_,_,_,_,h,_=>by simp at h
 |p::P,w::vs,0,m,nd,h1,h2,hk=>by
  simp at h1 h2;subst h1;subst h2;show bindC kindOf ((p,w)::P.zip vs) m p=_;unfold bindC;rw [kW fun v hv=>(List.nodup_cons.mp nd).1 (List.of_mem_zip hv).1,if_neg hk];simp
 |p::P,w::vs,i+1,m,nd,h1,h2,hk=>by
  show bindC kindOf ((p,w)::P.zip vs) m x=_;unfold bindC;exact lb (i:=i) (List.nodup_cons.mp nd).2 (by simpa using h1) (by simpa using h2) hk
def start(N:List Str)(vs:List V):St:=vs.map some++List.replicate (N.length-vs.length) none
def fb(CX:ku)(P:Program)(w:World)(K:W.Frag)(mg:Str->Option Value)(base:Heap)(N:List Str)(qual:Str)(scope:Scope)(f:Addr)(cd:Value)(A:Around)(outer:List Env)(s:Shared)(H:Hp)(E:XK):Cx where
 prog:=P
 w:=w
 K:=K
 mg:=mg
 base:=base
 A:=A.deeper (envOfC qual scope s.heap.objs.size f cd)
 N:=N
 s₀:=s
 H₀:=H
 env:=envOfC qual scope s.heap.objs.size f cd
 outer:=outer
 stack:=envOfC qual scope s.heap.objs.size f cd::outer
 ex:=[]
 calm:=true
 fn:=fun _=>true
 pn:=[]
 xe:=fun e s'=>wpAny (model P w) (A.deeper (envOfC qual scope s.heap.objs.size f cd)) (leaving (envOfC qual scope s.heap.objs.size f cd) e) (fun _ s''=>CX outer H s E e s'') (fun e' s''=>CX outer H s E e' s'') s'
theorem nV{sc:Scope}{n:Nat}{x:Str}(h:sc.names.lookup x=some .cell):∃c,(cellsFrom n sc.names []).lookup x=some c:=by
 have q:=W.cellsFrom_some sc.names n [] (.inl h);exact Option.isSome_iff_exists.mp q
theorem k_{CX:ku}{P:Program}{w:World}{K:W.Frag}{mg:Str->Option Value}{base:Heap}{N ps:List Str}{qual:Str}{scope:Scope}{f:Addr}{cd:Value}{A:Around}{outer:List Env}{s s1:Shared}{H:Hp}{E:XK}{us:List Value}{vs:List V}
  (S:FnScope N ps scope) (hd:A.handled=none) (e0:Env0 P w K mg base A outer s H) (hl:vs.length=ps.length) (r:Vals vs us)
  (x:InCallC s s.heap.objs.size (bindL (envOfC qual scope s.heap.objs.size f cd).kindOf (ps.zip us) fun _=>none) (cellsFrom (s.heap.objs.size+1) scope.names []) (bindC (envOfC qual scope s.heap.objs.size f cd).kindOf (ps.zip us) fun _=>none) s1):
  Inv (fb CX P w K mg base N qual scope f cd A outer s H E) [] (start N vs) H s1:=by
 have hpl:ps.length<=N.length:=by have:=congrArg List.length S.pre;rw [List.length_take] at this;lia
 obtain ⟨h1,tk,rfl,hk⟩:=x.done;have noA:∀b:Addr,b∉(fb CX P w K mg base N qual scope f cd A outer s H E).ex:=fun b z=>absurd (show b∈([]:List Addr) from z) (by simp)
 refine ⟨⟨e0.mod,S.kind,rfl,rfl,Nat.le_refl _,fun y z c h1 h2=>?_,fun y hy=>?_,fun y c _ h=>?_,fun _=>hd,Around.frames_deeper e0.frames,.inr ⟨rfl,rfl⟩,fun b z=>absurd z (noA b),e0.bs,e0.bsz,fun b _ _=>noA b,fun b z=>absurd z (noA b),e0.funs,e0.frf⟩,
  rfl,e0.bare,Un.kept hk,⟨_,x.toInCall.ns,fun i y v h1 h2 h3=>?_⟩,fun y c h=>⟨_,x.cell y c h⟩,e0.hok.fresh (Nat.le_refl _),fun y c h=>?_,fun p hp=>absurd (show p∈([]:List (Addr×Obj)) from hp) (by simp),e0.hok.kept hk,?_⟩
 ·exact name_of_addr x.apart (PySem.mem_of_lookup h1) (PySem.mem_of_lookup h2)
 ·have hy:scope.names.lookup y=some .cell\/scope.names.lookup y=some .free:=hy
  rcases hy with hy|hy
  ·exact nV hy
  ·exact absurd rfl (S.nofree _ (PySem.mem_of_lookup hy))
 ·exact Nat.le_of_lt (x.above y c (PySem.mem_of_lookup h))
 ·have hi:i<vs.length:=by
   unfold start at h2
   by_cases hi:i<vs.length
   ·exact hi
   ·rw [List.getElem?_append_right (by simpa using hi)] at h2
    rw [List.getElem?_replicate] at h2
    split at h2<;>cases h2
  have ha:vs[i]?=some v:=by
   unfold start at h2;rw [List.getElem?_append_left (by simpa using hi),List.getElem?_map] at h2
   cases e:vs[i]? with
   |none=>rw [e] at h2;cases h2
   |some a=>rw [e] at h2;cases h2;rfl
  obtain ⟨u,hu,rv⟩:=r.get ha;have hp:ps[i]?=some y:=by
   rw [<- S.pre,List.getElem?_take_of_lt (by lia)];exact h1
  have ndP:ps.Nodup:=by rw [<- S.pre];exact S.nd.sublist (List.take_sublist _ _)
  refine ⟨u,rv,?_⟩;rcases S.par y (List.mem_of_getElem? hp) with k|k
  ·exact .inl ⟨k,kX ndP hp hu k⟩
  ·obtain ⟨c,e⟩:=nV (n:=s.heap.objs.size+1) k
   refine .inr ⟨.inl k,c,e,?_⟩;have q:=x.cell y c e;rw [lb ndP hp hu (by show scope.names.lookup y≠_;rw [k];decide)] at q
   exact q
 ·exact e0.hok.fresh (Nat.le_of_lt (x.above y c (PySem.mem_of_lookup h)))
 ·unfold start
  show _=N.length;rw [List.length_append,List.length_map,List.length_replicate];lia
theorem De{CX:ku}{P:Program}{w:World}{K:W.Frag}{mg:Str->Option Value}{base:Heap}{k:Nat}{f:Addr}{name qual:Str}{params:Arguments}{body:List Stmt}{scope:Scope}{dV kV doc pm cdv ct oc:Value}{an od:Option Addr}
  {osl:Array (Option Value)} {N ps:List Str} {sp:Sp} (lk:K.lookup f=some ⟨oc,od,.func (W.fnOf name qual params body scope dV kV doc pm an cdv ct),osl⟩) (hcd:W.codeIn K cdv qual=true) (S:FnScope N ps scope)
  (len:∀vs H Q E,sp vs H Q E->vs.length=ps.length)
  (hbody:∀(A:Around) (outer:List Env) (s:Shared) (H:Hp) (vs:List V) (Q:VK) (E:XK),Room k (A.deeper (envOfC qual scope s.heap.objs.size f cdv))->sp vs H Q E->
   ∃t,qC (fb CX P w K mg base N qual scope f cdv A outer s H E) body t/\t { nx:=fun _ H'=>Q .non H',rt:=Q } (start N vs) H):
  FnOk P w K mg base CX (k+1) f (W.fnOf name qual params body scope dV kV doc pm an cdv ct) ps sp:=by
 refine ⟨len,fun A outer s H args us vs Q E hr e0 hb r hsp=>?_⟩;have hl:=len _ _ _ _ hsp;have KX:K.In s.heap:=e0.mod.kin.keeps fun b o e=>(e0.bs b o e).1;have lim:s.heap.NoLimit:=e0.mod.nolimit.keeps fun b o e=>(e0.bs b o e).1;have hkind:∀y∈ps.zip us,scope.names.lookup y.1=some .local\/(scope.names.lookup y.1=some .cell/\((cellsFrom (s.heap.objs.size+1) scope.names []).lookup y.1).isSome=true):=fun ⟨n,v⟩ hy=>by
  rcases S.par n (List.of_mem_zip hy).1 with q|q
  ·exact .inl q
  ·exact .inr ⟨q,W.cellsFrom_some _ _ _ (.inl q)⟩
 refine codeAny_call_function hr.depth (KX _ _ lk) rfl S.co S.gen rfl (W.codeRec_of KX hcd) (hb _ _ _ _ ?_);refine wpAny_newFunctionEnv_cells S.kind hkind fun env he s1 x=>?_;subst he;refine ⟨lim.keeps x.toInCall.keep,codeAny_func ?_⟩;obtain ⟨t,ht,hq⟩:=hbody A outer s H vs Q E (hr.deeper _) hsp;have I:Inv (fb CX P w K mg base N qual scope f cdv A outer s H E) [] (start N vs) H s1:=k_ S hr.hd e0 hl r x;refine wpAny_mono (ht [] s1 (start N vs) H _ I hq) (fun fl s' hs=>?_) fun e s' hs=>hs;have fin:∀{σ':St} {H':Hp} {v:V} {u:Value},Inv (fb CX P w K mg base N qual scope f cdv A outer s H E) [] σ' H' s'->RelV v u->Q v H'->CE outer P w H s Q u s':=
  fun {σ' H' v u} J rv q=>⟨v,H',J.os,J.bare,J.base,J.hok,rv,q⟩
 cases fl with
 |ret u=>
  obtain ⟨v,σ',H',J,rv,q⟩:=hs;exact fin J rv q
 |next=>
  obtain ⟨σ',H',J,q⟩:=hs;exact fin (v:=V.non) (u:=Value.none) J rfl q
 |brk=>
  obtain ⟨_,_,_,q⟩:=hs;exact False.elim q
 |cont=>
  obtain ⟨_,_,_,q⟩:=hs;exact False.elim q
end L2
namespace L2
open PySem PySem.Spec PyProof.Rows
section
variable {X:Cx}{x:Str}{p pos:Pos}{e:Expr}{es:List Expr}{t:TA}{id T:String}{r:List V->Hp->VK->Prop}
def tCB(r:List V->Hp->VK->Prop)(t:TA):TE:=fun σ H Q=>t σ H fun vs H1=>r vs H1 Q
theorem nY(hc:dq X (.builtin id) r)(hg:Gl X x)(hm:X.mg x=none)(hv:bootBuiltins x=some (.builtin id))(ha:PA X (e::es) t)(hn:x≠"__name__":=by decide)(hdb:(x==("__debug__":Str))=false:=by decide)
  (he:starEach (e::es) X.env=(false,eval e X.env)::starEach es X.env:=by rfl) (hpl:(backTo pos (starEach es X.env)).any (·.1)=false:=by rfl):PE X (.Call (.Name x p) (e::es) [] pos) (tCB r t):=by
 intro pins s σ H Q I h;refine wpAny_Call_Name_kw (gA I hg hm hv ?_ hn hdb);exact PyProof.Rows.callWith_builtin1 (cL (ha pos pins s σ H _ I h) fun us s1 ⟨vs,H1,I1,r1,q1⟩=>hc pins s1 σ H1 vs us Q I1 r1 q1) he hpl
theorem rS(hc:dq X (.type T) r)(hg:Gl X x)(hm:X.mg x=none)(hv:bootBuiltins x=some (.type T))(ha:PA X (e::es) t)(hn:x≠"__name__":=by decide)(hdb:(x==("__debug__":Str))=false:=by decide)
  (he:starEach (e::es) X.env=(false,eval e X.env)::starEach es X.env:=by rfl) (hpl:(backTo pos (starEach es X.env)).any (·.1)=false:=by rfl):PE X (.Call (.Name x p) (e::es) [] pos) (tCB r t):=by
 intro pins s σ H Q I h;refine wpAny_Call_Name_kw (gA I hg hm hv ?_ hn hdb);exact PyProof.Rows.callWith_type1 (cL (ha pos pins s σ H _ I h) fun us s1 ⟨vs,H1,I1,r1,q1⟩=>hc pins s1 σ H1 vs us Q I1 r1 q1) he hpl
end
end L2
namespace HT
open PySem PyProof.Rows
section
open PySem.SeqAt
open PySem.AutoSeq1 (wpAny_loadPart')
open PySem.MeetsSeq PySem.MeetsSeq2 PySem.MeetsSeq3
end
section
variable {prog:Program}{w:World}{A:Around}{E:Value->Shared->Prop}{s:Shared}
theorem xw{t b:Addr}{vs ws:List Value}{Q:Value->Shared->Prop}(ht:IsTup s.heap t vs.toArray)(hb:IsTup s.heap b ws.toArray)(hv:vs≠[])
  (h1:ws=[]->Q (.ref t) s) (h2:ws≠[]->Q (.ref s.heap.objs.size) { s with heap:=s.heap.push { cls:=.type "tuple",data:=.seq (vs++ws).toArray } })
  (hsz:vs.length+ws.length<=sizeLine):wpAny (model prog w) A (binaryOp .Add (.ref t) (.ref b)) Q E s:=by
 obtain ⟨⟨cls,dd,data,sl⟩,ho,hc,n,hd⟩:=id ht;obtain ⟨⟨cls2,dd2,data2,sl2⟩,ho2,hc2,n2,hd2⟩:=id hb;simp only at hc hd hc2 hd2;subst hc hd hc2 hd2;have e:vs.toArray++ws.toArray=(vs++ws).toArray:=by simp
 by_cases hw:ws=[]
 ·exact concat_meets ⟨_,ho,rfl⟩ ⟨_,ho2,rfl⟩ noFill_tuple_add seq_tuple_add PySem.F.slot_tuple_add PySem.F.entry_tuple_add (PySem.F.args_tuple_add_2 _ _)
   (tuple_addW1 t b vs.toArray ws.toArray n n2 dd dd2 sl sl2 (by simpa using hv) (by simp [hw])) ⟨ho,ho2,h1 hw⟩
 ·refine concat_meets ⟨_,ho,rfl⟩ ⟨_,ho2,rfl⟩ noFill_tuple_add seq_tuple_add PySem.F.slot_tuple_add PySem.F.entry_tuple_add (PySem.F.args_tuple_add_2 _ _)
   (tuple_addW2 t b vs.toArray ws.toArray n n2 dd dd2 sl sl2 (by simpa using hv) (by simpa using hw) (by rw [List.size_toArray,List.size_toArray];exact hsz)) ⟨ho,ho2,?_⟩
  rw [e];exact h2 hw
def sIx(n d:Nat):Option Int->Nat
 |none=>d
 |some v=>if v<0 then (v+(n:Int)).toNat else min v.toNat n
theorem nT(n d:Nat):sIx n d none=d:=rfl
theorem qU(n d k:Nat):sIx n d (some (k:Int))=min k n:=by
 show (if (k:Int)<0 then ((k:Int)+(n:Int)).toNat else min (k:Int).toNat n)=min k n
 rw [if_neg (by lia),Int.toNat_natCast]
theorem Bm(n d:Nat)(hd:d<=n)(o:Option Int):sIx n d o<=n:=by
 cases o with
 |none=>exact hd
 |some v=>
  show (if v<0 then (v+(n:Int)).toNat else min v.toNat n)<=n
  by_cases hv:v<0
  ·rw [if_pos hv];lia
  ·rw [if_neg hv];exact Nat.min_le_right _ _
theorem rE(v:Int)(n d:Nat):(if v<0 then max (v+(n:Int)) 0 else min v (n:Int))=((sIx n d (some v):Nat):Int):=by
 show (if v<0 then max (v+(n:Int)) 0 else min v (n:Int))=(((if v<0 then (v+(n:Int)).toNat else min v.toNat n):Nat):Int)
 by_cases hv:v<0
 ·simp only [if_pos hv];lia
 ·simp only [if_neg hv];lia
theorem p0(lo hi:Option Int)(n:Nat):Builtin.Slice.sliceAdjust lo hi 1 (n:Int)=(((sIx n 0 lo:Nat):Int),((sIx n n hi:Nat):Int)):=by
 have h1:¬((1:Int)<0):=by lia
 unfold Builtin.Slice.sliceAdjust;simp only [h1,if_false];refine Prod.ext ?_ ?_
 ·cases lo with
  |none=>rfl
  |some v=>exact rE v n 0
 ·cases hi with
  |none=>rfl
  |some v=>exact rE v n n
theorem pR(i j:Nat):Builtin.Slice.slicePlaces (i:Int) (j:Int) 1=j-i:=by
 unfold Builtin.Slice.slicePlaces;have h1:(1:Int)>0:=by lia
 simp only [h1,if_true,Int.ediv_one]
 split<;>lia
theorem ka{v:Value}{o:Option Int}{Q:Option Int->Shared->Prop}(p:IsPart v o)(h:Q o s):wpAny (model prog w) A (Builtin.Slice.slicePartIndex v) Q E s:=by
 cases p with
 |none=>exact slicePart_none h
 |int i t=>exact slicePart_int h
theorem eU{sl:Addr}{vl vu:Value}{lo hi:Option Int}{n:Nat}{Q:Int×Int×Nat->Shared->Prop}(hs:s.heap.IsSliceOf sl vl vu .none)(pl:IsPart vl lo)(pu:IsPart vu hi)
  (h:Q (((sIx n 0 lo:Nat):Int),1,sIx n n hi-sIx n 0 lo) s):wpAny (model prog w) A (Builtin.Slice.sliceApplied (.ref sl) (pure (n:Int))) Q E s:=by
 obtain ⟨os,hos,hcs,hds⟩:=id hs;unfold Builtin.Slice.sliceApplied Builtin.Slice.sliceFields;refine wpAny_bind (wpAny_bind (wpAny_field hos hds (x:=vl) rfl (wpAny_bind (wpAny_field hos hds (x:=vu) rfl (wpAny_bind (wpAny_field hos hds (x:=.none) rfl (wpAny_pure ?_)))))));refine wpAny_bind (slicePart_none ?_);show wpAny _ _ (if ((1:Int)==0)=true then _ else _) _ _ s
 rw [if_neg (by decide)]
 refine wpAny_bind (ka pl (wpAny_bind (ka pu (wpAny_bind (wpAny_pure ?_)))));show wpAny _ _ (match Builtin.Slice.sliceAdjust lo hi 1 (n:Int) with|(lo,hi)=>pure (lo,(1:Int),Builtin.Slice.slicePlaces lo hi 1)) _ _ s
 rw [p0 lo hi n];show wpAny _ _ (pure (((sIx n 0 lo:Nat):Int),(1:Int),Builtin.Slice.slicePlaces ((sIx n 0 lo:Nat):Int) ((sIx n n hi:Nat):Int) 1)) _ _ s;rw [pR];exact wpAny_pure h
theorem tI(xs:Array Value)(i k:Nat):((List.range k).filterMap fun (m:Nat)=>xs[((i:Int)+(m:Int)*1).toNat]?).toArray=((xs.toList.drop i).take k).toArray:=by
 have e:(fun (m:Nat)=>xs[((i:Int)+(m:Int)*1).toNat]?)=fun m=>xs[i+m]?:=by
  funext m;have:((i:Int)+(m:Int)*1).toNat=i+m:=by lia
  rw [this]
 rw [e];have:=pick_run xs i k;rw [List.filterMap_map] at this;have e2:((fun x=>xs[x]?) ∘ fun x=>i+x)=fun m=>xs[i+m]?:=rfl;rw [e2] at this;rw [this]
theorem iw{t sl:Addr}{items:Array Value}{vl vu:Value}{lo hi:Option Int}{Q:Value->Shared->Prop}(ht:IsTup s.heap t items)(hs:s.heap.IsSliceOf sl vl vu .none)(pl:IsPart vl lo)(pu:IsPart vu hi)
  (hw:¬(sIx items.size 0 lo=0/\sIx items.size items.size hi=items.size))
  (h:Q (.ref s.heap.objs.size) { s with heap:=s.heap.push { cls:=.type "tuple",data:=.seq ((items.toList.drop (sIx items.size 0 lo)).take (sIx items.size items.size hi-sIx items.size 0 lo)).toArray } })
  (hsz:items.size<=sizeLine):wpAny (model prog w) A (getItem (.ref t) (.ref sl)) Q E s:=by
 have htake:sizeOk (.seq ((items.toList.drop (sIx items.size 0 lo)).take (sIx items.size items.size hi-sIx items.size 0 lo)).toArray):=by
  show ((items.toList.drop (sIx items.size 0 lo)).take (sIx items.size items.size hi-sIx items.size 0 lo)).toArray.size<=sizeLine;rw [List.size_toArray,List.length_take,List.length_drop,Array.length_toList];lia
 have hj:sIx items.size items.size hi<=items.size:=Bm _ _ (Nat.le_refl _) hi;obtain ⟨os,hos,hcs,hds⟩:=id hs;have hTs:s.TypeIs (.ref sl) "slice":=⟨os,hos,hcs⟩;unfold getItem
 try with_reducible refine wpAny_holding ?_
 first|refine wpAny_bind (wpAny_pure ?_)|skip
 refine wpAny_bind (wpAny_sequenceKey ht.typeIs (by decide) ?_)
 refine wpAny_bind (wpAny_callSpecial?_slot (name:=Str.ofString "__getitem__") ht.typeIs PyProof.Rows.slot_tuple_getitem
  (wpAny_call_entry PyProof.Rows.slot_tuple_getitem ht.typeIs entry_tuple_getitem ?_ (args_tuple_getitem _ _)))
 show wpAny _ _ (Builtin.Tuple.tupleItemsOf (.ref t) >>= _) _ _ s;refine wpAny_bind (tupleItemsOf_ ht ?_);refine wpAny_bind (wpAny_typeOf hTs ?_);rw [if_pos (by decide)]
 refine wpAny_bind (eU hs pl pu ?_);have hno:¬((((sIx items.size 0 lo:Nat):Int)==0&&(1:Int)==1&&(sIx items.size items.size hi-sIx items.size 0 lo)==items.size)=true):=by
  intro q;rw [Bool.and_eq_true,Bool.and_eq_true] at q;have q1:((sIx items.size 0 lo:Nat):Int)=0:=eq_of_beq q.1.1;have q2:sIx items.size items.size hi-sIx items.size 0 lo=items.size:=eq_of_beq q.2;exact hw ⟨by lia,by lia⟩
 show wpAny _ _ (if (((sIx items.size 0 lo:Nat):Int)==0&&(1:Int)==1&&(sIx items.size items.size hi-sIx items.size 0 lo)==items.size)=true then _ else _) _ _ s
 rw [if_neg hno,tI]
 first
  |exact wpAny_bind (m:=Builtin.Tuple.tupleExact _) (wpAny_newObj_type (wpAny_pure ⟨_,rfl,wpAny_pure h⟩) htake)
  |exact wpAny_bind (m:=Builtin.Tuple.tupleExact _) (wpAny_newObj_type (wpAny_bind (wpAny_pure (wpAny_pure ⟨_,rfl,wpAny_pure h⟩))) htake)
  |exact wpAny_bind (wpAny_bind (m:=Builtin.Tuple.tupleExact _) (wpAny_newObj_type (wpAny_pure (wpAny_pure ⟨_,rfl,wpAny_pure h⟩)) htake))
  |exact wpAny_bind (wpAny_bind (m:=Builtin.Tuple.tupleExact _) (wpAny_newObj_type (wpAny_pure ⟨_,rfl,wpAny_pure h⟩) htake))
end
end HT
namespace L2
open PySem PySem.Spec PyProof.Rows
abbrev TO:=St->Hp->(Option Int->Hp->Prop)->Prop
def PO(X:Cx)(e:Option Expr)(t:TO):Prop:=
 ∀(pins:List (Addr×Obj)) (s:Shared) (σ:St) (H:Hp) (Q:Option Int->Hp->Prop),Inv X pins σ H s->t σ H Q->
  wpAny (model X.prog X.w) X.A (evalPart e X.env) (fun u s'=>∃o H',Inv X pins σ H' s'/\IsPart u o/\Q o H') X.xe s
def xz:TO:=fun _ H Q=>Q none H
def BN(t:TE):TO:=fun σ H Q=>t σ H fun x H1=>∃i,x=.int i/\Q (some i) H1
section
variable {X:Cx}{e:Expr}{te:TE}{lo hi:Option Expr}{tl th:TO}{pos p2:Pos}
theorem y0:PO X none xz:=by
 intro pins s σ H Q I h;rw [evalPart_none];exact wpAny_pure ⟨none,H,I,.none,h⟩
theorem xi(h:PE X e te):PO X (some e) (BN te):=by
 intro pins s σ H Q I hw;rw [evalPart_some];refine cL (h pins s σ H _ I hw) fun u s1 ⟨x,H1,I1,r1,q1⟩=>?_;obtain ⟨i,rfl,q⟩:=q1;obtain ⟨t,rfl⟩:=r1;exact ⟨some i,H1,I1,.int i t,q⟩
def CK(X:Cx)(r:V->Option Int->Option Int->Hp->VK->Prop):Prop:=
 ∀(pins:List (Addr×Obj)) (s:Shared) (σ:St) (H:Hp) (x:V) (v vl vu:Value) (lo hi:Option Int) (sl:Addr) (Q:VK),Inv X pins σ H s->RelV x v->s.heap.IsSliceOf sl vl vu .none->IsPart vl lo->IsPart vu hi->r x lo hi H Q->
  ∃T id,typeLookup (.type T) "__getitem__"=pure (some (.builtin id))/\s.TypeIs v T/\wpAny (model X.prog X.w) X.A (getItem v (.ref sl)) (EP X pins σ Q) X.xe s
def tSl(r:V->Option Int->Option Int->Hp->VK->Prop)(te:TE)(tl th:TO):TE:=fun σ H Q=>te σ H fun x H1=>tl σ H1 fun l H2=>th σ H2 fun u H3=>r x l u H3 Q
theorem uj{r:V->Option Int->Option Int->Hp->VK->Prop}(hr:CK X r)(he:PE X e te)(hl:PO X lo tl)(hu:PO X hi th):PE X (.Subscript e (.Slice lo hi none p2) pos) (tSl r te tl th):=by
 intro pins s σ H Q I h;refine Subscript_ (cL (he pins s σ H _ I h) fun v s1 ⟨x,H1,I1,r1,q1⟩=>?_);refine wpAny_Slice (cL (hl pins s1 σ H1 _ I1 q1) fun vl s2 ⟨l,H2,I2,pl,q2⟩=>cL (hu pins s2 σ H2 _ I2 q2) fun vu s3 ⟨u,H3,I3,pu,q3⟩=>?_);rw [evalPart_none];refine wpAny_pure ?_;have I4:Inv X pins σ H3 { s3 with heap:=s3.heap.push { cls:=.type "slice",data:=.fields #[vl,vu,.none] } }:=I3.kept (t':=s3.toks) fun b ob q=>Heap.get?_push_of_some _ q;obtain ⟨T,id,hT,ht,hg⟩:=hr pins { s3 with heap:=s3.heap.push { cls:=.type "slice",data:=.fields #[vl,vu,.none] } } σ H3 x v vl vu l u s3.heap.objs.size Q I4 r1 (Heap.IsSliceOf.new ..) pl pu q3;show wpAny (model X.prog X.w) X.A (subscriptTail e (.Slice lo hi none p2) v (.ref s3.heap.objs.size)) (EP X pins σ Q) X.xe { s3 with heap:=s3.heap.push { cls:=.type "slice",data:=.fields #[vl,vu,.none] } };exact tail_any (ops:=[.ref s3.heap.objs.size,v]) ht hT hg (by with_unfolding_all rfl)
def j8(xs:List V)(lo hi:Option Int):List V:=(xs.drop (HT.sIx xs.length 0 lo)).take (HT.sIx xs.length xs.length hi-HT.sIx xs.length 0 lo)
theorem iU(xs:List V)(lo hi:Option Int):(j8 xs lo hi).length<=xs.length:=by
 unfold j8;rw [List.length_take,List.length_drop];lia
def rSlT(K:W.Frag):V->Option Int->Option Int->Hp->VK->Prop:=fun x lo hi H Q=>∃a xs,x=.ref a/\iB K H a xs/\
 ¬(HT.sIx xs.length 0 lo=0/\HT.sIx xs.length xs.length hi=xs.length)/\∀p,H p=none->Q (.ref p) (upd H p (.tup (j8 xs lo hi)))
theorem zP:CK X (rSlT X.K):=by
 intro pins s σ H x v vl vu lo hi sl Q I rx hs pl pu h;obtain ⟨a,xs,rfl,hx,hw,q⟩:=h;cases rx;obtain ⟨its,r,ht,hz⟩:=I.tuple hx;have hlen:its.toArray.size=xs.length:=by rw [List.size_toArray];exact r.length.symm
 refine ⟨"tuple",_,PyProof.Rows.slot_tuple_getitem.lookup,ht.typeIs,?_⟩;refine HT.iw ht hs pl pu (by rw [hlen];exact hw) ?_ (by rw [hlen];exact hz)
 rw [hlen];refine ⟨.ref s.heap.objs.size,_,I.laid (t':=s.toks) (o:=.tup (j8 xs lo hi)) (fun b ob q=>Heap.get?_push_of_some _ q) (Nat.le_refl _) ?_,rfl,q _ (I.hok.fresh (Nat.le_refl _))⟩;exact ⟨Nat.le_trans (iU xs lo hi) hz,_,(r.drop (HT.sIx xs.length 0 lo)).take (HT.sIx xs.length xs.length hi-HT.sIx xs.length 0 lo),⟨_,Heap.get?_push_size _ rfl,⟨rfl,_,rfl⟩,rfl⟩⟩
def C6(K:W.Frag):R2:=fun x y H Q=>∃a b xs ys,x=.ref a/\y=.ref b/\iB K H a xs/\iB K H b ys/\xs≠[]/\xs.length+ys.length<=sizeLine/\
 (ys=[]->Q (.ref a) H)/\(ys≠[]->∀p,H p=none->Q (.ref p) (upd H p (.tup (xs++ys))))
theorem Vals.nil_iff{xs:List V}{us:List Value}(r:Vals xs us):us=[]↔xs=[]:=by
 cases r with
 |nil=>simp
 |cons _ _=>simp
theorem yt:eg X (binaryOp .Add) (C6 X.K):=by
 intro pins s σ H x y v u Q I rx ry h;obtain ⟨a,b,xs,ys,rfl,rfl,ha,hb,hx,hz,q1,q2⟩:=h;cases rx;cases ry;obtain ⟨its,r1,p1,_⟩:=I.tuple ha;obtain ⟨its2,r2,p2,_⟩:=I.tuple hb;refine HT.xw p1 p2 (fun z=>hx (r1.nil_iff.mp z)) (fun z=>⟨.ref a,H,I,rfl,q1 (r2.nil_iff.mp z)⟩) (fun z=>?_) (by rw [<- r1.length,<- r2.length];exact hz)
 refine ⟨.ref s.heap.objs.size,_,I.laid (t':=s.toks) (o:=.tup (xs++ys)) (fun b ob q=>Heap.get?_push_of_some _ q) (Nat.le_refl _) ?_,rfl,q2 (fun w=>z (r2.nil_iff.mpr w)) _ (I.hok.fresh (Nat.le_refl _))⟩;exact ⟨by rw [List.length_append];exact hz,_,r1.append r2,⟨_,Heap.get?_push_size _ rfl,⟨rfl,_,rfl⟩,rfl⟩⟩
end
end L2
namespace L2
open PySem PySem.Spec PyProof.Rows
def qh(n:Nat)(i:Int):Option Nat:=if 0<=i then (if i<n then some i.toNat else none) else if -(n:Int)<=i then some (i+n).toNat else none
def atI{α:Type}(xs:List α)(i:Int):Option α:=(qh xs.length i).bind fun j=>xs[j]?
theorem mq{n:Nat}{i:Int}{j:Nat}(h:qh n i=some j):seqIndex? i n=some j/\j<n/\-(n:Int)<=i/\i<n:=by
 unfold qh at h
 by_cases h0:0<=i
 ·rw [if_pos h0] at h
  by_cases h1:i<n
  ·rw [if_pos h1] at h
   have e:i.toNat=j:=Option.some.inj h;exact ⟨by rw [seqIndex_of h0 h1,e],by lia,by lia,h1⟩
  ·rw [if_neg h1] at h;cases h
 ·rw [if_neg h0] at h
  by_cases h1:-(n:Int)<=i
  ·rw [if_pos h1] at h
   have e:(i+n).toNat=j:=Option.some.inj h;exact ⟨by rw [seqIndex_neg (by lia) h1,e],by lia,h1,by lia⟩
  ·rw [if_neg h1] at h;cases h
theorem lr{α:Type}{xs:List α}{i:Int}{v:α}(h:atI xs i=some v):∃j,seqIndex? i xs.length=some j/\xs[j]?=some v/\j<xs.length/\-(xs.length:Int)<=i/\i<xs.length:=by
 unfold atI at h;cases e:qh xs.length i with
 |none=>rw [e] at h;cases h
 |some j=>
  rw [e] at h;obtain ⟨h1,h2,h3,h4⟩:=mq e;exact ⟨j,h1,h,h2,h3,h4⟩
def qW(b:Expr):Prop:=∀o i,subscripted b false o i=operate [o,i] (getItem o i)
def IxR(X:Cx)(r:R2):Prop:=
 ∀(value slice:Expr) (pins:List (Addr×Obj)) (s:Shared) (σ:St) (H:Hp) (x y:V) (v u:Value) (Q:VK),Inv X pins σ H s->RelV x v->RelV y u->r x y H Q->
  subscripted slice false v u=operate [v,u] (getItem v u)->wpAny (model X.prog X.w) X.A (subscriptTail value slice v u) (EP X pins σ Q) X.xe s
def wd(X:Cx)(id:String)(r:V->List V->Hp->VK->Prop):Prop:=
 ∀(pins:List (Addr×Obj)) (s:Shared) (σ:St) (H:Hp) (x:V) (xs:List V) (v:Value) (us:List Value) (Q:VK),Inv X pins σ H s->RelV x v->Vals xs us->r x xs H Q->
  wpAny (model X.prog X.w) X.A (call (.builtin id) (v::us)) (EP X pins σ Q) X.xe s
section
variable {X:Cx}{a b:Expr}{ta tb:TE}{pos:Pos}
theorem IxR.or{r r':R2}(h:IxR X r)(h':IxR X r'):IxR X (fun x y H Q=>r x y H Q\/r' x y H Q):=by
 intro value slice pins s σ H x y v u Q I rx ry q hs;rcases q with q|q
 ·exact h value slice pins s σ H x y v u Q I rx ry q hs
 ·exact h' value slice pins s σ H x y v u Q I rx ry q hs
theorem CB{r:R2}(hr:IxR X r)(ha:PE X a ta)(hb:PE X b tb)(hs:qW b):PE X (.Subscript a b pos) (Db r ta tb):=by
 intro pins s σ H Q I h;exact Subscript_ (Ak ha hb I h fun v u s2 x y H2 I2 rx ry q=>hr a b pins s2 σ H2 x y v u Q I2 rx ry q (hs _ _))
def C7(K:W.Frag):R2:=fun x y H Q=>∃p xs i v,x=.ref p/\y=.int i/\SqL K H p xs/\atI xs i=some v/\Q v H
def D7(K:W.Frag):R2:=fun x y H Q=>∃p xs i v,x=.ref p/\y=.int i/\iB K H p xs/\atI xs i=some v/\Q v H
def BR:R2:=fun x y H Q=>∃z i c,x=.str z/\y=.int i/\z.length<=sizeLine/\atI z.cps.toList i=some c/\Q (.str ⟨#[c]⟩) H
theorem ix_list:IxR X (C7 X.K):=by
 intro value slice pins s σ H x y v u Q I rx ry h hs;obtain ⟨p,xs,i,z,rfl,rfl,hq,he,q⟩:=h;cases rx;obtain ⟨t,rfl⟩:=ry;obtain ⟨its,r,pl,hz⟩:=I.list hq;obtain ⟨j,h1,h2,h3,h4,h5⟩:=lr he;obtain ⟨w,ew,rw'⟩:=r.get h2;have hl:=r.length;have hn:=gH;have fin:EP X pins σ Q w s:=⟨z,H,I,rw',q⟩
 by_cases h0:0<=i
 ·have hj:i.toNat=j:=by
   rw [seqIndex_of h0 h5] at h1;exact Option.some.inj h1
  exact item_listR pl.isList h0 (by lia) (by rw [hj];simpa using ew) fin hs
 ·have hj:(i+(its.toArray.size:Int)).toNat=j:=by
   rw [seqIndex_neg (by lia) h4] at h1
   rw [List.size_toArray,<- hl];exact Option.some.inj h1
  exact subscriptTail_builtinR (x:=w) pl.isList.typeIs slot_list_getitem.lookup
   (wpAny_getItem_list_neg (Q:=fun r s'=>r=w/\EP X pins σ Q r s') pl.isList (by lia) (by rw [List.size_toArray]<;>lia) (by lia) (by rw [hj];simpa using ew) ⟨rfl,fin⟩) hs
theorem ix_tup:IxR X (D7 X.K):=by
 intro value slice pins s σ H x y v u Q I rx ry h hs;obtain ⟨p,xs,i,z,rfl,rfl,hq,he,q⟩:=h;cases rx;obtain ⟨t,rfl⟩:=ry;obtain ⟨its,r,pl,hz⟩:=I.tuple hq;obtain ⟨j,h1,h2,h3,h4,h5⟩:=lr he;obtain ⟨w,ew,rw'⟩:=r.get h2;have hl:=r.length;have hn:=gH;have fin:EP X pins σ Q w s:=⟨z,H,I,rw',q⟩
 exact subscriptTail_builtinR (x:=w) pl.typeIs slot_tuple_getitem.lookup
  (getItem_tuple (j:=j) (Q:=fun r s'=>r=w/\EP X pins σ Q r s') pl (by lia) (by lia) (by rw [List.size_toArray,<- hl];exact h1) (by simpa using ew) ⟨rfl,fin⟩) hs
theorem vp:IxR X BR:=by
 intro value slice pins s σ H x y v u Q I rx ry h hs;obtain ⟨z,i,c,rfl,rfl,hz,he,q⟩:=h;obtain ⟨t,rfl⟩:=rx;obtain ⟨t',rfl⟩:=ry;obtain ⟨j,h1,h2,h3,h4,h5⟩:=lr he;have hl:z.cps.toList.length=z.length:=by simp [Str.length]
 rw [hl] at h1 h4 h5;have hn:=gH;exact tail_any (typeIs_str s z t) slot_str_getitem.lookup (getItem_str (c:=c) (by
  have e1:decide (i < -(2 ^ 63:Int))=false:=decide_eq_false (by lia)
  have e2:decide (i>=2 ^ 63)=false:=decide_eq_false (by lia)
  rw [e1,e2,Bool.or_false]) (by rw [h1];simpa using h2) ⟨.str ⟨#[c]⟩,H,I.tok _,⟨_,rfl⟩,q⟩) hs
def rIx(K:W.Frag):R2:=fun x y H Q=>C7 K x y H Q\/D7 K x y H Q\/BR x y H Q
theorem A7:IxR X (rIx X.K):=ix_list.or (ix_tup.or vp)
theorem pJ(its:List Value)(n j:Nat)(u:Value):Obj.mapSeq (·.setIfInBounds j u) { cls:=.type "list",data:=.seq its.toArray n }={ cls:=.type "list",data:=.seq (its.set j u).toArray n }:=by
 simp [Obj.mapSeq]
theorem Inv.lst{pins:List (Addr×Obj)}{σ:St}{H:Hp}{s:Shared}{p:Addr}{xs:List V}(I:Inv X pins σ H s)(h:H p=some (.lst xs)):
  ∃(its:List Value) (n:Nat),Vals xs its/\s.heap.get? p=some { cls:=.type "list",data:=.seq its.toArray n }/\xs.length<=sizeLine:=by
 obtain ⟨z,its,n,r,e⟩:=I.hok p _ h;exact ⟨its,n,r,e,z⟩
theorem Inv.lstUpd{pins:List (Addr×Obj)}{σ:St}{H:Hp}{s:Shared}{p:Addr}{xs ys:List V}{its its':List Value}{n n':Nat}{f:Obj->Obj}(I:Inv X pins σ H s)(h:H p=some (.lst xs))
  (ho:s.heap.get? p=some { cls:=.type "list",data:=.seq its.toArray n }) (hf:f { cls:=.type "list",data:=.seq its.toArray n }={ cls:=.type "list",data:=.seq its'.toArray n' }) (r:Vals ys its') (hz:ys.length<=sizeLine) (t:Nat):
  Inv X pins σ (upd H p (.lst ys)) { s with heap:=s.heap.update p f,toks:=t }:=by
 have e:(s.heap.update p f).get? p=some { cls:=.type "list",data:=.seq its'.toArray n' }:=by
  rw [Heap.get?_update_self f ho (by rw [hf]<;>rfl),hf]
 refine I.write (x:=p) (e:=p) (by rw [h];trivial) (.inl rfl) (fun b u hb q=>(Heap.get?_update_other _ _ (Ne.symm hb)).trans q) ⟨_,e⟩ ?_
 exact ⟨hz,its',n',r,e⟩
def Cf:V->V->V->Hp->(Hp->Prop)->Prop:=fun o i v H Q=>∃p xs k j,o=.ref p/\i=.int k/\H p=some (.lst xs)/\qh xs.length k=some j/\Q (upd H p (.lst (xs.set j v)))
theorem uA:AK X Cf:=by
 intro pins s σ H o i v ov iv u Q I ro ri rv h;obtain ⟨p,xs,k,j,rfl,rfl,hp,hj,q⟩:=h;cases ro;obtain ⟨t,rfl⟩:=ri;obtain ⟨its,n,r,ho,hz⟩:=I.lst hp;obtain ⟨h1,h2,h3,h4⟩:=mq hj;have hl:=r.length;have hn:=gH;have I':Inv X pins σ (upd H p (.lst (xs.set j v))) { s with heap:=s.heap.update p (Obj.mapSeq (·.setIfInBounds j u)) }:=
  I.lstUpd hp ho (pJ its n j u) (r.set rv j) (by rw [List.length_set];exact hz) s.toks
 by_cases h0:0<=k
 ·have hk:k.toNat=j:=by
   rw [seqIndex_of h0 h4] at h1;exact Option.some.inj h1
  exact W.ki_setAt ho h0 (by lia) (by rw [List.size_toArray,<- hl];exact h4) (by rw [hk];exact ⟨_,I',q⟩)
 ·have hk:(k+(its.toArray.size:Int)).toNat=j:=by
   rw [seqIndex_neg (by lia) h3] at h1
   rw [List.size_toArray,<- hl];exact Option.some.inj h1
  exact W.ki_setBack ho (by lia) (by rw [List.size_toArray,<- hl];exact h3) (by lia) (by rw [hk];exact ⟨_,I',q⟩)
theorem lO(lo hi:Option Int)(n:Nat):(sliceBounds lo hi none n).1=((HT.sIx n 0 lo:Nat):Int)/\(sliceBounds lo hi none n).2.1=((HT.sIx n n hi:Nat):Int)/\(sliceBounds lo hi none n).2.2=1:=by
 refine ⟨?_,?_,rfl⟩
 ·cases lo with
  |none=>simp [sliceBounds,HT.sIx]
  |some i=>
   simp only [sliceBounds,HT.sIx,Option.getD_none,show (1:Int)>0 by decide,if_true]
   by_cases h:i<0
   ·simp only [h,if_true]<;>lia
   ·simp only [h,if_false]<;>lia
 ·cases hi with
  |none=>simp [sliceBounds,HT.sIx]
  |some i=>
   simp only [sliceBounds,HT.sIx,Option.getD_none,show (1:Int)>0 by decide,if_true]
   by_cases h:i<0
   ·simp only [h,if_true]<;>lia
   ·simp only [h,if_false]<;>lia
theorem kA(its:List Value)(lo hi:Option Int):slicePick its.toArray lo hi none=((its.drop (HT.sIx its.length 0 lo)).take (HT.sIx its.length its.length hi-HT.sIx its.length 0 lo)).toArray:=by
 obtain ⟨h1,h2,h3⟩:=lO lo hi its.toArray.size;unfold slicePick;rw [h1,h2,h3];simp only [sliceRange_one,pick_run,List.size_toArray]<;>rfl
def rSlL(K:W.Frag):V->Option Int->Option Int->Hp->VK->Prop:=fun x lo hi H Q=>∃a xs,x=.ref a/\SqL K H a xs/\∀p,H p=none->Q (.ref p) (upd H p (.lst (j8 xs lo hi)))
theorem qZ:CK X (rSlL X.K):=by
 intro pins s σ H x v vl vu lo hi sl Q I rx hs pl pu h;obtain ⟨a,xs,rfl,hx,q⟩:=h;cases rx;obtain ⟨its,r,ht,hz⟩:=I.list hx;have hlen:=r.length;refine ⟨"list",_,slot_list_getitem.lookup,ht.isList.typeIs,?_⟩;refine wpAny_getItem_list_slice ht.isList hs pl pu .none (by simp) ?_ (by rw [List.size_toArray]<;>lia)
 rw [kA,<- hlen];refine ⟨.ref s.heap.objs.size,_,I.laid (t':=s.toks) (o:=.lst (j8 xs lo hi)) (fun b ob q=>Heap.get?_push_of_some _ q) (Nat.le_refl _) ?_,rfl,q _ (I.hok.fresh (Nat.le_refl _))⟩;exact ⟨Nat.le_trans (iU xs lo hi) hz,_,0,(r.drop (HT.sIx xs.length 0 lo)).take (HT.sIx xs.length xs.length hi-HT.sIx xs.length 0 lo),Heap.get?_push_size _ rfl⟩
def tO:V->Bool
 |.non=>true
 |.bl _=>true
 |.int _=>true
 |.str _=>true
 |_=>false
def mz:V->V->Bool
 |.non,.non=>true
 |.bl a,.bl b=>a==b
 |.bl a,.int b=>(if a then 1 else 0)==b
 |.int a,.bl b=>a==(if b then 1 else 0)
 |.int a,.int b=>a==b
 |.str a,.str b=>a==b
 |_,_=>false
theorem uG{A:Around}{s:Shared}{y x:V}{u v:Value}(ry:RelV y u)(rx:RelV x v)(fy:tO y=true)(fx:tO x=true):SeqAt.EqAt A s u v (mz y x):=by
 cases y with
 |non=>
  cases ry;cases x with
  |non=>cases rx;exact SeqAt.EqAt.same _
  |bl b=>cases rx;exact SeqAt.EqAt.none_bool b
  |int b=>obtain ⟨t,rfl⟩:=rx;exact SeqAt.EqAt.none_int b t
  |str b=>obtain ⟨t,rfl⟩:=rx;exact SeqAt.EqAt.none_str b t
  |_=>exact absurd (show false=true from fx) Bool.false_ne_true
 |bl a=>
  cases ry;cases x with
  |non=>cases rx;exact SeqAt.EqAt.bool_none a
  |bl b=>cases rx;exact SeqAt.EqAt.bool_bool a b
  |int b=>obtain ⟨t,rfl⟩:=rx;exact SeqAt.EqAt.bool_int a b t
  |str b=>obtain ⟨t,rfl⟩:=rx;exact SeqAt.EqAt.bool_str a b t
  |_=>exact absurd (show false=true from fx) Bool.false_ne_true
 |int a=>
  obtain ⟨t',rfl⟩:=ry;cases x with
  |non=>cases rx;exact SeqAt.EqAt.int_none a t'
  |bl b=>cases rx;exact SeqAt.EqAt.int_bool a t' b
  |int b=>obtain ⟨t,rfl⟩:=rx;exact SeqAt.EqAt.int_int a t' b t
  |str b=>obtain ⟨t,rfl⟩:=rx;exact SeqAt.EqAt.int_str a t' b t
  |_=>exact absurd (show false=true from fx) Bool.false_ne_true
 |str a=>
  obtain ⟨t',rfl⟩:=ry;cases x with
  |non=>cases rx;exact SeqAt.EqAt.str_none a t'
  |bl b=>cases rx;exact SeqAt.EqAt.str_bool a t' b
  |int b=>obtain ⟨t,rfl⟩:=rx;exact SeqAt.EqAt.str_int a t' b t
  |str b=>obtain ⟨t,rfl⟩:=rx;exact SeqAt.EqAt.str_str a t' b t
  |_=>exact absurd (show false=true from fx) Bool.false_ne_true
 |_=>exact absurd (show false=true from fy) Bool.false_ne_true
theorem mh:dq X (.builtin "len") (fun xs H Q=>∃p ys,xs=[.ref p]/\(SqL X.K H p ys\/iB X.K H p ys)/\Q (.int ys.length) H):=by
 intro pins s σ H xs us Q I r h;obtain ⟨p,ys,rfl,hq,q⟩:=h;obtain ⟨u,rfl,rx⟩:=iT r;cases rx;have hn:=gH;rcases hq with hq|hq
 ·obtain ⟨its,r',pl,hz⟩:=I.list hq
  have hlen:=r'.length;exact Calls.call_len_list pl.isList (by simp only [List.size_toArray]<;>lia) ⟨.int ys.length,H,I.tok _,⟨s.toks+1,by rw [List.size_toArray,hlen]⟩,q⟩
 ·obtain ⟨its,r',pl,hz⟩:=I.tuple hq
  have hlen:=r'.length;exact len_tuple pl (by simp only [List.size_toArray]<;>lia) ⟨.int ys.length,H,I.tok _,⟨s.toks+1,by rw [List.size_toArray,hlen]⟩,q⟩
theorem lB:dq X (.builtin "len") (fun xs H Q=>∃z,xs=[.str z]/\z.length<=sizeLine/\Q (.int z.length) H):=by
 intro pins s σ H xs us Q I r h;obtain ⟨z,rfl,hz,q⟩:=h;obtain ⟨u,rfl,t,rfl⟩:=iT r;have hn:=gH;exact len_str (by lia) ⟨.int z.length,H,I.tok _,⟨_,rfl⟩,q⟩
theorem lm:dq X (.type "list") (fun xs H Q=>∃p ys,xs=[.ref p]/\(SqL X.K H p ys\/iB X.K H p ys)/\∀l,H l=none->Q (.ref l) (upd H l (.lst ys))):=by
 intro pins s σ H xs us Q I r h;obtain ⟨p,ys,rfl,hq,q⟩:=h;obtain ⟨u,rfl,rx⟩:=iT r;cases rx
 have fin:∀(its:List Value),Vals ys its->ys.length<=sizeLine->∀(h':Heap) (c':Nat),(∀b o',s.heap.get? b=some o'->h'.get? b=some o')->
   h'.get? s.heap.objs.size=some { cls:=.type "list",dict:=none,data:=.seq its.toArray c',slots:=#[] }->EP X pins σ Q (.ref s.heap.objs.size) { s with heap:=h' }:=fun its r' hz h' c' kp e=>
  ⟨.ref s.heap.objs.size,_,I.laid (t':=s.toks) kp (Nat.le_refl _) (show ObjOk X.prog X.w _ h' _ (.lst ys) from ⟨hz,its,c',r',e⟩),rfl,q _ (I.hok.fresh (Nat.le_refl _))⟩
 rcases hq with hq|hq
 ·obtain ⟨its,r',pl,hz⟩:=I.list hq
  have hlen:=r'.length;obtain ⟨o,ho,hc,n,hd⟩:=pl.isList;exact call_list_seq p (.inl rfl) ho hc hd (fun h' c' kp e=>fin its r' hz h' c' kp e) (by simp only [List.size_toArray]<;>lia)
 ·obtain ⟨its,r',pl,hz⟩:=I.tuple hq
  have hlen:=r'.length;obtain ⟨o,ho,hc,n,hd⟩:=pl;exact call_list_seq p (.inr rfl) ho hc hd (fun h' c' kp e=>fin its r' hz h' c' kp e) (by simp only [List.size_toArray]<;>lia)
theorem gu:dq X (.type "tuple") (fun xs H Q=>∃p ys,xs=[.ref p]/\((SqL X.K H p ys/\∀l,H l=none->Q (.ref l) (upd H l (.tup ys)))\/(iB X.K H p ys/\Q (.ref p) H))):=by
 intro pins s σ H xs us Q I r h;obtain ⟨p,ys,rfl,h⟩:=h;obtain ⟨u,rfl,rx⟩:=iT r;cases rx;rcases h with ⟨hq,q⟩|⟨hq,q⟩
 ·obtain ⟨its,r',pl,hz⟩:=I.list hq
  have hlen:=r'.length;refine call_tuple_list pl.isList (fun h' kp=>?_) (by simp only [List.size_toArray]<;>lia)
  have I1:Inv X pins σ H { s with heap:=h' }:=I.kept (t':=s.toks) kp;have I2:Inv X pins σ (upd H h'.objs.size (.tup ys)) { s with heap:=h'.push { cls:=.type "tuple",data:=.seq its.toArray } }:=
   I1.laid (t':=s.toks) (fun b o e=>Heap.get?_push_of_some _ e) (Nat.le_refl _) (show ObjOk X.prog X.w _ _ _ (.tup ys) from ⟨hz,its,r',⟨_,Heap.get?_push_size _ rfl,⟨rfl,_,rfl⟩,rfl⟩⟩)
  exact ⟨.ref h'.objs.size,_,I2,rfl,q _ (I1.hok.fresh (Nat.le_refl _))⟩
 ·obtain ⟨its,r',pl,hz⟩:=I.tuple hq
  exact call_tuple_same pl ⟨.ref p,H,I,rfl,q⟩
def tyV(K:W.Frag)(T:String)(x:V)(H:Hp):Prop:=match x with
 |.str _=>T="str"
 |.int _=>T="int"
 |.ref p=>(T="list"/\∃xs,SqL K H p xs)\/(T="tuple"/\∃o,K.lookup p=some o/\o.cls=.type "tuple"/\o.dict=none)\/
   (T="dict"/\((∃kvs,H p=some (.dK kvs))\/∃kvs,H p=some (.dT kvs)))\/(T="set"/\∃S n,H p=some (.set S n))
 |_=>False
theorem uF{pins:List (Addr×Obj)}{σ:St}{H:Hp}{s:Shared}{T:String}{x:V}{v:Value}(I:Inv X pins σ H s)(r:RelV x v)(ty:tyV X.K T x H):
  s.TypeIs v T/\∀a,v=.ref a->∃ob,s.heap.get? a=some ob/\ob.dict=none:=by
 cases x with
 |str z=>
  obtain ⟨t,rfl⟩:=r;cases (show T="str" from ty);exact ⟨typeIs_str s z t,fun _ e=>nomatch e⟩
 |int i=>
  obtain ⟨t,rfl⟩:=r;cases (show T="int" from ty);exact ⟨typeIs_int s i t,fun _ e=>nomatch e⟩
 |ref p=>
  cases r;rcases ty with ⟨rfl,xs,hq⟩|⟨rfl,o,hk,hc,hd⟩|⟨rfl,hk⟩|⟨rfl,S,n,hk⟩
  ·obtain ⟨its,_,pl,_⟩:=I.list hq
   refine ⟨pl.isList.typeIs,fun a e=>?_⟩;cases e;obtain ⟨o,n,e,c,hd,_⟩:=pl;exact ⟨o,e,hd⟩
  ·refine ⟨⟨o,I.kIn p o hk,hc⟩,fun a e=>?_⟩
   cases e;exact ⟨o,I.kIn _ o hk,hd⟩
  ·have z:∃o,s.heap.get? p=some o/\o.ExactDict:=by
    rcases hk with ⟨kvs,hk⟩|⟨kvs,hk⟩
    ·obtain ⟨_,_,_,_,o,_,_,e,ex,_⟩:=I.hok p _ hk
     exact ⟨o,e,ex⟩
    ·obtain ⟨_,_,_,_,o,_,_,e,ex,_⟩:=I.hok p _ hk
     exact ⟨o,e,ex⟩
   obtain ⟨o,e,ex⟩:=z;refine ⟨⟨o,e,ex.1⟩,fun a e2=>?_⟩;cases e2;exact ⟨o,e,ex.2.1⟩
  ·obtain ⟨o,_,_,_,e,ex,_⟩:=I.hok p _ hk
   refine ⟨⟨o,e,ex.1⟩,fun a e2=>?_⟩;cases e2;exact ⟨o,e,ex.2.1⟩
 |_=>exact False.elim ty
def tBM0(K:W.Frag)(T:String)(r:V->List V->Hp->VK->Prop)(to:TE):TE:=fun σ H Q=>to σ H fun x H1=>tyV K T x H1/\r x [] H1 Q
def tBM(K:W.Frag)(T:String)(r:V->List V->Hp->VK->Prop)(to:TE)(t:TA):TE:=fun σ H Q=>to σ H fun x H1=>tyV K T x H1/\t σ H1 fun xs H2=>r x xs H2 Q
variable {o e:Expr}{es:List Expr}{to:TE}{t:TA}{name:Str}{apos cpos:Pos}{T id:String}{r:V->List V->Hp->VK->Prop}
theorem A1(pa:PlainAttrs T)(slot:Slot T name id)(hty:typeOf (.builtin id)=pure (.type "method_descriptor"))(hm:wd X id r)(ho:PE X o to)
  (hbase:attributeBase o name X.env (eval o X.env)=eval o X.env:=by rfl) (hline:(apos.endLine==cpos.line)=true:=by rfl):PE X (.Call (.Attribute o name apos) [] [] cpos) (tBM0 X.K T r to):=by
 intro pins s σ H Q I h;refine wpAny_Call_method0_late hbase hline (cL (ho pins s σ H _ I h) fun v s1 ⟨x,H1,I1,r1,ty,q1⟩=>?_);obtain ⟨h1,h2⟩:=uF I1 r1 ty;exact ⟨T,id,pa,slot,hty,h1,h2,Calls.callWith_builtin rfl (PySem.evalArgs_none (hm pins s1 σ H1 x [] v [] Q I1 r1 .nil q1))⟩
theorem CT(pa:PlainAttrs T)(slot:Slot T name id)(hty:typeOf (.builtin id)=pure (.type "method_descriptor"))(hm:wd X id r)(ho:PE X o to)(ha:PA X (e::es) t)
  (hbase:attributeBase o name X.env (eval o X.env)=eval o X.env:=by rfl)
  (hfew:((backTo cpos (starEach (e::es) X.env)).all (fun x=>!x.1)&&(backToKw cpos (keywordEach [] X.env)).all (fun x=>x.1.isSome)
   && decide ((e::es).length+([]:List Keyword).length+(if ([]:List Keyword).isEmpty then 0 else 1)<30))=true:=by rfl)
  (hline:(apos.endLine==cpos.line)=true:=by rfl) (hs:starEach (e::es) X.env=(false,eval e X.env)::starEach es X.env:=by rfl) (hplain:(backTo cpos (starEach es X.env)).any (·.1)=false:=by rfl):
  PE X (.Call (.Attribute o name apos) (e::es) [] cpos) (tBM X.K T r to t):=by
 intro pins s σ H Q I h;refine wpAny_Call_method_late hbase hfew hline rfl (cL (ho pins s σ H _ I h) fun v s1 ⟨x,H1,I1,r1,ty,q1⟩=>?_);obtain ⟨h1,h2⟩:=uF I1 r1 ty;refine ⟨T,id,pa,slot,hty,h1,h2,?_⟩;have hA:=ha cpos pins s1 σ H1 _ I1 q1;rw [hs] at hA ⊢;refine Calls.callWith_builtin (by show (false||(backTo cpos (starEach es X.env)).any (·.1))=false;rw [hplain]<;>rfl) (Calls.evalArgs_plain ?_)
 exact cL hA fun us s2 ⟨vs,H2,I2,r2,q2⟩=>hm pins s2 σ H2 x vs v us Q I2 r1 r2 q2
end
end L2
namespace L2
open PySem PySem.Spec PyProof.Rows
def BW(X:Cx)(id:String)(r:V->List V->Hp->VK->Prop):Prop:=
 ∀(pins:List (Addr×Obj)) (s:Shared) (σ:St) (H:Hp) (x:V) (xs:List V) (v:Value) (us:List Value) (Q:VK),Inv X pins σ H s->RelV x v->Vals xs us->r x xs H Q->
  wpAny (model X.prog X.w) X.A (call (.builtin id) (v::us)) (EP X pins σ Q) X.xe s
theorem Vals.one:∀{x:V} {us:List Value},Vals [x] us->∃u,us=[u]/\RelV x u
 |_,_,h=>by cases h with|cons r q=>cases q;exact ⟨_,rfl,r⟩
theorem Vals.two:∀{x y:V} {us:List Value},Vals [x,y] us->∃u v,us=[u,v]/\RelV x u/\RelV y v
 |_,_,_,h=>by cases h with|cons r q=>cases q with|cons q z=>cases z;exact ⟨_,_,rfl,r,q⟩
theorem Vals.zero:∀{us:List Value},Vals [] us->us=[]
 |_,.nil=>rfl
theorem Vals.dropLast{xs:List V}{us:List Value}(h:Vals xs us):Vals xs.dropLast us.dropLast:=by
 induction h with
 |nil=>exact .nil
 |cons r t ih=>
  cases t with
  |nil=>exact .nil
  |cons q t'=>exact .cons r ih
theorem Vals.eraseIdx:∀{xs:List V} {us:List Value} (i:Nat),Vals xs us->Vals (xs.eraseIdx i) (us.eraseIdx i)
 |_,_,_,.nil=>.nil
 |_,_,0,.cons _ t=>t
 |_,_,i+1,.cons r t=>.cons r (Vals.eraseIdx i t)
theorem Vals.reverse{xs:List V}{us:List Value}(h:Vals xs us):Vals xs.reverse us.reverse:=by
 induction h with
 |nil=>exact .nil
 |cons r t ih=>rw [List.reverse_cons,List.reverse_cons];exact Vals.append ih (.cons r .nil)
theorem Vals.rep{xs:List V}{us:List Value}(h:Vals xs us):∀k:Nat,Vals (List.replicate k xs).flatten (List.replicate k us).flatten
 |0=>.nil
 |k+1=>by
  rw [List.replicate_succ,List.replicate_succ,List.flatten_cons,List.flatten_cons];exact Vals.append h (Vals.rep h k)
theorem pC{α:Type}(l:List α):l.eraseIdx (l.length-1)=l.dropLast:=by
 induction l with
 |nil=>rfl
 |cons a r ih=>
  cases r with
  |nil=>rfl
  |cons b r=>
   have e:(a::b::r).length-1=((b::r).length-1)+1:=by
    have h1:(a::b::r).length=r.length+2:=rfl;have h2:(b::r).length=r.length+1:=rfl;lia
   rw [e,List.eraseIdx_cons_succ,ih]
   all_goals rfl
theorem li{α:Type}:∀(l:List α) (i:Nat),(l.eraseIdx i).length<=l.length
 |[],_=>Nat.le_refl _
 |_::_,0=>Nat.le_succ _
 |_::r,i+1=>Nat.succ_le_succ (li r i)
section
variable {X:Cx}{pins:List (Addr×Obj)}{σ:St}{H:Hp}{s:Shared}{l b:Addr}{xs ys zs:List V}
theorem Inv.lset{its its':List Value}{n:Nat}{f:Array Value->Array Value}{t':Nat}(I:Inv X pins σ H s)(hH:H l=some (.lst xs))
  (e:s.heap.get? l=some { cls:=.type "list",data:=.seq its.toArray n }) (hf:f its.toArray=its'.toArray) (hv:Vals ys its') (hz:ys.length<=sizeLine):
  Inv X pins σ (upd H l (.lst ys)) { s with heap:=s.heap.update l (Obj.mapSeq f),toks:=t' }:=by
 have q:=PySem.IsL.update e f;rw [hf] at q;refine I.write (x:=l) (e:=l) (by rw [hH];exact trivial) (.inl rfl) (fun b' u hb hu=>(Heap.get?_update_other s.heap (Obj.mapSeq f) (Ne.symm hb)).trans hu) ⟨_,q⟩ ?_
 exact ⟨hz,its',_,hv,q⟩
theorem Inv.lnew{its:List Value}{t':Nat}(I:Inv X pins σ H s)(hv:Vals ys its)(hz:ys.length<=sizeLine):
  Inv X pins σ (upd H s.heap.objs.size (.lst ys)) { s with heap:=s.heap.push { cls:=.type "list",data:=.seq its.toArray },toks:=t' }:=
 I.laid (fun _ _ q=>Heap.get?_push_of_some _ q) (Nat.le_refl _) ⟨hz,its,0,hv,Heap.get?_push_size _ rfl⟩
theorem Inv.fresh(I:Inv X pins σ H s):H s.heap.objs.size=none:=I.hok.fresh (Nat.le_refl _)
theorem Inv.lstM(I:Inv X pins σ H s)(hH:H l=some (.lst xs)):xs.length<=sizeLine/\∃(its:List Value) (n:Nat),Vals xs its/\xs.length=its.length/\s.heap.get? l=some { cls:=.type "list",data:=.seq its.toArray n }:=by
 obtain ⟨z,its,n,r,e⟩:=I.hok l _ hH;exact ⟨z,its,n,r,r.length,e⟩
theorem uE{n:Nat}(h:n<=sizeLine):Builtin.List.listTooLong n=false:=by
 unfold Builtin.List.listTooLong;exact decide_eq_false (by lia)
end
section
variable {X:Cx}
def yJ:V->List V->Hp->VK->Prop:=fun x vs H Q=>∃l xs y,x=.ref l/\vs=[y]/\H l=some (.lst xs)/\xs.length<sizeLine/\Q .non (upd H l (.lst (xs++[y])))
theorem rM:BW X "list.append" yJ:=by
 intro pins s σ H x vs v us Q I rx rv h;obtain ⟨l,xs,y,rfl,rfl,hH,hz,q⟩:=h;cases rx;obtain ⟨u,rfl,ru⟩:=rv.one;obtain ⟨z,its,n,r,hl,e⟩:=I.lstM hH;refine call_meets F.slot_list_append ⟨_,e,rfl⟩ F.entry_list_append (F.args_list_append_2 _ _) (PySem.list_append l its.toArray n u (by rw [List.size_toArray];lia)) ⟨e,?_⟩
 refine ⟨.non,_,I.lset (its':=its++[u]) hH e (by simp) (r.append (.cons ru .nil)) ?_,rfl,q⟩
 rw [List.length_append,List.length_singleton];lia
def rPop:V->List V->Hp->VK->Prop:=fun x vs H Q=>∃l xs y,x=.ref l/\vs=[]/\H l=some (.lst xs)/\xs[xs.length-1]?=some y/\Q y (upd H l (.lst xs.dropLast))
theorem B5:BW X "list.pop" rPop:=by
 intro pins s σ H x vs v us Q I rx rv h;obtain ⟨l,xs,y,rfl,rfl,hH,hy,q⟩:=h;cases rx;have hus:=rv.zero;subst hus;obtain ⟨z,its,n,r,hl,e⟩:=I.lstM hH;obtain ⟨u,hu,ru⟩:=r.get hy;have hy':its.toArray[its.toArray.size-1]?=some u:=by
  show its.toArray[its.length-1]?=some u;rw [<- Array.getElem?_toList,<- hl];exact hu
 refine call_meets F.slot_list_pop ⟨_,e,rfl⟩ F.entry_list_pop (F.args_list_pop_1 _) (MeetsSeq.list_pop_last l its.toArray n u hy' (by rw [List.size_toArray];lia)) ⟨e,?_⟩
 refine ⟨y,_,I.lset (its':=its.dropLast) hH e ?_ r.dropLast ?_,ru,q⟩
 ·show its.toArray.eraseIdxIfInBounds (its.toArray.size-1)=its.dropLast.toArray
  rw [List.size_toArray,List.eraseIdxIfInBounds_toArray,pC]
 ·rw [List.length_dropLast]
  lia
def Bi:V->List V->Hp->VK->Prop:=fun x vs H Q=>∃l xs i k y,x=.ref l/\vs=[.int i]/\H l=some (.lst xs)/\-(2 ^ 63)<=i/\i<2 ^ 63/\seqIndex? i xs.length=some k/\xs[k]?=some y/\Q y (upd H l (.lst (xs.eraseIdx k)))
theorem tS:BW X "list.pop" Bi:=by
 intro pins s σ H x vs v us Q I rx rv h;obtain ⟨l,xs,i,k,y,rfl,rfl,hH,h1,h2,hk,hy,q⟩:=h;cases rx;obtain ⟨u,rfl,ru⟩:=rv.one;obtain ⟨t,rfl⟩:=ru;obtain ⟨z,its,n,r,hl,e⟩:=I.lstM hH;obtain ⟨w,hw,rw'⟩:=r.get hy
 refine call_meets F.slot_list_pop ⟨_,e,rfl⟩ F.entry_list_pop (F.args_list_pop_2 _ _)
  (MeetsSeq.list_pop_at l its.toArray n i t k w (fitsIndex_both h1 h2) (by rw [List.size_toArray,<- hl];exact hk) (by rw [<- Array.getElem?_toList];exact hw) (by rw [List.size_toArray];lia)) ⟨e,?_⟩
 refine ⟨y,_,I.lset (its':=its.eraseIdx k) hH e ?_ (r.eraseIdx k) ?_,rw',q⟩
 ·show its.toArray.eraseIdxIfInBounds k=(its.eraseIdx k).toArray
  rw [List.eraseIdxIfInBounds_toArray]
 ·have:=li xs k
  lia
def tT:V->List V->Hp->VK->Prop:=fun x vs H Q=>∃l xs,x=.ref l/\vs=[]/\H l=some (.lst xs)/\Q .non (upd H l (.lst xs.reverse))
theorem qa:BW X "list.reverse" tT:=by
 intro pins s σ H x vs v us Q I rx rv h;obtain ⟨l,xs,rfl,rfl,hH,q⟩:=h;cases rx;have hus:=rv.zero;subst hus;obtain ⟨z,its,n,r,hl,e⟩:=I.lstM hH;refine call_meets F.slot_list_reverse ⟨_,e,rfl⟩ F.entry_list_reverse (F.args_list_reverse_1 _) (AutoSeq1.list_reverse_list_0 l its.toArray n (by rw [List.size_toArray];lia)) ⟨e,?_⟩
 refine ⟨.non,_,I.lset (its':=its.reverse) hH e (by simp) r.reverse ?_,rfl,q⟩
 rw [List.length_reverse];lia
theorem yK{α:Type}(xs:List α)(k:Nat):(List.replicate k xs).flatten.length=k*xs.length:=by
 induction k with
 |zero=>simp
 |succ k ih=>rw [List.replicate_succ,List.flatten_cons,List.length_append,ih,Nat.succ_mul,Nat.add_comm]
end
section
variable {prog:Program}{w:World}{A:Around}{E:Value->Shared->Prop}{s:Shared}
set_option maxRecDepth 100000 in
end
section
variable {X:Cx}
end
end L2
namespace L2
open PySem PySem.Spec PyProof.Rows
section
variable {κ:Type}[DecidableEq κ]
def gs(kvs:List (κ×V))(k:κ):Option V:=(kvs.find? fun kv=>decide (kv.1=k)).map (·.2)
def gm(kvs:List (κ×V))(k:κ)(v:V):List (κ×V):=
 if (kvs.any fun kv=>decide (kv.1=k))=true then kvs.map (fun kv=>if kv.1=k then (kv.1,v) else kv) else kvs++[(k,v)]
theorem ki{p:κ×V}{r:List (κ×V)}{k:κ}(e:p.1=k):gs (p::r) k=some p.2:=by simp [gs,List.find?_cons,e]
theorem jT{p:κ×V}{r:List (κ×V)}{k:κ}(e:¬p.1=k):gs (p::r) k=gs r k:=by simp [gs,List.find?_cons,e]
theorem nq(k:κ):∀kvs:List (κ×V),(kvs.any fun kv=>decide (kv.1=k))=(gs kvs k).isSome
 |[]=>rfl
 |p::r=>by
  rw [List.any_cons]
  by_cases e:p.1=k
  ·simp only [ki e,decide_eq_true e,Bool.true_or,Option.isSome_some]
  ·rw [jT e,decide_eq_false e,Bool.false_or];exact nq k r
theorem iS(kvs:List (κ×V))(k:κ)(v:V):(gm kvs k v).length<=kvs.length+1:=by
 unfold gm
 split
 ·rw [List.length_map];lia
 ·rw [List.length_append,List.length_cons,List.length_nil];lia
theorem RelO.isSome_eq{o:Option V}{u:Option Value}(r:RelO o u):o.isSome=u.isSome:=by
 cases o with
 |none=>cases u with
  |none=>rfl
  |some _=>exact (show False from r).elim
 |some _=>cases u with
  |none=>exact (show False from r).elim
  |some _=>rfl
theorem KV.val{kvs:List (κ×V)}{vs:List (κ×Value)}(r:KV kvs vs)(k:κ):RelO (gs kvs k) (valueAt vs k):=by
 unfold KV at r
 induction r with
 |nil=>exact True.intro
 |@cons p q ps qs h t ih=>
  obtain ⟨h1,h2⟩:=h
  by_cases e:p.1=k
  ·have e':q.1=k:=h1.symm.trans e
   have b:valueAt (q::qs) k=some q.2:=by simp [valueAt,List.find?_cons,e']
   rw [ki e,b];exact h2
  ·have e':¬q.1=k:=fun z=>e (h1.trans z)
   have b:valueAt (q::qs) k=valueAt qs k:=by simp [valueAt,List.find?_cons,e']
   rw [jT e,b];exact ih
theorem KV.any{kvs:List (κ×V)}{vs:List (κ×Value)}(r:KV kvs vs)(k:κ):(kvs.any fun kv=>decide (kv.1=k))=vs.any fun kv=>decide (kv.1=k):=by
 unfold KV at r
 induction r with
 |nil=>rfl
 |cons h t ih=>rw [List.any_cons,List.any_cons,ih,h.1]
theorem KV.repl{kvs:List (κ×V)}{vs:List (κ×Value)}(r:KV kvs vs)(k:κ){y:V}{u:Value}(ry:RelV y u):
  KV (kvs.map fun kv=>if kv.1=k then (kv.1,y) else kv) (vs.map fun kv=>if kv.1=k then (kv.1,u) else kv):=by
 unfold KV at r ⊢
 induction r with
 |nil=>exact .nil
 |@cons p q ps qs h t ih=>
  rw [List.map_cons,List.map_cons];refine .cons ?_ ih;obtain ⟨h1,h2⟩:=h
  by_cases e:p.1=k
  ·rw [if_pos e,if_pos (h1.symm.trans e)];exact ⟨h1,ry⟩
  ·rw [if_neg e,if_neg (fun z=>e (h1.trans z))];exact ⟨h1,h2⟩
theorem KV.put{kvs:List (κ×V)}{vs:List (κ×Value)}(r:KV kvs vs)(k:κ){y:V}{u:Value}(ry:RelV y u):KV (gm kvs k y) (stored vs k u):=by
 unfold gm stored;rw [r.any k]
 by_cases e:(vs.any fun kv=>decide (kv.1=k))=true
 ·rw [if_pos e,if_pos e];exact r.repl k ry
 ·rw [if_neg e,if_neg e];exact Paired.snoc r ⟨rfl,ry⟩
theorem KV.length{kvs:List (κ×V)}{vs:List (κ×Value)}(r:KV kvs vs):kvs.length=vs.length:=Paired.length r
end
theorem nP{P:Program}{w:World}{k:di}{u:Value}(r:RelV (kV k) u):(cu P w).is k u=true:=by
 cases k with
 |inl i=>obtain ⟨t,e⟩:=(show ∃t,u=Value.int i t from r);subst e;exact o9 P w i t
 |inr x=>obtain ⟨t,e⟩:=(show ∃t,u=Value.str x t from r);subst e;exact mJ P w x t
theorem lg{P:Program}{w:World}:∀{ks:List di} {us:List Value},Vals (ks.map kV) us->ItemsAre (cu P w) ks us
 |[],_,r=>by rw [List.map_nil] at r;cases r;exact .nil
 |k::ks,_,r=>by
  rw [List.map_cons] at r;cases r with
  |cons h t=>exact .cons (nP h) (lg t)
abbrev KT(H:Hp):List (List di×V)->List (List di×Addr×Value)->Prop:=Paired fun p q=>p.1=q.1/\H q.2.1=some (.tup (p.1.map kV))/\RelV p.2 q.2.2
theorem KT.val{H:Hp}{kvs:List (List di×V)}{xs:List (List di×Addr×Value)}(r:KT H kvs xs)(k:List di):RelO (gs kvs k) ((atKey xs k).map (·.2)):=by
 induction r with
 |nil=>exact True.intro
 |@cons p q ps qs h t ih=>
  obtain ⟨h1,_,h2⟩:=h
  by_cases e:p.1=k
  ·have e':q.1=k:=h1.symm.trans e
   have b:atKey (q::qs) k=some q.2:=by simp [atKey,List.find?_cons,e']
   rw [ki e,b];exact h2
  ·have e':¬q.1=k:=fun z=>e (h1.trans z)
   have b:atKey (q::qs) k=atKey qs k:=by simp [atKey,List.find?_cons,e']
   rw [jT e,b];exact ih
theorem KT.repl{H:Hp}{kvs:List (List di×V)}{xs:List (List di×Addr×Value)}(r:KT H kvs xs)(k:List di){y:V}{u:Value}(ry:RelV y u):
  KT H (kvs.map fun kv=>if kv.1=k then (kv.1,y) else kv) (xs.map (putAt k u)):=by
 induction r with
 |nil=>exact .nil
 |@cons p q ps qs h t ih=>
  rw [List.map_cons,List.map_cons];refine .cons ?_ ih;obtain ⟨h1,h2,h3⟩:=h;unfold putAt
  by_cases e:p.1=k
  ·rw [if_pos e,if_pos (h1.symm.trans e)];exact ⟨h1,h2,ry⟩
  ·rw [if_neg e,if_neg (fun z=>e (h1.trans z))];exact ⟨h1,h2,h3⟩
theorem KT.put{H:Hp}{kvs:List (List di×V)}{xs:List (List di×Addr×Value)}(r:KT H kvs xs)(k:List di){b:Addr}{y:V}{u:Value}(hb:H b=some (.tup (k.map kV)))(ry:RelV y u):
  KT H (gm kvs k y) (storedH xs k b u):=by
 have e:(kvs.any fun kv=>decide (kv.1=k))=(atKey xs k).isSome:=by
  rw [nq,(r.val k).isSome_eq,Option.isSome_map]
 unfold gm storedH;rw [e]
 by_cases q:(atKey xs k).isSome=true
 ·rw [if_pos q,if_pos q];exact r.repl k ry
 ·rw [if_neg q,if_neg q];exact Paired.snoc r ⟨rfl,hb,ry⟩
theorem KT.keeps{H H':Hp}{kvs:List (List di×V)}{xs:List (List di×Addr×Value)}(r:KT H kvs xs)(ht:∀b ys,H b=some (.tup ys)->H' b=some (.tup ys)):KT H' kvs xs:=
 eO r fun _ _ z=>⟨z.1,ht _ _ z.2.1,z.2.2⟩
section
variable {P:Program}{w:World}{H:Hp}{h:Heap}{a:Addr}
theorem zi{u:HO}(ok:HOk P w H h)(e:Rd H a u):ObjOk P w H h a u:=e.ok ok
theorem kJ{kvs:List (di×V)}(ok:HOk P w H h)(e:Rd H a (.dK kvs)):kvs.length<=sizeLine/\(a==sysModules)=false/\∃vs,KV kvs vs/\h.DictOf (cu P w) a vs:=
 show ObjOk P w H h a (.dK kvs) from zi ok e
theorem Cl{kvs:List (di×V)}(ok:HOk P w H h)(e:H a=some (.dK kvs)):kvs.length<=sizeLine/\(a==sysModules)=false/\∃vs,KV kvs vs/\h.DictOf (cu P w) a vs:=kJ ok (.inl e)
theorem k9{ks:List di}(ok:HOk P w H h)(e:H a=some (.tup (ks.map kV))):(tupleKind (cu P w)).is h ks a:=by
 obtain ⟨_,its,r,o,h1,⟨h2,n,h3⟩,_⟩:=(show ObjOk P w H h a (.tup (ks.map kV)) from ok a _ e);exact ⟨o,its.toArray,n,h1,h2,h3,by simpa using lg r⟩
theorem oi{kvs:List (List di×V)}(ok:HOk P w H h)(e:Rd H a (.dT kvs)):kvs.length<=sizeLine/\(a==sysModules)=false/\
  ∃xs,KT H kvs xs/\h.DictOfH (tupleKind (cu P w)) a xs:=by
 obtain ⟨z,y,xs,r,o,es,ep,h1,h2,h3,h4,h5⟩:=(show ObjOk P w H h a (.dT kvs) from zi ok e);refine ⟨z,y,xs,r,o,es,ep,h1,h2,h3,h4,fun x hx=>?_,h5⟩;have all:∀{l:List (List di×V)} {m:List (List di×Addr×Value)},KT H l m->∀x∈m,(tupleKind (cu P w)).is h x.1 x.2.1:=by
  intro l m q
  induction q with
  |nil=>intro x hx;exact nomatch hx
  |@cons p q ps qs hq t ih=>
   intro x hx;rcases List.mem_cons.mp hx with e|hx
   ·subst e
    exact k9 ok (by rw [<- hq.1];exact hq.2.1)
   ·exact ih x hx
 exact all r x hx
theorem BU{kvs:List (List di×V)}(ok:HOk P w H h)(e:H a=some (.dT kvs)):kvs.length<=sizeLine/\(a==sysModules)=false/\
  ∃xs,KT H kvs xs/\h.DictOfH (tupleKind (cu P w)) a xs:=oi ok (.inl e)
end
def DGet(H:Hp)(a:Addr)(y:V)(r:Option V):Prop:=
 (∃kvs k,Rd H a (.dK kvs)/\y=kV k/\r=gs kvs k)\/∃kvs k b,Rd H a (.dT kvs)/\y=.ref b/\H b=some (.tup (k.map kV))/\r=gs kvs k
def DPut(H:Hp)(a:Addr)(y v:V)(H':Hp):Prop:=
 (∃kvs k,H a=some (.dK kvs)/\y=kV k/\kvs.length<sizeLine/\H'=upd H a (.dK (gm kvs k v)))\/
 ∃kvs k b,H a=some (.dT kvs)/\y=.ref b/\H b=some (.tup (k.map kV))/\kvs.length<sizeLine/\H'=upd H a (.dT (gm kvs k v))
theorem DGet.k{H:Hp}{a:Addr}{kvs:List (di×V)}{k:di}(e:H a=some (.dK kvs)):DGet H a (kV k) (gs kvs k):=.inl ⟨kvs,k,.inl e,rfl,rfl⟩
theorem DGet.t{H:Hp}{a b:Addr}{kvs:List (List di×V)}{k:List di}(e:H a=some (.dT kvs))(eb:H b=some (.tup (k.map kV))):DGet H a (.ref b) (gs kvs k):=.inr ⟨kvs,k,b,.inl e,rfl,eb,rfl⟩
theorem DPut.k{H:Hp}{a:Addr}{kvs:List (di×V)}{k:di}{v:V}(e:H a=some (.dK kvs))(hl:kvs.length<sizeLine):DPut H a (kV k) v (upd H a (.dK (gm kvs k v))):=.inl ⟨kvs,k,e,rfl,hl,rfl⟩
theorem DPut.t{H:Hp}{a b:Addr}{kvs:List (List di×V)}{k:List di}{v:V}(e:H a=some (.dT kvs))(eb:H b=some (.tup (k.map kV)))(hl:kvs.length<sizeLine):
  DPut H a (.ref b) v (upd H a (.dT (gm kvs k v))):=.inr ⟨kvs,k,b,e,rfl,eb,hl,rfl⟩
section
variable {X:Cx}{pins:List (Addr×Obj)}{σ:St}{H:Hp}{s:Shared}{a:Addr}{y v:V}{u r:Value}{o:Option V}{A:Around}{E:Value->Shared->Prop}
theorem sI{Q:Value->Shared->Prop}(hu:A.units+1<cLine)(I:Inv X pins σ H s)(g:DGet H a y (some v))(ry:RelV y u)(h:∀w' s',Inv X pins σ H s'->RelV v w'->Q w' s'):
  wpAny (model X.prog X.w) A (getItem (.ref a) u) Q E s:=by
 rcases g with ⟨kvs,k,e,ey,l⟩|⟨kvs,k,b,e,ey,eb,l⟩
 ·subst ey
  obtain ⟨z,hd,vs,rel,dd⟩:=kJ I.hok e;obtain ⟨w',hw,rw'⟩:=iz (v:=v) (o:=valueAt vs k) (by rw [l];exact rel.val k)
  exact wpAny_getItem_of (nP ry) dd.mapOf hw (h w' _ (I.tok _) rw')
 ·subst ey
  cases (show u=Value.ref b from ry);obtain ⟨z,hd,xs,rel,dd⟩:=oi I.hok e;obtain ⟨w',hw,rw'⟩:=iz (v:=v) (o:=(atKey xs k).map (·.2)) (by rw [l];exact rel.val k)
  obtain ⟨p,hp,hp2⟩:=Option.map_eq_some_iff.mp hw;refine wpAny_getItem_heap (tupleKind_room_in1 hu) (k9 I.hok eb) dd hp ?_;rw [hp2];exact h w' _ (I.tok _) rw'
theorem C5{Q:Value->Shared->Prop}(hu:A.units+1<cLine)(I:Inv X pins σ H s)(g:DGet H a y o)(ry:RelV y u)(h:∀s',Inv X pins σ H s'->Q (.bool o.isSome) s'):
  wpAny (model X.prog X.w) A (compareOp .In u (.ref a)) Q E s:=by
 rcases g with ⟨kvs,k,e,ey,l⟩|⟨kvs,k,b,e,ey,eb,l⟩
 ·subst ey
  obtain ⟨z,hd,vs,rel,dd⟩:=kJ I.hok e;refine wpAny_in_of (nP ry) hd dd.mapOf ?_;rw [<- (rel.val k).isSome_eq,<- l];exact h _ (I.tok _)
 ·subst ey
  cases (show u=Value.ref b from ry);obtain ⟨z,hd,xs,rel,dd⟩:=oi I.hok e;refine wpAny_in_heap (tupleKind_room_in1 hu) (k9 I.hok eb) hd dd ?_;have q:=(rel.val k).isSome_eq;rw [Option.isSome_map] at q;rw [<- q,<- l];exact h _ (I.tok _)
theorem rC{Q:Value->Shared->Prop}(hu:A.units+1<cLine)(I:Inv X pins σ H s)(g:DGet H a y o)(ry:RelV y u)(h:∀s',Inv X pins σ H s'->Q (.bool (!o.isSome)) s'):
  wpAny (model X.prog X.w) A (compareOp .NotIn u (.ref a)) Q E s:=by
 rcases g with ⟨kvs,k,e,ey,l⟩|⟨kvs,k,b,e,ey,eb,l⟩
 ·subst ey
  obtain ⟨z,hd,vs,rel,dd⟩:=kJ I.hok e;refine wpAny_notIn_of (nP ry) hd dd.mapOf ?_;rw [<- (rel.val k).isSome_eq,<- l];exact h _ (I.tok _)
 ·subst ey
  cases (show u=Value.ref b from ry);obtain ⟨z,hd,xs,rel,dd⟩:=oi I.hok e;refine wpAny_notIn_heap (tupleKind_room_in1 hu) (k9 I.hok eb) hd dd ?_;have q:=(rel.val k).isSome_eq;rw [Option.isSome_map] at q;rw [<- q,<- l];exact h _ (I.tok _)
theorem rH{h':Heap}{t':Nat}{ob:HO}(I:Inv X pins σ H s)(mu:CG (H a))(hs:Heap.SameBut a s.heap h')(he:∃q,h'.get? a=some q)(new:ObjOk X.prog X.w (upd H a ob) h' a ob):
  Inv X pins σ (upd H a ob) { s with heap:=h',toks:=t' }:=
 I.write (x:=a) (e:=a) mu (.inl rfl) (fun b q hb z=>(hs.2 b hb).trans z) he new
theorem AR{P:Program}{w:World}{H':Hp}{h':Heap}{kvs:List (di×V)}{vs:List (di×Value)}(z:kvs.length<=sizeLine)(hd:(a==sysModules)=false)(rel:KV kvs vs)(dd:h'.DictOf (cu P w) a vs):
  ObjOk P w H' h' a (.dK kvs):=⟨z,hd,vs,rel,dd⟩
theorem kS{H':Hp}{Q:Unit->Shared->Prop}(hu:A.units+1<cLine)(I:Inv X pins σ H s)(g:DPut H a y v H')(ry:RelV y u)(rv:RelV v r)(h:∀s',Inv X pins σ H' s'->Q () s'):
  wpAny (model X.prog X.w) A (setItem (.ref a) u r) Q E s:=by
 rcases g with ⟨kvs,k,e,ey,l,eH⟩|⟨kvs,k,b,e,ey,eb,l,eH⟩
 ·subst ey eH
  obtain ⟨z,hd,vs,rel,dd⟩:=Cl I.hok e;have hz:vs.length<=sizeLine:=by rw [<- rel.length];exact z
  have hl:(gm kvs k v).length<=sizeLine:=by have:=iS kvs k v;lia
  refine wpAny_setItem_pairs (hsz:=hz) (nP ry) dd fun h' dd' hs=>h _ ?_;have he:∃q,h'.get? a=some q:=let ⟨q,_,_,hq,_⟩:=dd';⟨q,hq⟩;exact rH I (by rw [e];exact True.intro) hs he (AR hl hd (rel.put k rv) dd')
 ·subst ey eH
  cases (show u=Value.ref b from ry);obtain ⟨z,hd,xs,rel,dd⟩:=BU I.hok e;have hz:xs.length<=sizeLine:=by rw [<- Paired.length rel];exact z
  have hl:(gm kvs k v).length<=sizeLine:=by have:=iS kvs k v;lia
  refine wpAny_setItem_heap (hsz:=hz) (tupleKind_room_in1 hu) (k9 I.hok eb) dd fun h' dd' hs=>h _ ?_;obtain ⟨q,es,ep,hq,h2,h3,h4,_,h5⟩:=dd';refine rH I (by rw [e];exact True.intro) hs ⟨q,hq⟩ ⟨hl,hd,_,(rel.put k eb rv).keeps fun c ys ec=>?_,q,es,ep,hq,h2,h3,h4,h5⟩
  rw [bf (CA ec e (fun z=>nomatch z))];exact ec
end
section
variable {X:Cx}{pins:List (Addr×Obj)}{σ:St}{H:Hp}{s:Shared}{a:Addr}{kvs:List (di×V)}{k:di}{u:Value}{A:Around}{E:Value->Shared->Prop}
theorem Ce{Q:Value->Shared->Prop}(I:Inv X pins σ H s)(e:Rd H a (.dK kvs))(h:∀t s',Inv X pins σ H s'->Q (.int kvs.length t) s'):wpAny (model X.prog X.w) A (call (.builtin "len") [.ref a]) Q E s:=by
 obtain ⟨z,hd,vs,rel,dd⟩:=kJ I.hok e;refine call_len_dict hd dd (by rw [<- rel.length];rw [sizeLine_eq] at z;lia) ?_
 rw [<- rel.length];exact h _ _ (I.tok _)
end
theorem nI{X:Cx}{pins:List (Addr×Obj)}{σ:St}{H:Hp}{s:Shared}{a:Addr}{y:V}{o:Option V}(I:Inv X pins σ H s)(g:DGet H a y o):s.TypeIs (.ref a) "dict":=by
 rcases g with ⟨kvs,k,e,_,_⟩|⟨kvs,k,b,e,_,_,_⟩
 ·obtain ⟨_,_,vs,_,dd⟩:=kJ I.hok e
  exact dd.typeIs
 ·obtain ⟨_,_,xs,_,dd⟩:=oi I.hok e
  exact dd.typeIs
section
variable {X:Cx}{o i e value:Expr}{pos pos' tpos:Pos}{td ty tv:TE}
end
section
variable {X:Cx}{pos:Pos}
end
section
variable {X:Cx}{pins:List (Addr×Obj)}{σ:St}{H:Hp}{s:Shared}{a:Addr}{y d:V}{u r:Value}{o:Option V}{A:Around}{E:Value->Shared->Prop}
end
section
variable {X:Cx}{o e f:Expr}{apos cpos:Pos}{td ty tx:TE}
end
section
variable {X:Cx}{pins:List (Addr×Obj)}{σ:St}{H:Hp}{s:Shared}{a:Addr}{kvs:List (di×V)}{A:Around}{E:Value->Shared->Prop}
end
section
variable {X:Cx}{pins:List (Addr×Obj)}{σ:St}{H:Hp}{s:Shared}{a:Addr}{y:V}{u:Value}{A:Around}{E:Value->Shared->Prop}
end
end L2
namespace Att
open PySem PySem.W PySem.Calls PyProof.Rows
theorem j9{P:Params}{h:Heap}:∀(ns:List Int) (vs:List Value),WellAll P h vs (ns.map WData.int)->IntsAre vs ns:=by
 intro ns
 induction ns with
 |nil=>
  intro vs w;rw [List.map_nil] at w;cases w;exact .nil
 |cons n ns ih=>
  intro vs w;rw [List.map_cons] at w;cases w with
  |cons a b=>
   cases a;exact .cons _ _ (ih _ b)
theorem sM{l:OpenLaw}{n:Nat}(hn:l.most=some n){P:Params}{h:Heap}{args:List WData}{vals:List Value}
  (hpre:l.row.toRowW.claim.pre args=true) (hwl:WellAll P h vals args):
  ∃a vs ns,vals=[Value.ref a]/\args=[WData.list (ns.map WData.int)]/\h.get? a=some { cls:=.type "list",data:=.seq vs.toArray }/\IntsAre vs ns/\ns.length<=n:=by
 have hsh:WShape.hasAll [] args [.list .int]=true:=(pre_splitW hpre).1;have hc:l.pre.holds [] { args:=args }=true:=(pre_splitW hpre).2;obtain ⟨d,r,rfl,h1,h2⟩:=hasAllW_cons hsh;obtain rfl:=hasAllW_nil h2;obtain ⟨xs,rfl,h3⟩:=hasW_list h1;obtain ⟨ns,rfl⟩:=items_int h3;have hlen:ns.length<=n:=by
  unfold OpenLaw.pre at hc;have h4:(WTm.not (.lt (.lit (.int (n:Int))) (.len (.arg 0)))).holds [] { args:=[.list (ns.map .int)] }=true:=by
   have h4:=(holds_andW hc).1;rw [hn] at h4;exact h4
  have h5:=condW_of h4 (w_not (w_lt w_lit (w_len_list (w_arg rfl))));rw [List.length_map] at h5;refine Nat.le_of_not_lt fun q=>?_;have q':(n:Int)<((ns.length:Nat):Int):=by lia
  first
   |(rw [decide_eq_true q'] at h5;exact absurd h5 (by decide))
   |(simp at h5;lia)
 cases hwl with
 |cons w1 w2=>
  cases w2;cases w1 with
  |list ho hall=>exact ⟨_,_,ns,rfl,rfl,ho,j9 ns _ hall,hlen⟩
theorem sK(l:OpenLaw)(args:List WData):l.row.toRowW.claim.post args (.bool true) args=true:=
 postW_of (r:=l.row.toRowW) (X:=(true==true))
  (show WShape.has [] (.bool true) .bool=true by first|rfl|decide|simp [WShape.has,WShape.arms,WShape.armsAll])
  (show (WTm.eq .res (.lit (.bool true))).value [] { args:=args,res:=some (.bool true),after:=args }=some (.bool (true==true)) from w_eq_bool (w_res rfl) w_lit) rfl
theorem mY{l:OpenLaw}{n:Nat}{q:Program}{loose:List Str}{XP:(Str->Option Value)->Heap->Prop}{YP:World->Heap->Prop}{d:DefRec}
  (hn:l.most=some n) (hdf:d.params.defaults=[])
  (call:∀(w:World) (s₀ s₁:Shared) (mg mb:Str->Option Value) (fa:Addr) (o:Obj) (pm cd doc:Value) (a:Addr) (vs:List Value) (ns:List Int),
   Ground q loose [] XP w s₀ mg mb s₁.heap->YP w s₁.heap->
   s₁.heap.get? fa=some o->o.data=.func (docDef d.name d.params d.body d.scope pm cd doc)->s₁.heap.CodeRec cd d.name->mg d.name=some (.ref fa)->
   s₁.heap.get? a=some { cls:=.type "list",data:=.seq vs.toArray }->IntsAre vs ns->ns.length<=n->s₁.gens=#[]->
   codeAny (model l.prog w) callerA (.call (.ref fa) ⟨[.ref a],[]⟩) (fun r s'=>r=.ok (.ret (.bool true))/\OldK s₁.heap s'.heap/\s'.os=s₁.os/\AllBare s'.gens) s₁):
  WalkO q loose XP YP l.row.toRowW d [] (fun f vs=>PySem.call f vs):=by
 intro w s₀ s₁ mg mb G Y fa o pm cd doc dV kV ho hd hcd hD hmg hg args vals as hpre hlay hrd hwl hlo;obtain rfl:dV=.none:=Dflts.none hD hdf;obtain rfl:kV=.none:=Dflts.noKw hD;obtain ⟨a,vs,ns,rfl,rfl,hobj,hints,hlen⟩:=sM hn hpre hwl;refine enter_call (codeAny_mono (call w s₀ s₁ mg mb fa o pm cd doc a vs ns G Y ho (fd_plain hd) hcd hmg hobj hints hlen hg) fun r s' hq=>?_);obtain ⟨rfl,h2,h3,h4⟩:=hq;exact ⟨.inl ⟨.bool true,.bool true,[],rfl,fun _=>rfl,.bool true,sK l _,fun _=>⟨List.Pairwise.nil,fun _ hm=>(nomatch hm)⟩⟩,h2,h3,h4⟩
section
variable {prog:Program}{w:World}{A:Around}{E:Value->Shared->Prop}{s:Shared}{K:Frag}
end
end Att
namespace L2
open PySem PySem.Spec PyProof.Rows
theorem kU:∀{vs:List Value} {ns:List Int},IntsAre vs ns->Vals (ns.map V.int) vs
 |_,_,.nil=>.nil
 |_,_,.cons n t h=>.cons ⟨t,rfl⟩ (kU h)
def vF(H:Hp):Prop:=∀b,H b=none\/∃o xs,H b=some (.frz o (.lst xs))
theorem uL{P:Program}{w:World}{K:W.Frag}{mg mb:Str->Option Value}{CX:ku}{k:Nat}{fa a:Addr}{fd:FuncData}{x:Str}{sp:Sp}{s₁:Shared}{vs:List Value}{ns:List Int}
  (KX:K.In s₁.heap) (hns:s₁.heap.Ns mainGlobals mg) (hb:s₁.heap.Ns builtinsNs mb) (hbb:∀x:Str,x≠"__name__"->mb x=bootBuiltins x) (hlim:s₁.heap.NoLimit) (hg:s₁.gens=#[])
  (ha:s₁.heap.get? a=some { cls:=.type "list",data:=.seq vs.toArray }) (hi:IntsAre vs ns) (hl:ns.length<=sizeLine) (hr:Room k callerA)
  (F:∀base:Heap,K.In base->base.Ns mainGlobals mg->FnOk P w K mg base CX k fa fd [x] sp) (hbind:∀(s:Shared) (u:Value),BindsTo s fd ⟨[u],[]⟩ [(x,u)])
  (hsp:∀H:Hp,vF H->SqL K H a (ns.map V.int)->sp [.ref a] H (fun v _=>v=.bl true) fun _ _ _=>False)
  (hCX:∀H e s',CX [] H s₁ (fun _ _ _=>False) e s'->False):
  codeAny (model P w) callerA (.call (.ref fa) ⟨[.ref a],[]⟩) (fun r s'=>r=.ok (.ret (.bool true))/\OldK s₁.heap s'.heap/\s'.os=s₁.os/\AllBare s'.gens) s₁:=by
 have rv:=kU hi;have lenV:=hi.length
 -- from an abstract heap in which nothing but the script may be tracked
 have core:∀H:Hp,vF H->SqL K H a (ns.map V.int)->HOk P w H s₁.heap->(∀b,H b≠none->b=a)->(H a≠none->K.lookup a=none)->
   codeAny (model P w) callerA (.call (.ref fa) ⟨[.ref a],[]⟩) (fun r s'=>r=.ok (.ret (.bool true))/\OldK s₁.heap s'.heap/\s'.os=s₁.os/\AllBare s'.gens) s₁:=by
  intro H hO hS hok hA hK;have base_of:∀{b:Addr} {o:Obj},s₁.heap.get? b=some o->H b=none->(me s₁.heap H).get? b=some o:=fun e n=>vP e n;have noA:∀{b:Addr} {o:Obj} {es:Array DictEntry} {ep:Nat},s₁.heap.get? b=some o->o.data=.dict es ep->H b=none:=fun {b o es ep} e d=>by
   cases q:H b with
   |none=>rfl
   |some u=>
    have e':b=a:=hA b (by rw [q];simp)
    subst e';rw [ha] at e;cases e;have d':Data.seq vs.toArray _=Data.dict es ep:=d;cases d'
  have nsK:∀{b:Addr} {m:Str->Option Value},s₁.heap.Ns b m->(me s₁.heap H).Ns b m:=fun {b m} ⟨o,es,ep,e,d,r⟩=>⟨o,es,ep,base_of e (noA e d),d,r⟩;have hKb:K.In (me s₁.heap H):=fun b o e=>base_of (KX b o e) (by
   cases q:H b with
   |none=>rfl
   |some u=>
    have e':b=a:=hA b (by rw [q];simp)
    subst e';rw [hK (by rw [q];simp)] at e;cases e)
  have hM:Mod K mg (me s₁.heap H):=⟨hKb,nsK hns,⟨mb,nsK hb,hbb⟩,let ⟨mc,h1,h2⟩:=hlim;⟨mc,nsK h1,h2⟩⟩;have e0:Env0 P w K mg (me s₁.heap H) callerA [] s₁ H:=⟨rfl,hM,fun b o e=>wV e,Nat.le_of_eq (rZ _ _),trivial,fun b hb=>absurd (show b∈([]:List Addr) from hb) (by simp),hok,.of_eq hg⟩
  refine codeAny_mono ((F _ hKb (nsK hns)).run callerA [] s₁ H ⟨[.ref a],[]⟩ [.ref a] [.ref a] _ _ hr e0 (hbind s₁ (.ref a)) (.cons rfl .nil) (hsp H hO hS)) fun r s' h=>?_;cases r with
  |error e=>exact (hCX H e s' h).elim
  |ok fl=>
   cases fl with
   |next=>exact False.elim h
   |brk=>exact False.elim h
   |cont=>exact False.elim h
   |ret u=>
    obtain ⟨v,H',os,bare,un,hok',r',q⟩:=h;have q':v=.bl true:=q;subst q';obtain rfl:u=Value.bool true:=r';refine ⟨rfl,OldK.of_keep fun b o e=>?_,os,bare⟩;cases q:H b with
    |none=>exact un.keep b o e q (by intro z;exact absurd (show b∈([]:List Addr) from z) (by simp)) (by simp)
    |some u=>
     rcases hO b with z|⟨ob,xs,z⟩
     ·rw [q] at z;cases z
     ·have z2:=un.frzs b ob _ z
      obtain ⟨e1,_⟩:=hok b _ z;obtain ⟨e2,_⟩:=hok' b _ z2;rw [e] at e1;cases e1;exact e2
 cases hk:K.lookup a with
 |some o=>
  -- the script is one of the module's own objects
  have e:=KX a o hk;rw [ha] at e;cases e;refine core (fun _=>none) (fun _=>.inl rfl) (.inr ⟨_,vs.toArray,_,hk,rfl,rfl,rfl,by rw [List.size_toArray,lenV];exact hl,by simpa using rv⟩) (fun b u z=>by have z':(none:Option HO)=some u:=z;cases z') (fun b z=>absurd rfl z) fun z=>absurd rfl z
 |none=>
  refine core (fun b=>if b=a then some (.frz { cls:=.type "list",data:=.seq vs.toArray } (.lst (ns.map V.int))) else none) (fun b=>?_) (.inl (.inr ⟨{ cls:=.type "list",data:=.seq vs.toArray },if_pos rfl⟩)) (fun b u z=>?_) (fun b z=>?_) fun _=>hk
  ·by_cases hb:b=a
   ·exact .inr ⟨_,_,if_pos hb⟩
   ·exact .inl (if_neg hb)
  ·by_cases hb:b=a
   ·have z':=(if_pos hb).symm.trans z
    cases z';subst hb;exact ⟨ha,by rw [List.length_map];exact hl,vs,_,rv,ha⟩
   ·have z':=(if_neg hb).symm.trans z
    cases z'
  ·by_cases hb:b=a
   ·exact hb
   ·exact absurd (if_neg hb) z
end L2
namespace L2
open PySem PySem.Spec PyProof.Rows
theorem xa{l:W.OpenLaw}{n k:Nat}{q:Program}{loose:List Str}{XP:(Str->Option Value)->Heap->Prop}{YP:World->Heap->Prop}{d:DefRec}{K:Params->W.Frag}{CX:World->ku}{sp:World->Sp}{x:Str}
  (hn:l.most=some n) (hn2:n<=sizeLine) (hdf:d.params.defaults=[]) (hr:Room k callerA)
  (hY:∀(w:World) (h:Heap),YP w h->(K w.params).In h)
  (F:∀(w:World) (mg:Str->Option Value) (fa:Addr) (h:Heap),(K w.params).In h->h.Ns mainGlobals mg->mg d.name=some (.ref fa)->
   ∃fd:FuncData,(∀(s:Shared) (u:Value),BindsTo s fd ⟨[u],[]⟩ [(x,u)])/\
    ∀base:Heap,(K w.params).In base->base.Ns mainGlobals mg->FnOk l.prog w (K w.params) mg base (CX w) k fa fd [x] (sp w))
  (hsp:∀(w:World) (H:Hp) (a:Addr) (ns:List Int),ns.length<=n->vF H->SqL (K w.params) H a (ns.map V.int)->sp w [.ref a] H (fun v _=>v=.bl true) fun _ _ _=>False)
  (hCX:∀(w:World) (H:Hp) (s:Shared) (e:Value) (s':Shared),CX w [] H s (fun _ _ _=>False) e s'->False):
  W.WalkO q loose XP YP l.row.toRowW d [] (fun f vs=>PySem.call f vs):=by
 refine Att.mY hn hdf fun w s₀ s₁ mg mb fa o pm cd doc a vs ns G Y ho hd hcd hmg hobj hints hlen hg=>?_;have KX:=hY w _ Y;obtain ⟨fd,hb,hF⟩:=F w mg fa _ KX G.T.g hmg;exact uL KX G.T.g G.T.b G.T.builtins G.T.nolimit hg hobj hints (Nat.le_trans hlen hn2) hr hF hb (fun H hO hS=>hsp w H a ns hlen hO hS) fun H e s'=>hCX w H s₁ e s'
end L2
namespace L2
open PySem PySem.Spec PyProof.Rows
def g8(s:Stmt):Arguments:=match s with
 |.FunctionDef _ a _ _ _ _ _ _ _ _=>a
 |_=>{ posonlyargs:=[],args:=[],vararg:=none,kwonlyargs:=[],kw_defaults:=[],kwarg:=none,defaults:=[] }
def eJ(s:Stmt):List Stmt:=match s with
 |.FunctionDef _ _ b _ _ _ _ _ _ _=>b
 |_=>[]
def aV(s:Stmt):Scope:=match s with
 |.FunctionDef _ _ _ _ _ _ sc _ _ _=>sc
 |_=>{ kind:=.function,names:=[],isGenerator:=false,isCoroutine:=false }
abbrev CX0:ku:=fun _ _ _ _ _ _=>False
abbrev E0:XK:=fun _ _ _=>False
structure Fun(K:W.Frag)(x qual:Str)(st:Stmt)(f:Addr)(fd:FuncData):Prop where
 ex:∃(oc:Value) (od:Option Addr) (kV doc pm:Value) (an:Option Addr) (cdv ct:Value) (osl:Array (Option Value)),
  fd=W.fnOf x qual (g8 st) (eJ st) (aV st) .none kV doc pm an cdv ct/\K.lookup f=some ⟨oc,od,.func fd,osl⟩/\W.codeIn K cdv qual=true
 kp:W.keepIn K (.ref f)=true
section
variable {P:Program}{w:World}{K:W.Frag}{mg:Str->Option Value}{base:Heap}
theorem Fun.binds{x qual:Str}{st:Stmt}{f:Addr}{fd:FuncData}{ps:List Str}(F:Fun K x qual st f fd)
  (h:∀(kV doc pm:Value) (an:Option Addr) (cdv ct:Value) (us:List Value),us.length=ps.length->bindArgs (W.fnOf x qual (g8 st) (eJ st) (aV st) .none kV doc pm an cdv ct) ⟨us,[]⟩=pure (ps.zip us)):Binds K fd ps []:=by
 obtain ⟨oc,od,kV,doc,pm,an,cdv,ct,osl,rfl,lk,hcd⟩:=F.ex;exact .all (h kV doc pm an cdv ct)
theorem tJ{x qual:Str}{st:Stmt}{f:Addr}{oc:Value}{od an:Option Addr}{osl:Array (Option Value)}{kV doc pm cdv ct:Value}(l:K.lookup f=some ⟨oc,od,.func (W.fnOf x qual (g8 st) (eJ st) (aV st) .none kV doc pm an cdv ct),osl⟩)
  (c:W.codeIn K cdv qual=true) (k:W.keepIn K (.ref f)=true):Fun K x qual st f (W.fnOf x qual (g8 st) (eJ st) (aV st) .none kV doc pm an cdv ct):=⟨⟨oc,od,kV,doc,pm,an,cdv,ct,osl,rfl,l,c⟩,k⟩
end
theorem cC{A:Around}{k:Nat}(hr:Room k A):A.units+1<cLine:=Nat.lt_of_le_of_lt (Nat.add_le_add_left (by decide:1<=64) _) hr.units
section
variable {X:Cx}
theorem rV:dq X (.builtin "len") (fun xs H Q=>∃a kvs,xs=[V.ref a]/\H a=some (.dK kvs)/\Q (.int kvs.length) H):=by
 intro pins s σ H xs us Q I r h;obtain ⟨a,kvs,rfl,ha,q⟩:=h;obtain ⟨u,rfl,ru⟩:=iT r;cases ru;exact Ce I (.inl ha) fun t s' I'=>⟨.int kvs.length,H,I',⟨t,rfl⟩,q⟩
end
section
variable {κ:Type}[DecidableEq κ]
end
end L2
namespace L2
open PySem PySem.Spec PyProof.Rows
section
variable {prog:Program}{w:World}{A:Around}{R:Result->Shared->Prop}{s:Shared}
theorem lV{elt target iter:Expr}{ifs:List Expr}{scope:Scope}{pos:Pos}{it acc:Value}{env:Env}(I:Nat->Shared->Prop)
  (turn:∀n s,I n s->wpAny (model prog w) A (pyNext it) (fun r s₁=>match r with
   |none=>R (.ok .next) s₁
   |some v=>wpAny (model prog w) A (letOwnedTupleGo target it v) (fun _ s₂=>wpAny (model prog w) A (assign target env v) (fun _ s₃=>
     wpAny (model prog w) A (forIn ifs true fun c r=>if r=true then do let ok <- isTrue c env (eval c env);pure (ForInStep.yield ok) else pure (ForInStep.yield r)) (fun ok s₄=>
      if ok=true then wpAny (model prog w) A (eval elt env) (fun x s₅=>
       wpAny (model prog w) A (call (.builtin "list.append") [acc,x]) (fun _ s₆=>∃m,m<n/\I m s₆) (fun _ _=>False) s₅) (fun _ _=>False) s₄
      else ∃m,m<n/\I m s₄) (fun _ _=>False) s₃) (fun _ _=>False) s₂) (fun _ _=>False) s₁) (fun _ _=>False) s)
  (n:Nat) (h:I n s):
  codeAny (model prog w) A (.compLoop (.ListComp elt [⟨target,iter,ifs,0⟩] scope pos) 0 it acc env) R s:=by
 refine codeAny_loop rfl I (fun n s hI=>?_) n h;show wpAny _ A ((compTurn (.ListComp elt [⟨target,iter,ifs,0⟩] scope pos) 0 it acc env).onRaise (fun x=>do noteFrame x env;theTreesLotGoes x)) _ _ s
 refine wpAny_noted ?_;rw [compTurn_list];refine wpAny_bind (wpAny_standAt (wpAny_bind (wpAny_mono (turn n s hI) (fun r s₁ h₁=>?_) fun _ _ z=>z.elim)));cases r with
 |none=>exact wpAny_pure h₁
 |some v=>
  refine wpAny_bind (wpAny_mono h₁ (fun _ s₂ h₂=>wpAny_bind (wpAny_mono h₂ (fun _ s₃ h₃=>wpAny_bind (wpAny_mono h₃ (fun ok s₄ h₄=>?_) fun _ _ z=>z.elim)) fun _ _ z=>z.elim)) fun _ _ z=>z.elim);cases ok with
  |false=>exact wpAny_pure ⟨rfl,h₄⟩
  |true=>
   exact wpAny_bind (wpAny_bind (wpAny_mono h₄ (fun x s₅ h₅=>wpAny_bind (wpAny_mono h₅ (fun _ s₆ h₆=>wpAny_pure (wpAny_pure ⟨rfl,h₆⟩)) fun _ _ z=>z.elim)) fun _ _ z=>z.elim))
end
def cV(X:Cx)(N:List Str)(scope:Scope)(cl:List (Str×Addr))(C:Addr)(s₀:Shared)(H₀:Hp)(fp:List Addr)(pl:List (Addr×Obj)):Cx where
 prog:=X.prog
 w:=X.w
 K:=X.K
 mg:=X.mg
 base:=X.base
 A:=X.A
 N:=N
 s₀:=s₀
 H₀:=H₀
 env:=compEnvC scope cl C X.env
 outer:=X.stack
 stack:=X.stack
 ex:=fp
 fn:=fun _=>false
 calm:=X.calm
 pn:=X.pn++pl
 xe:=fun _ _=>False
inductive Frees(X:Cx)(scope:Scope):List Str->List Nat->Prop where
 |nil:Frees X scope [] []
 |cons {x:Str} {j:Nat} {xs:List Str} {js:List Nat}:X.N[j]?=some x->(X.env.kindOf x=some .cell\/X.env.kindOf x=some .free)->
   ((relabel scope X.env).names.lookup x=some .cell\/(relabel scope X.env).names.lookup x=some .free)->Frees X scope xs js->Frees X scope (x::xs) (j::js)
theorem Frees.length{X:Cx}{scope:Scope}:∀{xs:List Str} {js:List Nat},Frees X scope xs js->xs.length=js.length
 |_,_,.nil=>rfl
 |_,_,.cons _ _ _ t=>congrArg (·+1) t.length
theorem Frees.get{X:Cx}{scope:Scope}:∀{xs:List Str} {js:List Nat},Frees X scope xs js->∀{i:Nat} {x:Str},xs[i]?=some x->∃j,js[i]?=some j/\X.N[j]?=some x/\(X.env.kindOf x=some .cell\/X.env.kindOf x=some .free)/\
   ((relabel scope X.env).names.lookup x=some .cell\/(relabel scope X.env).names.lookup x=some .free)
 |_,_,.nil,i,x,h=>by simp at h
 |_,_,.cons a b c _,0,x,h=>by simp at h;subst h;exact ⟨_,rfl,a,b,c⟩
 |_,_,.cons _ _ _ t,i+1,x,h=>by
  obtain ⟨j,h1,h2⟩:=t.get (i:=i) (x:=x) (by simpa using h)
  exact ⟨j,by simpa using h1,h2⟩
def dU(ls:List Str)(js:List Nat)(σ:St):St:=ls.map (fun _=>none)++js.map fun j=>(σ[j]?).join
structure CompOk(X:Cx)(scope:Scope)(cl:List (Str×Addr))(ls fs:List Str)(js:List Nat):Prop where
 kind:scope.kind=.function
 nocell:∀y∈scope.names,y.2≠.cell
 locs:∀x∈scope.names,x.2=.local->scope.names.lookup x.1=some .local
 clos:closureFor scope X.env=pure cl
 cells:∀x c,cl.lookup x=some c->X.env.cells.lookup x=some c
 has:∀x,((relabel scope X.env).names.lookup x=some .cell\/(relabel scope X.env).names.lookup x=some .free)->∃c,cl.lookup x=some c
 frees:Frees X scope fs js
theorem vD{X:Cx}{pins:List (Addr×Obj)}{σ:St}{H:Hp}{s:Shared}{scope:Scope}{cl:List (Str×Addr)}{ls fs:List Str}{js:List Nat}{fp:List Addr}{h₁:Heap}{m:Str->Option Value}{t':Nat}
  (I:Inv X pins σ H s) (co:CompOk X scope cl ls fs js) (hfp:∀b∈fp,iO X pins H b/\b<s.heap.objs.size) (hns:h₁.Ns s.heap.objs.size m) (hk:∀b o,s.heap.get? b=some o->h₁.get? b=some o):
  Inv (cV X (ls++fs) scope cl s.heap.objs.size s H fp pins) [] (dU ls js σ) H { s with heap:=h₁,toks:=t' }:=by
 have lk:∀b o,s.heap.get? b=some o->b≠s.heap.objs.size:=fun b o e=>Nat.ne_of_lt (Heap.lt_size e);refine ⟨⟨I.ok.mod,co.kind,I.ok.glob,I.ok.blt,Nat.le_refl _,fun x y c h1 h2=>?_,fun x hx=>co.has x hx,fun x c h _=>absurd (show false=true from h) Bool.false_ne_true,I.ok.hd,I.ok.frames,.inl rfl,fun b hb=>⟨Nat.ne_of_lt (hfp b hb).2,fun x c e=>?_⟩,
   fun b o e=>I.bs b o e,Nat.le_trans I.ok.bsz I.sz,fun b o e hb=>?_,fun b hb hf=>?_,I.stack,fun b hb=>I.stkFree b hb⟩,
  rfl,I.bare,Un.kept hk,⟨m,hns,fun i x v h1 h2 h3=>?_⟩,fun x c e=>?_,I.hok.fresh (Nat.le_refl _),fun x c e=>I.freeC x c (co.cells x c e),fun p hp=>?_,I.hok.kept hk,?_⟩
 ·exact I.ok.inj x y c (co.cells x c h1) (co.cells y c h2)
 ·exact (hfp b hb).1.2.2.2.2.1 x c (co.cells x c e)
 ·obtain ⟨f0,f1,f2,f3,_⟩:=(hfp b hb).1
  rcases f3 with z|z
  ·exact I.ok.noex b o e z
  ·exact absurd (Nat.lt_of_lt_of_le (Heap.lt_size (I.ok.bs b o e).1) z) (Nat.lt_irrefl _)
 ·obtain ⟨f0,f1,f2,f3,_⟩:=(hfp b hb).1
  rcases List.mem_cons.mp (I.stkSub b hf) with z|z
  ·exact f1 z
  ·exact f2 z
 ·have hi:¬i<ls.length:=fun hi=>by
   have h2':(dU ls js σ)[i]?=some (some v):=h2;unfold dU at h2';rw [List.getElem?_append_left (by simpa using hi),List.getElem?_map,List.getElem?_eq_getElem hi] at h2'
   cases h2'
  have hN:fs[i-ls.length]?=some x:=by
   have h1':(ls++fs)[i]?=some x:=h1
   rwa [List.getElem?_append_right (by lia)] at h1'
  obtain ⟨j,hj,hx,hc,hl⟩:=co.frees.get hN;have hσ:σ[j]?=some (some v):=by
   have h2':(dU ls js σ)[i]?=some (some v):=h2;unfold dU at h2';rw [List.getElem?_append_right (by simpa using hi),List.length_map,List.getElem?_map,hj] at h2'
   have q:(σ[j]?).join=some v:=by simpa using h2'
   cases e:σ[j]? with
   |none=>rw [e] at q;cases q
   |some o=>rw [e] at q;have q':o=some v:=q;rw [q']
  obtain ⟨mX,_,hlX⟩:=I.loc;have vis:Cj X.env.scope x:=by
   rcases hc with z|z
   ·exact .inr (.inl z)
   ·exact .inr (.inr z)
  obtain ⟨u,ru,lo⟩:=hlX j x v hx hσ vis;refine ⟨u,ru,.inr ⟨hl,?_⟩⟩;obtain ⟨c,ec⟩:=co.has x hl;refine ⟨c,ec,?_⟩;rcases lo with ⟨kl,_⟩|⟨_,c',e',z⟩
  ·rcases hc with q|q<;>(rw [q] at kl;cases kl)
  ·rw [co.cells x c ec] at e'
   cases e';obtain ⟨o,ho,hd⟩:=z;exact ⟨o,hk _ _ ho,hd⟩
 ·obtain ⟨v,o,ho,hd⟩:=I.cell x c (co.cells x c e)
  exact ⟨v,o,hk _ _ ho,hd⟩
 ·have hp':p∈X.pn++pins:=by
   have q:p∈(X.pn++pins)++[]:=hp;simpa using q
  obtain ⟨e,n,ne,nf,d⟩:=I.pin p hp';refine ⟨hk _ _ e,n,lk _ _ e,fun hb=>?_,d⟩;rcases List.mem_cons.mp (I.stkSub p.1 hb) with z|z
  ·exact ne z
  ·exact nf z
 ·show (dU ls js σ).length=(ls++fs).length
  unfold dU;rw [List.length_append,List.length_map,List.length_map,List.length_append,co.frees.length]
def BH(X:Cx)(ifs:List Expr)(t:TT):Prop:=
 ∀(pins:List (Addr×Obj)) (s:Shared) (σ:St) (H:Hp) (Q:Bool->Hp->Prop),Inv X pins σ H s->t σ H Q->
  wpAny (model X.prog X.w) X.A (forIn ifs true fun c r=>if r=true then do let ok <- isTrue c X.env (eval c X.env);pure (ForInStep.yield ok) else pure (ForInStep.yield r)) (TP X pins σ Q) X.xe s
def tAll:TT:=fun _ H Q=>Q true H
theorem wj{X:Cx}:BH X [] tAll:=fun _ _ _ H _ I h=>wpAny_tests_nil ⟨H,I,h⟩
theorem yF{X:Cx}{c:Expr}{t:TT}(h:PT X c t):BH X [c] t:=fun pins s σ H Q I q=>wpAny_tests_one (h pins s σ H Q I q)
def zt(wi:TI)(ls:List Str)(js:List Nat)(g:TG)(tt:TT)(te:TE):TE:=fun σ H Q=>wi σ H fun J H1=>∀p,H1 p=none->∃W:Nat->Nat->St->Hp->Prop,(∃m,W 0 m (dU ls js σ) (upd H1 p (.lst [])))/\∀i m σ' H',W i m σ' H'->
 (J.stop i H'/\Q (.ref p) H')\/(J.go i H'/\∃N:St->Hp->Prop,(∀σ2 H2,N σ2 H2->∃m',m'<m/\W (i+1) m' σ2 H2)/\∀x H2,J.yld i H' x H2->g x σ' H2 fun σ3 H3=>tt σ3 H3 fun c H4=>
  if c=true then te σ3 H4 fun y H5=>∃ys,H5 p=some (.lst ys)/\ys.length<sizeLine/\N σ3 (upd H5 p (.lst (ys++[y]))) else N σ3 H4)
section
variable {X:Cx}{tg iter elt:Expr}{ifs:List Expr}{scope:Scope}{cl:List (Str×Addr)}{pos:Pos}{ls fs:List Str}{js:List Nat}{wi:TI}{g:TG}{tt:TT}{te:TE}
theorem vE{pins:List (Addr×Obj)}{σ:St}{s2:Shared}{it:Addr}{fp:List Addr}{tn:Nat->Heap->Prop}{J:It}{H1:Hp}{R:Value->Addr->Result->Shared->Prop}{Q:VK}{E:Value->Shared->Prop}(hc:X.calm=true)(co:CompOk X scope cl ls fs js)
  (hY:∀(C:Addr) (s₀:Shared) (H₀:Hp) (fp:List Addr) (pl:List (Addr×Obj)),PG (cV X (ls++fs) scope cl C s₀ H₀ fp pl) tg g/\BH (cV X (ls++fs) scope cl C s₀ H₀ fp pl) ifs tt/\PE (cV X (ls++fs) scope cl C s₀ H₀ fp pl) elt te)
  (I:Inv X pins σ H1 s2) (T:Turn X.prog X.w X.K tg J fp it tn) (st:tn 0 s2.heap) (hf:∀b∈fp,iO X pins H1 b)
  (q:∀p,H1 p=none->∃W:Nat->Nat->St->Hp->Prop,(∃m,W 0 m (dU ls js σ) (upd H1 p (.lst [])))/\∀i m σ' H',W i m σ' H'->
   (J.stop i H'/\Q (.ref p) H')\/(J.go i H'/\∃N:St->Hp->Prop,(∀σ2 H2,N σ2 H2->∃m',m'<m/\W (i+1) m' σ2 H2)/\∀x H2,J.yld i H' x H2->g x σ' H2 fun σ3 H3=>tt σ3 H3 fun c H4=>
    if c=true then te σ3 H4 fun y H5=>∃ys,H5 p=some (.lst ys)/\ys.length<sizeLine/\N σ3 (upd H5 p (.lst (ys++[y]))) else N σ3 H4))
  (hR:∀(p C:Addr) (H':Hp) (s':Shared) (m:Str->Option Value),s'.heap.Ns C m->Inv X pins σ H' s'->H' C=none->C≠X.env.locals->X.s₀.heap.objs.size<=C->(∀x c,X.env.cells.lookup x=some c->c≠C)->(∀pp∈X.pn++pins,pp.1≠C)->Q (.ref p) H'->R (.ref p) C (.ok .next) s'):
  wpAny (model X.prog X.w) X.A (newList []) (fun acc s₃=>wpAny (model X.prog X.w) X.A (newFunctionEnv scope X.env.globals cl [] X.env.qual none .none (some X.env)) (fun cenv s₄=>
   codeAny (model X.prog X.w) X.A (.compStart (.ListComp elt [⟨tg,iter,ifs,0⟩] scope pos) 0 (.ref it) acc { cenv with scope:=relabel scope X.env }) (R acc cenv.locals) s₄) E s₃) E s2:=by
 have hp0:H1 s2.heap.objs.size=none:=I.hok.fresh (Nat.le_refl _);obtain ⟨W,⟨m0,w0⟩,turn⟩:=q s2.heap.objs.size hp0;refine wpAny_newObj_type (wpAny_newFunctionEnv co.nocell (by intro y hy;simp at hy) (fun h₁ hns₁ hsb₁=>?_) co.kind)
 dsimp only at hns₁ hsb₁ ⊢;have I3:Inv X pins σ (upd H1 s2.heap.objs.size (.lst [])) { s2 with heap:=s2.heap.push { cls:=.type "list",dict:=none,data:=.seq ([]:List Value).toArray } }:=
  I.lnew (its:=[]) (t':=s2.toks) .nil (Nat.zero_le _)
 generalize hs3:({ s2 with heap:=s2.heap.push { cls:=.type "list",dict:=none,data:=.seq ([]:List Value).toArray } }:Shared)=s3 at I3;have hh3:s2.heap.push { cls:=.type "list",dict:=none,data:=.seq ([]:List Value).toArray }=s3.heap:=by rw [<- hs3]
 rw [hh3] at hns₁ hsb₁ ⊢;have hsz3:s3.heap.objs.size=s2.heap.objs.size+1:=by rw [<- hh3,Heap.size_push]
 have hk3:∀b o,s2.heap.get? b=some o->s3.heap.get? b=some o:=fun b o e=>by rw [<- hh3];exact Heap.get?_push_of_some _ e
 have hlt:∀b∈fp,b<s2.heap.objs.size:=fun b hb=>by
  obtain ⟨o,e,_⟩:=T.obj _ _ st b hb;exact Heap.lt_size e
 have hnp:∀b∈fp,upd H1 s2.heap.objs.size (.lst []) b=none:=fun b hb=>by
  rw [bf (Nat.ne_of_lt (hlt b hb))];exact (hf b hb).1
 have hf3:∀b∈fp,iO X pins (upd H1 s2.heap.objs.size (.lst [])) b/\b<s3.heap.objs.size:=fun b hb=>⟨⟨hnp b hb,(hf b hb).2⟩,by rw [hsz3];exact Nat.lt_succ_of_lt (hlt b hb)⟩
 have hk4:∀b o,s3.heap.get? b=some o->h₁.get? b=some o:=fun b o e=>hsb₁.extBut b o (Nat.ne_of_lt (Heap.lt_size e)) (Heap.get?_push_of_some _ e);have st4:tn 0 h₁:=T.keep _ _ _ st fun b hb o e=>hk4 b o (hk3 b o e);have I4:=vD (t':=s3.toks) I3 co hf3 hns₁ hk4;obtain ⟨hg,ht,he⟩:=hY s3.heap.objs.size s3 (upd H1 s2.heap.objs.size (.lst [])) fp pins;have stat:∀{H':Hp},(∀b∈fp,H' b=none)->∀b∈fp,iO (cV X (ls++fs) scope cl s3.heap.objs.size s3 (upd H1 s2.heap.objs.size (.lst [])) fp pins) [] H' b:=fun {H'} hn b hb=>by
  obtain ⟨f0,f1,f2,f3,f4,f5⟩:=hf b hb;refine ⟨hn b hb,Nat.ne_of_lt (hf3 b hb).2,fun z=>?_,.inl hb,fun x c e=>f4 x c (co.cells x c e),fun pp hp=>f5 pp ?_⟩
  ·rcases List.mem_cons.mp (I3.stkSub b z) with y|y
   ·exact f1 y
   ·exact f2 y
  ·have q:pp∈(X.pn++pins)++[]:=hp
   simpa using q
 have loop:∀s₄:Shared,s₄={ s3 with heap:=h₁,toks:=s3.toks }->
   codeAny (model X.prog X.w) X.A (.compLoop (.ListComp elt [⟨tg,iter,ifs,0⟩] scope pos) 0 (.ref it) (.ref s2.heap.objs.size) (compEnvC scope cl s3.heap.objs.size X.env)) (R (.ref s2.heap.objs.size) s3.heap.objs.size) s₄:=by
  rintro s₄ rfl
  refine lV (fun n s'=>∃i σ' H',Inv (cV X (ls++fs) scope cl s3.heap.objs.size s3 (upd H1 s2.heap.objs.size (.lst [])) fp pins) [] σ' H' s'/\tn i s'.heap/\(∀b∈fp,H' b=none)/\W i n σ' H') ?_ m0 ⟨0,_,_,I4,st4,hnp,w0⟩
  rintro n s5 ⟨i,σ5,H5,I5,st5,fr5,w5⟩
  rcases turn i n σ5 H5 w5 with ⟨stop,qn⟩|⟨go,N,hN,step⟩
  ·refine cL (T.done (cV X (ls++fs) scope cl s3.heap.objs.size s3 (upd H1 s2.heap.objs.size (.lst [])) fp pins) rfl rfl rfl hc i [] s5 σ5 H5 _ I5 (stat fr5) st5 stop) fun r s6 ⟨hr,I6⟩=>?_
   subst hr;obtain ⟨m6,hn6,_⟩:=I6.loc;have IX:Inv X pins σ H5 s6:=I3.call' I6.os I6.base I6.hok I6.bare fun b hb=>⟨(hf b hb).2.2.2.1,(hf b hb).2.1,(hf b hb).2.2.2.2.1,(hf b hb).2.2.2.2.2⟩;refine hR _ _ H5 s6 m6 hn6 IX I6.free (Nat.ne_of_gt I3.lt) I3.sz (fun x c e z=>?_) (fun pp hp z=>?_) qn
   ·obtain ⟨v,zz⟩:=I3.cell x c e
    have zl:=zz.lt;rw [z] at zl;exact Nat.lt_irrefl _ zl
   ·have zl:=Heap.lt_size (I3.pin pp hp).1
    rw [z] at zl;exact Nat.lt_irrefl _ zl
  ·refine cL (T.item (cV X (ls++fs) scope cl s3.heap.objs.size s3 (upd H1 s2.heap.objs.size (.lst [])) fp pins) rfl rfl rfl hc i [] s5 σ5 H5 _ I5 (stat fr5) st5 go) fun r s6 ⟨u,hr,h6⟩=>?_
   subst hr;refine cL h6 fun _ s7 ⟨x,H7,I7,r7,y7,st7,fr7⟩=>?_;have I7':=I7.pinned (stat fr7) (T.obj _ _ st7);refine cL (hg _ s7 σ5 H7 x u _ I7' r7 (step x H7 y7)) fun _ s8 ⟨σ8,H8,I8,q8⟩=>?_
   have again:∀{σ9:St} {H9:Hp} {s9:Shared},Inv (cV X (ls++fs) scope cl s3.heap.objs.size s3 (upd H1 s2.heap.objs.size (.lst [])) fp pins) ([]++jZ fp s7.heap) σ9 H9 s9->N σ9 H9->
     ∃m,m<n/\∃i σ' H',Inv (cV X (ls++fs) scope cl s3.heap.objs.size s3 (upd H1 s2.heap.objs.size (.lst [])) fp pins) [] σ' H' s9/\tn i s9.heap/\(∀b∈fp,H' b=none)/\W i m σ' H':=fun {σ9 H9 s9} I9 n9=>by
    obtain ⟨m',hm,w9⟩:=hN σ9 H9 n9;refine ⟨m',hm,i+1,σ9,H9,I9.unpinned,T.keep _ _ _ st7 fun b hb o e=>(I9.pin (b,o) (List.mem_append_right _ (List.mem_append_right _ (fj hb e)))).1,fun b hb=>?_,w9⟩;obtain ⟨o,e,d⟩:=T.obj _ _ st7 b hb;exact (I9.pin (b,o) (List.mem_append_right _ (List.mem_append_right _ (fj hb e)))).2.1
   refine cL (ht _ s8 σ8 H8 _ I8 q8) fun ok s9 ⟨H9,I9,q9⟩=>?_;cases ok with
   |false=>exact again I9 q9
   |true=>
    refine cL (he _ s9 σ8 H9 _ I9 q9) fun xv s10 ⟨y,H10,I10,r10,ys,hp,hl,n10⟩=>?_;obtain ⟨z,its,n',r,hl',e⟩:=I10.lstM hp;refine call_meets F.slot_list_append ⟨_,e,rfl⟩ F.entry_list_append (F.args_list_append_2 _ _) (PySem.list_append s2.heap.objs.size its.toArray n' xv (by rw [List.size_toArray];lia)) ⟨e,?_⟩
    refine again (I10.lset (its':=its++[xv]) hp e (by simp) (r.append (.cons r10 .nil)) ?_) n10
    rw [List.length_append,List.length_singleton];lia
 have se:({ s2 with heap:=h₁,toks:=s2.toks+([]:List (Str×Value)).length }:Shared)={ s3 with heap:=h₁,toks:=s3.toks }:=by rw [<- hs3];rfl
 exact codeAny_compStart_list (loop _ se) (T.self _ 0 _ _ _ st4 (loop _ se))
theorem xW(hc:X.calm=true)(co:CompOk X scope cl ls fs js)(hi:PI X tg iter wi)
  (hY:∀(C:Addr) (s₀:Shared) (H₀:Hp) (fp:List Addr) (pl:List (Addr×Obj)),PG (cV X (ls++fs) scope cl C s₀ H₀ fp pl) tg g/\BH (cV X (ls++fs) scope cl C s₀ H₀ fp pl) ifs tt/\PE (cV X (ls++fs) scope cl C s₀ H₀ fp pl) elt te)
  (hs:∀x,foldedSetIterable iter X.env x=pure x:=by intro _;rfl):PE X (.ListComp elt [⟨tg,iter,ifs,0⟩] scope pos) (zt wi ls js g tt te):=by
 intro pins s σ H Q I h;rw [eval_ListComp];refine wpAny_comprehension_free (use:=none) rfl hs co.clos co.kind co.locs (cL (hi pins s σ H _ I h) fun xv s1 h1=>cL h1 fun itv s2 h2=>?_);obtain ⟨it,fp,tn,J,H2,e,I2,T,st2,f2,q⟩:=h2;subst e;refine vE (R:=fun acc C=>compPost (model X.prog X.w) X.A X.xe none (EP X pins σ Q) acc C) (Q:=Q) hc co hY I2 T st2 f2 q ?_;intro p C H' s' m hn IX hC hL hge hcell hpin hq;exact ⟨m,hn,fun h' sb=>⟨.ref p,H',IX.turned (t':=s'.toks) (fun b o hb e=>sb.extBut b o hb e) hC hL (.inr hge) hcell hpin,rfl,hq⟩⟩
end
end L2
namespace L2
open PySem PySem.Spec PyProof.Rows
def SrcTn(b:Bool)(it a:Addr)(i:Nat)(h:Heap):Prop:=if b=true then h.IsListIter it a i else h.IsTupleIter it a i
def SrcSq(b:Bool)(h:Heap)(a:Addr)(items:Array Value):Prop:=if b=true then h.IsList a items else h.IsTuple a items
theorem SrcTn.lt{b:Bool}{it a:Addr}{i:Nat}{h:Heap}(x:SrcTn b it a i h):∃o,h.get? it=some o/\∀v,o.data≠.cell v:=by
 cases b with
 |true=>obtain ⟨o,e,c,d⟩:=(show h.IsListIter it a i from x);exact ⟨o,e,fun v z=>by rw [d] at z;cases z⟩
 |false=>obtain ⟨o,e,c,d⟩:=(show h.IsTupleIter it a i from x);exact ⟨o,e,fun v z=>by rw [d] at z;cases z⟩
theorem SrcTn.keep{b:Bool}{it a:Addr}{i:Nat}{h h':Heap}(x:SrcTn b it a i h)(k:∀o,h.get? it=some o->h'.get? it=some o):SrcTn b it a i h':=by
 cases b with
 |true=>obtain ⟨o,e,r⟩:=(show h.IsListIter it a i from x);exact (show h'.IsListIter it a i from ⟨o,k o e,r⟩)
 |false=>obtain ⟨o,e,r⟩:=(show h.IsTupleIter it a i from x);exact (show h'.IsTupleIter it a i from ⟨o,k o e,r⟩)
theorem SrcSq.keep{b:Bool}{a:Addr}{items:Array Value}{h h':Heap}(x:SrcSq b h a items)(k:∀o,h.get? a=some o->h'.get? a=some o):SrcSq b h' a items:=by
 cases b with
 |true=>obtain ⟨o,e,r⟩:=(show h.IsList a items from x);exact (show h'.IsList a items from ⟨o,k o e,r⟩)
 |false=>obtain ⟨o,e,r⟩:=(show h.IsTuple a items from x);exact (show h'.IsTuple a items from ⟨o,k o e,r⟩)
section
variable {prog:Program}{w:World}{A:Around}{E:Value->Shared->Prop}{s:Shared}
theorem ig{it l:Addr}{i:Nat}{items:Array Value}{x:Value}{Q:Value->Shared->Prop}(hit:s.heap.IsTupleIter it l i)(hl:s.heap.IsTuple l items)(hx:items[i]?=some x)
  (hQ:∀h',h'.IsTupleIter it l (i+1)->Heap.SameBut it s.heap h'->Q x { s with heap:=h' }):wpAny (model prog w) A (Builtin.SmallTypes.nextOf (.ref it)) Q E s:=by
 obtain ⟨o,ho,hc,hd⟩:=id hit;obtain ⟨ol,hol,_,nl,hdl⟩:=hl;unfold Builtin.SmallTypes.nextOf
 refine wpAny_bind (wpAny_callSpecial?_slot (name:=Str.ofString "__next__") hit.typeIs F.slot_tuple_iterator_next
  (wpAny_call_entry F.slot_tuple_iterator_next hit.typeIs F.entry_tuple_iterator_next ?_ (F.args_tuple_iterator_next_1 _)))
 show wpAny _ _ (field (.ref it) 0 >>= _) _ _ s;refine wpAny_bind (wpAny_field ho hd (x:=.ref l) rfl ?_);show wpAny _ _ (if (Value.ref l==Value.none)=true then _ else _) _ _ s
 rw [if_neg (show ¬((Value.ref l==Value.none)=true) from Bool.false_ne_true)];show wpAny _ _ (field (.ref it) 1 >>= _) _ _ s;refine wpAny_bind (wpAny_field ho hd (x:=.int i 0) rfl ?_);show wpAny _ _ (seqItems? (.ref l) >>= _) _ _ s;refine wpAny_bind (wpAny_seqItems hol hdl ?_);simp only [Int.toNat_natCast,hx];refine wpAny_bind (wpAny_setField ho hd (by simp) (wpAny_pure ⟨x,rfl,wpAny_pure (hQ _ ?_ (Heap.SameBut.update ..))⟩))
 exact ⟨_,Heap.get?_update_self _ ho (Obj.isFreed_of_fields (Obj.data_mapFields hd _)),(Obj.cls_mapFields ..).trans hc,by
  rw [Obj.data_mapFields hd];simp [rawInt]⟩
theorem iE{it l:Addr}{i:Nat}{items:Array Value}{Q:Value->Shared->Prop}(hh:A.handled=none)(hit:s.heap.IsTupleIter it l i)(hl:s.heap.IsTuple l items)(hx:items[i]?=none)
  (hE:∀h' e,Heap.ExtBut it s.heap h'->(∃o,h'.get? e=some o/\o.cls=.type "StopIteration")->E (.ref e) { s with heap:=h' }):wpAny (model prog w) A (Builtin.SmallTypes.nextOf (.ref it)) Q E s:=by
 obtain ⟨o,ho,hc,hd⟩:=id hit;obtain ⟨ol,hol,_,nl,hdl⟩:=hl;unfold Builtin.SmallTypes.nextOf
 refine wpAny_bind (wpAny_callSpecial?_slot (name:=Str.ofString "__next__") hit.typeIs F.slot_tuple_iterator_next
  (wpAny_call_entry F.slot_tuple_iterator_next hit.typeIs F.entry_tuple_iterator_next ?_ (F.args_tuple_iterator_next_1 _)))
 show wpAny _ _ (field (.ref it) 0 >>= _) _ _ s;refine wpAny_bind (wpAny_field ho hd (x:=.ref l) rfl ?_);show wpAny _ _ (if (Value.ref l==Value.none)=true then _ else _) _ _ s
 rw [if_neg (show ¬((Value.ref l==Value.none)=true) from Bool.false_ne_true)];show wpAny _ _ (field (.ref it) 1 >>= _) _ _ s;refine wpAny_bind (wpAny_field ho hd (x:=.int i 0) rfl ?_);show wpAny _ _ (seqItems? (.ref l) >>= _) _ _ s;refine wpAny_bind (wpAny_seqItems hol hdl ?_);simp only [Int.toNat_natCast,hx];refine wpAny_bind (wpAny_rule (wpAny_bind (wpAny_setField ho hd (by simp) ?_)))
 show wpAny _ _ (newExc (.type "StopIteration") [] >>= _) _ _ _;refine wpAny_bind ?_;simp only [newExc,newTuple];refine wpAny_bind (wpAny_newObj_type ?_ (by size_fits))
 refine wpAny_bind (m:=firstArgMember _ _) (wpAny_of_eq (a:=Value.none) (by first|rfl|(simp only [firstArgMember];rfl)) ?_)
 refine wpAny_newObj_type ?_ (by size_fits)
 simp only [raiseNew];refine wpAny_bind (wpAny_handled ?_)
 first|rw [show A.in1.handled=none from hh]|rw [hh]
 refine wpAny_bind (wpAny_pure (wpAny_throw ?_));exact hE _ _ (((Heap.SameBut.update ..).extBut.push _).push _) ⟨_,Heap.get?_push_size _ rfl,rfl⟩
theorem bK{b:Bool}{it l:Addr}{i:Nat}{items:Array Value}{x:Value}{Q:Value->Shared->Prop}(hit:SrcTn b it l i s.heap)(hl:SrcSq b s.heap l items)(hx:items[i]?=some x)
  (hQ:∀h',SrcTn b it l (i+1) h'->Heap.SameBut it s.heap h'->Q x { s with heap:=h' }):wpAny (model prog w) A (Builtin.SmallTypes.nextOf (.ref it)) Q E s:=by
 cases b with
 |true=>exact wpAny_nextOf_list_item hit hl hx hQ
 |false=>exact ig hit hl hx hQ
theorem bY{b:Bool}{it l:Addr}{i:Nat}{items:Array Value}{Q:Value->Shared->Prop}(hh:A.handled=none)(hit:SrcTn b it l i s.heap)(hl:SrcSq b s.heap l items)(hx:items[i]?=none)
  (hE:∀h' e,Heap.ExtBut it s.heap h'->(∃o,h'.get? e=some o/\o.cls=.type "StopIteration")->E (.ref e) { s with heap:=h' }):wpAny (model prog w) A (Builtin.SmallTypes.nextOf (.ref it)) Q E s:=by
 cases b with
 |true=>exact wpAny_nextOf_list_end hh hit hl hx hE
 |false=>exact iE hh hit hl hx hE
def b0(b:Bool):String:=if b=true then "list_iterator" else "tuple_iterator"
theorem cJ{b:Bool}{l:Addr}{items:Array Value}{Q:Value->Shared->Prop}(hl:SrcSq b s.heap l items)
  (hQ:Q (.ref s.heap.objs.size) { s with heap:=s.heap.push { cls:=.type (b0 b),data:=.fields #[.ref l,.int 0 0] } }):wpAny (model prog w) A (pyIter (.ref l)) Q E s:=by
 cases b with
 |true=>exact wpAny_pyIter_list hl hQ
 |false=>exact wpAny_pyIter_tuple hl hQ
theorem g0{b:Bool}{h:Heap}{it l:Addr}(e:h.get? it=some { cls:=.type (b0 b),data:=.fields #[.ref l,.int 0 0] }):SrcTn b it l 0 h:=by
 cases b with
 |true=>exact (show h.IsListIter it l 0 from ⟨_,e,rfl,rfl⟩)
 |false=>exact (show h.IsTupleIter it l 0 from ⟨_,e,rfl,rfl⟩)
structure ZApart(z TI TO i1 i2:Addr):Prop where
 TIz:TI≠z
 TOz:TO≠z
 i1z:i1≠z
 i2z:i2≠z
 TITO:TI≠TO
 TIi1:TI≠i1
 TIi2:TI≠i2
 TOi1:TO≠i1
 TOi2:TO≠i2
 i12:i1≠i2
def sW(z TO i1 i2 l:Addr):Prop:=l≠z/\l≠TO/\l≠i1/\l≠i2
theorem u0{b1 b2:Bool}{z TI TO i1 i2 l1 l2:Addr}{k1 k2:Nat}{xs ys:Array Value}{x y a b:Value}{Q:Value->Shared->Prop}(D:ZApart z TI TO i1 i2)(O1:sW z TO i1 i2 l1)(O2:sW z TO i1 i2 l2)
  (hz:IsZip s.heap z TI TO .none) (hTI:IsPair s.heap TI (.ref i1) (.ref i2)) (hTO:IsPair s.heap TO a b)
  (h1:SrcTn b1 i1 l1 k1 s.heap) (h2:SrcTn b2 i2 l2 k2 s.heap) (hl1:SrcSq b1 s.heap l1 xs) (hl2:SrcSq b2 s.heap l2 ys) (hx:xs[k1]?=some x) (hy:ys[k2]?=some y)
  (hQ:∀h',IsZip h' z TI TO (rawInt s.heap.objs.size)->IsPair h' TO x y->SrcTn b1 i1 l1 (k1+1) h'->SrcTn b2 i2 l2 (k2+1) h'->IsPair h' s.heap.objs.size x y->h'.objs.size=s.heap.objs.size+1->
   (∀c o,c≠z->c≠TO->c≠i1->c≠i2->s.heap.get? c=some o->h'.get? c=some o)->Q (.ref s.heap.objs.size) { s with heap:=h' }):
  wpAny (model prog w) A (Builtin.«zip.__next__» ⟨[.ref z],[]⟩) (fun fin s'=>∃v,fin=.done (.ret v)/\Q v s') E s:=by
 show wpAny _ _ (field (.ref z) 2 >>= _) _ _ _;refine wpAny_bind (wpAny_field hz rfl (x:=.bool false) rfl ?_);show wpAny _ _ (field (.ref z) 3 >>= _) _ _ _;refine wpAny_bind (wpAny_field hz rfl (x:=.ref TI) rfl ?_);refine wpAny_bind (wpAny_seqItems hTI rfl ?_);show wpAny _ _ (Builtin.SmallTypes.ownedTupleIsFree (.ref z) >>= _) _ _ _;refine wpAny_bind ?_;unfold Builtin.SmallTypes.ownedTupleIsFree;refine wpAny_bind (wpAny_field hz rfl (x:=.none) rfl (wpAny_pure ?_));simp only [if_true];refine wpAny_bind (wpAny_rule ?_);refine wpAny_bind (wpAny_field hz rfl (x:=.ref TO) rfl ?_);refine wpAny_bind (wpAny_setField_rec hz (by simp) fun h₁ hz₁ hs₁=>?_)
 replace hz₁:IsZip h₁ z TI TO .ellipsis:=hz₁
 refine wpAny_bind ?_;simp only [List.zipIdx_cons,List.zipIdx_nil,List.forIn_cons,List.forIn_nil];refine wpAny_bind (wpAny_bind (wpAny_onRaise ?_));show wpAny _ _ (Builtin.SmallTypes.nextOf (.ref i1) >>= _) _ _ _;refine wpAny_bind (bK (h1.keep fun o e=>hs₁.extBut _ o D.i1z e) (hl1.keep fun o e=>hs₁.extBut _ o O1.1 e) hx fun h₂ h1₂ hs₂=>wpAny_pure ?_);have hTO₂:IsPair h₂ TO a b:=hs₂.extBut _ _ D.TOi1 (hs₁.extBut _ _ D.TOz hTO);refine wpAny_bind (wpAny_seqItems hTO₂ rfl ?_);refine wpAny_bind (wpAny_updateSeq_pair hTO₂ fun h₃ hTO₃ hs₃=>?_)
 replace hTO₃:IsPair h₃ TO x b:=hTO₃
 refine wpAny_bind (wpAny_letGo (wpAny_pure ?_));refine wpAny_bind (wpAny_bind (wpAny_onRaise ?_));show wpAny _ _ (Builtin.SmallTypes.nextOf (.ref i2) >>= _) _ _ _
 refine wpAny_bind (bK (h2.keep fun o e=>hs₃.extBut _ o D.TOi2.symm (hs₂.extBut _ o D.i12.symm (hs₁.extBut _ o D.i2z e)))
  (hl2.keep fun o e=>hs₃.extBut _ o O2.2.1 (hs₂.extBut _ o O2.2.2.1 (hs₁.extBut _ o O2.1 e))) hy fun h₄ h2₄ hs₄=>wpAny_pure ?_)
 have hTO₄:IsPair h₄ TO x b:=hs₄.extBut _ _ D.TOi2 hTO₃;refine wpAny_bind (wpAny_seqItems hTO₄ rfl ?_);refine wpAny_bind (wpAny_updateSeq_pair hTO₄ fun h₅ hTO₅ hs₅=>?_)
 replace hTO₅:IsPair h₅ TO x y:=hTO₅
 refine wpAny_bind (wpAny_letGo (wpAny_pure (wpAny_pure ?_)));refine wpAny_bind (wpAny_seqItems hTO₅ rfl ?_);refine wpAny_bind (wpAny_newTuple ?_);have hsz:h₅.objs.size=s.heap.objs.size:=by rw [hs₅.1,hs₄.1,hs₃.1,hs₂.1,hs₁.1]
 have hz₅:IsZip h₅ z TI TO .ellipsis:=hs₅.extBut _ _ D.TOz.symm (hs₄.extBut _ _ D.i2z.symm (hs₃.extBut _ _ D.TOz.symm (hs₂.extBut _ _ D.i1z.symm hz₁)));have hk₅:∀c o,c≠z->c≠TO->c≠i1->c≠i2->s.heap.get? c=some o->h₅.get? c=some o:=fun c o c1 c2 c3 c4 e=>
  hs₅.extBut _ _ c2 (hs₄.extBut _ _ c4 (hs₃.extBut _ _ c2 (hs₂.extBut _ _ c3 (hs₁.extBut _ _ c1 e))))
 have h1₅:SrcTn b1 i1 l1 (k1+1) h₅:=h1₂.keep fun o e=>hs₅.extBut _ o D.TOi1.symm (hs₄.extBut _ o D.i12 (hs₃.extBut _ o D.TOi1.symm e));have h2₅:SrcTn b2 i2 l2 (k2+1) h₅:=h2₄.keep fun o e=>hs₅.extBut _ o D.TOi2.symm e;have hzlt:z<h₅.objs.size:=Heap.lt_size hz₅;show wpAny _ _ (Builtin.SmallTypes.ownedTupleHandOut (.ref z) (.ref h₅.objs.size) >>= _) _ _ _;refine wpAny_bind ?_;unfold Builtin.SmallTypes.ownedTupleHandOut;have hz₆:IsZip (h₅.push { cls:=.type "tuple",data:=.seq #[x,y] }) z TI TO .ellipsis:=Heap.get?_push_of_some _ hz₅;refine wpAny_bind (wpAny_setField_rec hz₆ (by simp) fun h₇ hz₇ hs₇=>?_)
 replace hz₇:IsZip h₇ z TI TO (rawInt h₅.objs.size):=hz₇
 refine wpAny_setField_rec hz₇ (by simp) fun h₈ hz₈ hs₈=>?_
 replace hz₈:IsZip h₈ z TI TO (rawInt h₅.objs.size):=hz₈
 have up:∀c o,c≠z->h₅.get? c=some o->h₈.get? c=some o:=fun c o c1 e=>hs₈.extBut _ _ c1 (hs₇.extBut _ _ c1 (Heap.get?_push_of_some _ e));have hT₈:IsPair h₈ h₅.objs.size x y:=hs₈.extBut _ _ (Nat.ne_of_gt hzlt) (hs₇.extBut _ _ (Nat.ne_of_gt hzlt) (Heap.get?_push_size _ rfl));have hz8:h₈.objs.size=h₅.objs.size+1:=by rw [hs₈.1,hs₇.1,Heap.size_push]
 rw [hsz] at hz₈ hT₈ hz8;refine wpAny_pure ⟨_,rfl,?_⟩;show Q (.ref h₅.objs.size) _;rw [hsz];exact hQ h₈ hz₈ (up _ _ D.TOz hTO₅) (h1₅.keep fun o e=>up _ o D.i1z e) (h2₅.keep fun o e=>up _ o D.i2z e) hT₈ hz8 fun c o c1 c2 c3 c4 e=>up c o c1 (hk₅ c o c1 c2 c3 c4 e)
theorem wY{b1 b2:Bool}{z TI TO i1 i2 l1 l2:Addr}{k1 k2:Nat}{xs ys:Array Value}{a b:Value}{Q:Fin->Shared->Prop}(hh:A.handled=none)(D:ZApart z TI TO i1 i2)(O1:sW z TO i1 i2 l1)(O2:sW z TO i1 i2 l2)
  (hz:IsZip s.heap z TI TO .none) (hTI:IsPair s.heap TI (.ref i1) (.ref i2)) (hTO:IsPair s.heap TO a b)
  (h1:SrcTn b1 i1 l1 k1 s.heap) (h2:SrcTn b2 i2 l2 k2 s.heap) (hl1:SrcSq b1 s.heap l1 xs) (hl2:SrcSq b2 s.heap l2 ys) (hend:xs[k1]?=none\/ys[k2]?=none)
  (hE:∀h' e,(∀c o,c≠z->c≠TO->c≠i1->c≠i2->s.heap.get? c=some o->h'.get? c=some o)->(∃o,h'.get? e=some o/\o.cls=.type "StopIteration")->E (.ref e) { s with heap:=h' }):
  wpAny (model prog w) A (Builtin.«zip.__next__» ⟨[.ref z],[]⟩) Q E s:=by
 show wpAny _ _ (field (.ref z) 2 >>= _) _ _ _;refine wpAny_bind (wpAny_field hz rfl (x:=.bool false) rfl ?_);show wpAny _ _ (field (.ref z) 3 >>= _) _ _ _;refine wpAny_bind (wpAny_field hz rfl (x:=.ref TI) rfl ?_);refine wpAny_bind (wpAny_seqItems hTI rfl ?_);show wpAny _ _ (Builtin.SmallTypes.ownedTupleIsFree (.ref z) >>= _) _ _ _;refine wpAny_bind ?_;unfold Builtin.SmallTypes.ownedTupleIsFree;refine wpAny_bind (wpAny_field hz rfl (x:=.none) rfl (wpAny_pure ?_));simp only [if_true];refine wpAny_bind (wpAny_rule ?_);refine wpAny_bind (wpAny_field hz rfl (x:=.ref TO) rfl ?_);refine wpAny_bind (wpAny_setField_rec hz (by simp) fun h₁ hz₁ hs₁=>?_)
 replace hz₁:IsZip h₁ z TI TO .ellipsis:=hz₁
 refine wpAny_bind ?_;simp only [List.zipIdx_cons,List.zipIdx_nil,List.forIn_cons,List.forIn_nil];refine wpAny_bind (wpAny_bind (wpAny_onRaise ?_));show wpAny _ _ (Builtin.SmallTypes.nextOf (.ref i1) >>= _) _ _ _;cases hx:xs[k1]? with
 |none=>
  refine wpAny_bind (bY hh (h1.keep fun o e=>hs₁.extBut _ o D.i1z e) (hl1.keep fun o e=>hs₁.extBut _ o O1.1 e) hx fun h₂ e hs₂ he=>?_);obtain ⟨oe,hoe,hce⟩:=he;have hz₂:IsZip h₂ z TI TO .ellipsis:=hs₂ _ _ D.i1z.symm hz₁;have hez:e≠z:=fun x=>by subst x;rw [hz₂] at hoe;cases hoe;simp at hce
  refine wpAny_setField_rec hz₂ (by simp) fun h₃ _ hs₃=>hE h₃ e (fun c o c1 _ c3 _ x=>hs₃.extBut _ _ c1 (hs₂ _ _ c3 (hs₁.extBut _ _ c1 x))) ⟨oe,hs₃.extBut _ _ hez hoe,hce⟩
 |some x=>
  have hy:ys[k2]?=none:=by rcases hend with h|h;rw [hx] at h;cases h;exact h
  refine wpAny_bind (bK (h1.keep fun o e=>hs₁.extBut _ o D.i1z e) (hl1.keep fun o e=>hs₁.extBut _ o O1.1 e) hx fun h₂ h1₂ hs₂=>wpAny_pure ?_);have hTO₂:IsPair h₂ TO a b:=hs₂.extBut _ _ D.TOi1 (hs₁.extBut _ _ D.TOz hTO);refine wpAny_bind (wpAny_seqItems hTO₂ rfl ?_);refine wpAny_bind (wpAny_updateSeq_pair hTO₂ fun h₃ hTO₃ hs₃=>?_);refine wpAny_bind (wpAny_letGo (wpAny_pure ?_));refine wpAny_bind (wpAny_bind (wpAny_onRaise ?_));show wpAny _ _ (Builtin.SmallTypes.nextOf (.ref i2) >>= _) _ _ _
  refine wpAny_bind (bY hh (h2.keep fun o e=>hs₃.extBut _ o D.TOi2.symm (hs₂.extBut _ o D.i12.symm (hs₁.extBut _ o D.i2z e)))
   (hl2.keep fun o e=>hs₃.extBut _ o O2.2.1 (hs₂.extBut _ o O2.2.2.1 (hs₁.extBut _ o O2.1 e))) hy fun h₄ e hs₄ he=>?_)
  obtain ⟨oe,hoe,hce⟩:=he;have hz₄:IsZip h₄ z TI TO .ellipsis:=hs₄ _ _ D.i2z.symm (hs₃.extBut _ _ D.TOz.symm (hs₂.extBut _ _ D.i1z.symm hz₁));have hez:e≠z:=fun x=>by subst x;rw [hz₄] at hoe;cases hoe;simp at hce
  refine wpAny_setField_rec hz₄ (by simp) fun h₅ _ hs₅=>hE h₅ e (fun c o c1 c2 c3 c4 x=>hs₅.extBut _ _ c1 (hs₄ _ _ c4 (hs₃.extBut _ _ c2 (hs₂.extBut _ _ c3 (hs₁.extBut _ _ c1 x))))) ⟨oe,hs₅.extBut _ _ hez hoe,hce⟩
theorem jd{b1 b2:Bool}{z TI TO i1 i2 l1 l2:Addr}{k1 k2:Nat}{xs ys:Array Value}{x y a b:Value}{Q:Option Value->Shared->Prop}(D:ZApart z TI TO i1 i2)(O1:sW z TO i1 i2 l1)(O2:sW z TO i1 i2 l2)
  (hz:IsZip s.heap z TI TO .none) (hTI:IsPair s.heap TI (.ref i1) (.ref i2)) (hTO:IsPair s.heap TO a b)
  (h1:SrcTn b1 i1 l1 k1 s.heap) (h2:SrcTn b2 i2 l2 k2 s.heap) (hl1:SrcSq b1 s.heap l1 xs) (hl2:SrcSq b2 s.heap l2 ys) (hx:xs[k1]?=some x) (hy:ys[k2]?=some y)
  (hQ:∀h',IsZip h' z TI TO (rawInt s.heap.objs.size)->IsPair h' TO x y->SrcTn b1 i1 l1 (k1+1) h'->SrcTn b2 i2 l2 (k2+1) h'->IsPair h' s.heap.objs.size x y->h'.objs.size=s.heap.objs.size+1->
   (∀c o,c≠z->c≠TO->c≠i1->c≠i2->s.heap.get? c=some o->h'.get? c=some o)->Q (some (.ref s.heap.objs.size)) { s with heap:=h' }):
  wpAny (model prog w) A (pyNext (.ref z)) Q E s:=by
 have hT:s.TypeIs (.ref z) "zip":=⟨_,hz,rfl⟩;unfold pyNext
 exact wpAny_bind (wpAny_attempt (wpAny_callSpecial?_slot (name:=Str.ofString "__next__") hT F.slot_zip_next
  (wpAny_call_entry F.slot_zip_next hT F.entry_zip_next (u0 D O1 O2 hz hTI hTO h1 h2 hl1 hl2 hx hy fun h' a1 a2 a3 a4 a5 a6 a7=>wpAny_pure (hQ h' a1 a2 a3 a4 a5 a6 a7)) (F.args_zip_next_1 _))))
theorem jL{b1 b2:Bool}{z TI TO i1 i2 l1 l2:Addr}{k1 k2:Nat}{xs ys:Array Value}{a b:Value}{Q:Option Value->Shared->Prop}(hh:A.handled=none)(D:ZApart z TI TO i1 i2)(O1:sW z TO i1 i2 l1)(O2:sW z TO i1 i2 l2)
  (hz:IsZip s.heap z TI TO .none) (hTI:IsPair s.heap TI (.ref i1) (.ref i2)) (hTO:IsPair s.heap TO a b)
  (h1:SrcTn b1 i1 l1 k1 s.heap) (h2:SrcTn b2 i2 l2 k2 s.heap) (hl1:SrcSq b1 s.heap l1 xs) (hl2:SrcSq b2 s.heap l2 ys) (hend:xs[k1]?=none\/ys[k2]?=none)
  (hQ:∀h',(∀c o,c≠z->c≠TO->c≠i1->c≠i2->s.heap.get? c=some o->h'.get? c=some o)->Q none { s with heap:=h' }):wpAny (model prog w) A (pyNext (.ref z)) Q E s:=by
 have hT:s.TypeIs (.ref z) "zip":=⟨_,hz,rfl⟩;unfold pyNext
 refine wpAny_bind (wpAny_attempt (wpAny_callSpecial?_slot (name:=Str.ofString "__next__") hT F.slot_zip_next
  (wpAny_call_entry F.slot_zip_next hT F.entry_zip_next (wY hh D O1 O2 hz hTI hTO h1 h2 hl1 hl2 hend fun h' e hk he=>?_) (F.args_zip_next_1 _))))
 obtain ⟨o,ho,hc⟩:=he;refine wpAny_bind (wpAny_isInstance (T:="StopIteration") (b:=true) ⟨o,ho,hc⟩ isSubtype_stop ?_);exact wpAny_pure (hQ _ hk)
end
abbrev B9(c1:String)(h:Heap)(l1:Addr):Heap:=h.push { cls:=.type c1,data:=.fields #[.ref l1,.int 0 0] }
abbrev zB(c1 c2:String)(h:Heap)(l1 l2:Addr):Heap:=(B9 c1 h l1).push { cls:=.type c2,data:=.fields #[.ref l2,.int 0 0] }
abbrev zH3(c1 c2:String)(h:Heap)(l1 l2:Addr):Heap:=(zB c1 c2 h l1 l2).push { cls:=.type "tuple",data:=.seq #[.ref h.objs.size,.ref (B9 c1 h l1).objs.size] }
abbrev zH4(c1 c2:String)(h:Heap)(l1 l2:Addr):Heap:=(zH3 c1 c2 h l1 l2).push { cls:=.type "tuple",data:=.seq #[.none,.none] }
abbrev Bk(c1 c2:String)(h:Heap)(l1 l2:Addr):Heap:=(zH4 c1 c2 h l1 l2).push { cls:=.type "zip",data:=.fields #[.none,.bool false,.bool false,.ref (zB c1 c2 h l1 l2).objs.size,.ref (zH3 c1 c2 h l1 l2).objs.size] }
theorem sm(b1 b2:Bool)(l1 l2:Addr)(xs ys:Array Value):
  Meets (Builtin.«zip.__new__» ⟨[.type "zip",.ref l1,.ref l2],[]⟩) (fun _ R s=>SrcSq b1 s.heap l1 xs/\SrcSq b2 s.heap l2 ys/\
   R (.ok (.ret (.ref (zH4 (b0 b1) (b0 b2) s.heap l1 l2).objs.size))) { s with heap:=Bk (b0 b1) (b0 b2) s.heap l1 l2 }):=
 .of_wp fun prog w A R s h=>by
  obtain ⟨hp,g,d,tk,os⟩:=s;obtain ⟨hl1,hl2,h⟩:=h;have hsub:=sub_zip;have hL1:SrcSq b1 (Shared.heap ⟨hp,g,d,tk,os⟩) l1 xs:=hl1;have hL2:SrcSq b2 (Shared.heap ⟨hp.push { cls:=.type (b0 b1),data:=.fields #[.ref l1,.int 0 0] },g,d,tk,os⟩) l2 ys:=SrcSq.keep hl2 fun o e=>Heap.get?_push_of_some _ e
  wp_walk using cJ hL1,cJ hL2
  exact ⟨_,rfl,h⟩
section
variable {prog:Program}{w:World}{A:Around}{E:Value->Shared->Prop}{s:Shared}
theorem vn{b1 b2:Bool}{l1 l2:Addr}{xs ys:Array Value}{Q:Value->Shared->Prop}(hl1:SrcSq b1 s.heap l1 xs)(hl2:SrcSq b2 s.heap l2 ys)
  (h:∀h',IsZip h' (s.heap.objs.size+4) (s.heap.objs.size+2) (s.heap.objs.size+3) .none->IsPair h' (s.heap.objs.size+2) (.ref s.heap.objs.size) (.ref (s.heap.objs.size+1))->
   IsPair h' (s.heap.objs.size+3) .none .none->SrcTn b1 s.heap.objs.size l1 0 h'->SrcTn b2 (s.heap.objs.size+1) l2 0 h'->h'.objs.size=s.heap.objs.size+5->
   (∀c o,s.heap.get? c=some o->h'.get? c=some o)->Q (.ref (s.heap.objs.size+4)) { s with heap:=h' }):
  wpAny (model prog w) A (call (.type "zip") [.ref l1,.ref l2]) Q E s:=by
 refine callType_new F.called_zip (by decide) (F.typeCall_zip_2 _ _) (F.newCall_zip_2 _ _) (fun obj=>F.args_object_init_3 obj _ _) F.entry_zip_new (sm b1 b2 l1 l2 xs ys) ⟨hl1,hl2,?_⟩
 have z1:(B9 (b0 b1) s.heap l1).objs.size=s.heap.objs.size+1:=Heap.size_push ..;have z2:(zB (b0 b1) (b0 b2) s.heap l1 l2).objs.size=s.heap.objs.size+2:=by rw [Heap.size_push,z1]
 have z3:(zH3 (b0 b1) (b0 b2) s.heap l1 l2).objs.size=s.heap.objs.size+3:=by rw [Heap.size_push,z2]
 have z4:(zH4 (b0 b1) (b0 b2) s.heap l1 l2).objs.size=s.heap.objs.size+4:=by rw [Heap.size_push,z3]
 have z5:(Bk (b0 b1) (b0 b2) s.heap l1 l2).objs.size=s.heap.objs.size+5:=by rw [Heap.size_push,z4]
 have g5:(Bk (b0 b1) (b0 b2) s.heap l1 l2).get? (zH4 (b0 b1) (b0 b2) s.heap l1 l2).objs.size=some _:=Heap.get?_push_size _ rfl;have g4:(Bk (b0 b1) (b0 b2) s.heap l1 l2).get? (zH3 (b0 b1) (b0 b2) s.heap l1 l2).objs.size=some _:=Heap.get?_push_of_some _ (Heap.get?_push_size _ rfl);have g3:(Bk (b0 b1) (b0 b2) s.heap l1 l2).get? (zB (b0 b1) (b0 b2) s.heap l1 l2).objs.size=some _:=Heap.get?_push_of_some _ (Heap.get?_push_of_some _ (Heap.get?_push_size _ rfl));have g2:(Bk (b0 b1) (b0 b2) s.heap l1 l2).get? (B9 (b0 b1) s.heap l1).objs.size=some _:=Heap.get?_push_of_some _ (Heap.get?_push_of_some _ (Heap.get?_push_of_some _ (Heap.get?_push_size _ rfl)));have g1:(Bk (b0 b1) (b0 b2) s.heap l1 l2).get? s.heap.objs.size=some _:=Heap.get?_push_of_some _ (Heap.get?_push_of_some _ (Heap.get?_push_of_some _ (Heap.get?_push_of_some _ (Heap.get?_push_size _ rfl))));show _/\_;rw [z2,z3,z4] at g5;rw [z1,z2] at g3;rw [z3] at g4;rw [z1] at g2;rw [z4];exact ⟨⟨_,g5,rfl⟩,h _ g5 g3 g4 (g0 g1) (g0 g2) z5 fun c o x=>
  Heap.get?_push_of_some _ (Heap.get?_push_of_some _ (Heap.get?_push_of_some _ (Heap.get?_push_of_some _ (Heap.get?_push_of_some _ x))))⟩
end
end L2
namespace L2
open PySem PySem.Spec PyProof.Rows
def gO(K:W.Frag)(b:Bool)(H:Hp)(a:Addr)(xs:List V):Prop:=if b=true then SqL K H a xs else iB K H a xs
section
variable {X:Cx}{pins:List (Addr×Obj)}{σ:St}{H:Hp}{s:Shared}{a:Addr}{xs ys:List V}{b:Bool}
theorem Inv.src(I:Inv X pins σ H s)(h:gO X.K b H a xs):∃its:List Value,Vals xs its/\SrcSq b s.heap a its.toArray/\xs.length<=sizeLine:=by
 cases b with
 |true=>obtain ⟨its,r,p,z⟩:=I.list (show SqL X.K H a xs from h);exact ⟨its,r,p.isList,z⟩
 |false=>obtain ⟨its,r,p,z⟩:=I.tuple (show iB X.K H a xs from h);exact ⟨its,r,p,z⟩
theorem Inv.src_inj(I:Inv X pins σ H s)(h:gO X.K b H a xs)(h':gO X.K b H a ys):xs=ys:=by
 cases b with
 |true=>exact I.list_inj (show SqL X.K H a xs from h) h'
 |false=>exact I.tuple_inj (show iB X.K H a xs from h) h'
theorem Inv.src_ne(I:Inv X pins σ H s)(h:gO X.K b H a xs){it:Addr}(f:iO X pins H it):a≠it:=by
 obtain ⟨f0,f1,f2,f3,f4,f5⟩:=f;intro e;subst e;have kne:∀o,X.K.lookup a=some o->False:=fun o hk=>by
  have hb:=I.ok.mod.kin a o hk;rcases f3 with z|z
  ·exact I.ok.noex a o hb z
  ·exact absurd (Nat.lt_of_lt_of_le (Heap.lt_size (I.ok.bs a o hb).1) z) (Nat.lt_irrefl _)
 cases b with
 |true=>
  rcases (show SqL X.K H a xs from h) with (z|⟨o,z⟩)|⟨o,_,_,hk,_⟩
  ·rw [f0] at z;cases z
  ·rw [f0] at z;cases z
  ·exact kne o hk
 |false=>
  rcases (show iB X.K H a xs from h) with (z|⟨o,z⟩)|⟨o,_,_,hk,_⟩
  ·rw [f0] at z;cases z
  ·rw [f0] at z;cases z
  ·exact kne o hk
end
def Itz(K:W.Frag)(b1 b2:Bool)(l1 l2:Addr):It:=
 ⟨fun i H=>∃xs ys x y,gO K b1 H l1 xs/\gO K b2 H l2 ys/\xs[i]?=some x/\ys[i]?=some y,
  fun i H v H'=>∃T x y,H T=none/\v=.ref T/\H'=upd H T (.tup [x,y])/\(∀xs,gO K b1 H l1 xs->xs[i]?=some x)/\(∀ys,gO K b2 H l2 ys->ys[i]?=some y),
  fun i H=>∃xs ys,gO K b1 H l1 xs/\gO K b2 H l2 ys/\(xs.length<=i\/ys.length<=i)⟩
theorem Inv.turned4{X:Cx}{pins:List (Addr×Obj)}{σ:St}{H:Hp}{s:Shared}{h':Heap}{t':Nat}{fp:List Addr}(I:Inv X pins σ H s)(hf:∀b∈fp,iO X pins H b)
  (k:∀b o,b∉fp->s.heap.get? b=some o->h'.get? b=some o):Inv X pins σ H { s with heap:=h',toks:=t' }:=by
 have nfp:∀b u,H b=some u->b∉fp:=fun b u e z=>by have:=(hf b z).1;rw [e] at this;cases this
 refine I.step (g':=s.gens) (d':=s.drawn) (ch:=fp) (fun b hb=>?_) (fun b o _ _ hc e _=>k b o hc e) (fun b o _ _ hc e _=>⟨o.slots,k b o hc e⟩) (fun _ _ _ _ n=>n)
  (fun b o hc e=>⟨o,k b o hc e⟩) (fun _ _ e=>e) (fun _ _ _ e=>e) (fun b ps e=>⟨#[],by rw [e];simp⟩) (fun m hm=>?_) (fun b u e=>?_) I.bare
 ·obtain ⟨f0,f1,f2,f3,f4,f5⟩:=hf b hb
  exact ⟨f3,f1,f4,f5⟩
 ·obtain ⟨o,es,ep,ho,r⟩:=hm
  exact ⟨o,es,ep,k _ o (fun z=>(hf _ z).2.1 rfl) ho,r⟩
 ·refine (I.hok b u e).stay (fun c v hc q=>k c v ?_ q) (fun _ q=>q) fun _ _ q=>q
  rcases hc with z|z
  ·rw [z];exact nfp b u e
  ·exact nfp c _ z
theorem Inv.turnedNew{X:Cx}{pins:List (Addr×Obj)}{σ:St}{H:Hp}{s:Shared}{h':Heap}{t':Nat}{fp:List Addr}{zs:List V}{us:List Value}{o':Obj}(I:Inv X pins σ H s)(hf:∀b∈fp,iO X pins H b)
  (k:∀b o,b∉fp->s.heap.get? b=some o->h'.get? b=some o) (hlt:∀b∈fp,∃o,s.heap.get? b=some o) (hlv:∀b∈fp,∃o,h'.get? b=some o) (hT:h'.get? s.heap.objs.size=some o') (hoc:o'.cls=.type "tuple") (hod:∃n,o'.data=.seq us.toArray n)
  (r:Vals zs us) (hdn:o'.dict=none) (hz:zs.length<=sizeLine):Inv X pins σ (upd H s.heap.objs.size (.tup zs)) { s with heap:=h',toks:=t' }:=by
 have hTn:H s.heap.objs.size=none:=I.hok.fresh (Nat.le_refl _);have nfp:∀b u,H b=some u->b∉fp:=fun b u e z=>by have:=(hf b z).1;rw [e] at this;cases this
 refine I.step (g':=s.gens) (d':=s.drawn) (ch:=fp) (fun b hb=>?_) (fun b o _ _ hc e _=>k b o hc e) (fun b o _ _ hc e _=>⟨o.slots,k b o hc e⟩) (fun b o _ e n=>by rw [bf (Nat.ne_of_lt (Heap.lt_size e))];exact n)
  (fun b o hc e=>⟨o,k b o hc e⟩) (fun b zs' e=>by rw [bf (bO e hTn)];exact e) (fun b o u e=>by rw [bf (bO e hTn)];exact e) (fun b ps e=>⟨#[],by rw [bf (bO e hTn),e];simp⟩) (fun m hm=>?_) (fun b u e=>?_) I.bare
 ·obtain ⟨f0,f1,f2,f3,f4,f5⟩:=hf b hb
  exact ⟨f3,f1,f4,f5⟩
 ·obtain ⟨o,es,ep,ho,r⟩:=hm
  exact ⟨o,es,ep,k _ o (fun z=>(hf _ z).2.1 rfl) ho,r⟩
 ·by_cases hb:b=s.heap.objs.size
  ·subst hb
   rw [upd_same] at e;cases e;obtain ⟨n,hd⟩:=hod;exact ⟨hz,us,r,⟨o',hT,⟨hoc,n,hd⟩,hdn⟩⟩
  ·rw [bf hb] at e
   refine (I.hok b u e).stay (fun c v hc q=>k c v ?_ q) (fun c q=>by rw [bf (bO q hTn)];exact q) fun c zs' q=>by rw [bf (bO q hTn)];exact q
   rcases hc with z|z
   ·rw [z];exact nfp b u e
   ·exact nfp c _ z
theorem t6{P:Program}{w:World}{K:W.Frag}{elts:List Expr}{x1:Nat}{tp:Pos}(b1 b2:Bool)(l1 l2 z TI TO i1 i2:Addr)(D:ZApart z TI TO i1 i2):
  Turn P w K (.Tuple elts x1 tp) (Itz K b1 b2 l1 l2) [z,TI,TO,i1,i2] z (fun i h=>IsZip h z TI TO .none/\IsPair h TI (.ref i1) (.ref i2)/\(∃a b,IsPair h TO a b)/\SrcTn b1 i1 l1 i h/\SrcTn b2 i2 l2 i h) where
 mem:=by simp
 obj:=fun i h st b hb=>by
  obtain ⟨hz,hTI,⟨a,c,hTO⟩,h1,h2⟩:=st;have hb':b=z\/b=TI\/b=TO\/b=i1\/b=i2:=by simpa using hb
  rcases hb' with e|e|e|e|e<;>subst e
  ·exact ⟨_,hz,fun v q=>nomatch q⟩
  ·exact ⟨_,hTI,fun v q=>nomatch q⟩
  ·exact ⟨_,hTO,fun v q=>nomatch q⟩
  ·exact h1.lt
  ·exact h2.lt
 keep:=fun i h h' st k=>by
  obtain ⟨hz,hTI,⟨a,c,hTO⟩,h1,h2⟩:=st;exact ⟨k z (by simp) _ hz,k TI (by simp) _ hTI,⟨a,c,k TO (by simp) _ hTO⟩,h1.keep fun o e=>k i1 (by simp) o e,h2.keep fun o e=>k i2 (by simp) o e⟩
 item:=by
  intro X hP hw hK hc i pins s σ H E I hf st hg;subst hP hw hK;obtain ⟨xs,ys,x,y,q1,q2,hx,hy⟩:=hg;obtain ⟨hz,hTI,⟨a,c,hTO⟩,h1,h2⟩:=st;obtain ⟨its1,r1,s1,z1⟩:=I.src q1;obtain ⟨its2,r2,s2,z2⟩:=I.src q2;obtain ⟨u,hu,ru⟩:=r1.get hx;obtain ⟨v,hv,rv⟩:=r2.get hy;have O1:sW z TO i1 i2 l1:=⟨I.src_ne q1 (hf z (by simp)),I.src_ne q1 (hf TO (by simp)),I.src_ne q1 (hf i1 (by simp)),I.src_ne q1 (hf i2 (by simp))⟩
  have O2:sW z TO i1 i2 l2:=⟨I.src_ne q2 (hf z (by simp)),I.src_ne q2 (hf TO (by simp)),I.src_ne q2 (hf i1 (by simp)),I.src_ne q2 (hf i2 (by simp))⟩
  refine jd D O1 O2 hz hTI hTO h1 h2 s1 s2 (x:=u) (y:=v) (by simpa using hu) (by simpa using hv) fun h' a1 a2 a3 a4 a5 a6 hk=>?_
  refine ⟨_,rfl,wpAny_letOwnedTupleGo_zip a1 fun h'' hz'' hs''=>?_⟩;have hzs:z≠s.heap.objs.size:=Nat.ne_of_lt (Heap.lt_size hz);have kk:∀b o,b∉[z,TI,TO,i1,i2]->s.heap.get? b=some o->h''.get? b=some o:=fun b o hb e=>
   hs''.extBut b o (fun q=>hb (by simp [q])) (hk b o (fun q=>hb (by simp [q])) (fun q=>hb (by simp [q])) (fun q=>hb (by simp [q])) (fun q=>hb (by simp [q])) e)
  have hT:h''.get? s.heap.objs.size=some { cls:=.type "tuple",data:=.seq #[u,v] }:=hs''.extBut _ _ hzs.symm a5;have lv:∀b∈[z,TI,TO,i1,i2],∃o,s.heap.get? b=some o:=fun b hb=>by
   have hb':b=z\/b=TI\/b=TO\/b=i1\/b=i2:=by simpa using hb
   rcases hb' with e|e|e|e|e<;>subst e
   ·exact ⟨_,hz⟩
   ·exact ⟨_,hTI⟩
   ·exact ⟨_,hTO⟩
   ·obtain ⟨o,e,_⟩:=h1.lt;exact ⟨o,e⟩
   ·obtain ⟨o,e,_⟩:=h2.lt;exact ⟨o,e⟩
  have n1:SrcTn b1 i1 l1 (i+1) h'':=a3.keep fun o e=>hs''.extBut _ o D.i1z e;have n2:SrcTn b2 i2 l2 (i+1) h'':=a4.keep fun o e=>hs''.extBut _ o D.i2z e;have nTI:IsPair h'' TI (.ref i1) (.ref i2):=hs''.extBut _ _ D.TIz (hk _ _ D.TIz D.TITO D.TIi1 D.TIi2 hTI);have nTO:IsPair h'' TO u v:=hs''.extBut _ _ D.TOz a2;have lv':∀b∈[z,TI,TO,i1,i2],∃o,h''.get? b=some o:=fun b hb=>by
   have hb':b=z\/b=TI\/b=TO\/b=i1\/b=i2:=by simpa using hb
   rcases hb' with e|e|e|e|e<;>subst e
   ·exact ⟨_,hz''⟩
   ·exact ⟨_,nTI⟩
   ·exact ⟨_,nTO⟩
   ·obtain ⟨o,e,_⟩:=n1.lt;exact ⟨o,e⟩
   ·obtain ⟨o,e,_⟩:=n2.lt;exact ⟨o,e⟩
  have hTn:H s.heap.objs.size=none:=I.hok.fresh (Nat.le_refl _);refine ⟨.ref s.heap.objs.size,_,I.turnedNew (s:=s) (h':=h'') (t':=s.toks) (zs:=[x,y]) (us:=[u,v]) hf kk lv lv' hT rfl ⟨_,rfl⟩ (.cons ru (.cons rv .nil)) rfl (by show 2<=sizeLine;decide),rfl,⟨_,x,y,hTn,rfl,rfl,fun zs hzs'=>?_,fun zs hzs'=>?_⟩,⟨hz'',nTI,⟨_,_,nTO⟩,n1,n2⟩,fun b hb=>?_⟩
  ·rw [I.src_inj hzs' q1];exact hx
  ·rw [I.src_inj hzs' q2];exact hy
  ·obtain ⟨o,e⟩:=lv b hb
   rw [bf (Nat.ne_of_lt (Heap.lt_size e))];exact (hf b hb).1
 done:=by
  intro X hP hw hK hc i pins s σ H E I hf st hg;subst hP hw hK;obtain ⟨xs,ys,q1,q2,hx⟩:=hg;obtain ⟨hz,hTI,⟨a,c,hTO⟩,h1,h2⟩:=st;obtain ⟨its1,r1,s1,z1⟩:=I.src q1;obtain ⟨its2,r2,s2,z2⟩:=I.src q2;have l1':=r1.length;have l2':=r2.length;have O1:sW z TO i1 i2 l1:=⟨I.src_ne q1 (hf z (by simp)),I.src_ne q1 (hf TO (by simp)),I.src_ne q1 (hf i1 (by simp)),I.src_ne q1 (hf i2 (by simp))⟩
  have O2:sW z TO i1 i2 l2:=⟨I.src_ne q2 (hf z (by simp)),I.src_ne q2 (hf TO (by simp)),I.src_ne q2 (hf i1 (by simp)),I.src_ne q2 (hf i2 (by simp))⟩
  refine jL (I.ok.hd hc) D O1 O2 hz hTI hTO h1 h2 s1 s2 ?_ fun h' hk=>⟨rfl,I.turned4 (t':=s.toks) hf fun b o hb e=>hk b o (fun q=>hb (by simp [q])) (fun q=>hb (by simp [q])) (fun q=>hb (by simp [q])) (fun q=>hb (by simp [q])) e⟩
  rcases hx with hx|hx
  ·exact .inl (by simp;lia)
  ·exact .inr (by simp;lia)
 self:=fun _ _ _ _ _ st h=>wpAny_pyIter_zip st.1 h
section
variable {X:Cx}
def Ite(K:W.Frag)(b:Bool)(l:Addr):It:=
 ⟨fun i H=>∃xs x,gO K b H l xs/\xs[i]?=some x,
  fun i H v H'=>∃T x,H T=none/\v=.ref T/\H'=upd H T (.tup [.int i,x])/\(∀xs,gO K b H l xs->xs[i]?=some x),
  fun i H=>∃xs,gO K b H l xs/\xs.length<=i⟩
end
section
variable {prog:Program}{w:World}{A:Around}{E:Value->Shared->Prop}{s:Shared}
theorem Draws.src(hh:A.handled=none)(b:Bool)(it l:Addr)(hne:l≠it)(items:Array Value):
  Draws prog w A it [it,l] items.size (fun i v=>items[i]?=some v) (fun i h=>SrcTn b it l i h/\SrcSq b h l items) where
 live:=fun _ _ st=>let ⟨o,ho,_⟩:=st.1.lt;⟨o,ho⟩
 frame:=fun _ _ _ st hk=>⟨st.1.keep fun o e=>hk it (by simp) o e,st.2.keep fun o e=>hk l (by simp) o e⟩
 item:=fun i s Q E hi st hQ=>by
  refine bK st.1 st.2 (x:=items[i]) (by simp [hi]) fun h' hit' hs'=>?_
  exact hQ _ h' s.toks (by simp [hi]) ⟨hit',st.2.keep fun o e=>hs'.extBut _ o hne e⟩ hs'
 done:=fun s Q E st hE=>bY hh st.1 st.2 (by simp) hE
theorem pw(b:Bool)(l:Addr)(items:Array Value):
  Meets (Builtin.«enumerate.__new__» ⟨[.type "enumerate",.ref l],[]⟩) (fun _ R s=>SrcSq b s.heap l items/\
   R (.ok (.ret (.ref (s.heap.push { cls:=.type (b0 b),data:=.fields #[.ref l,.int 0 0] }).objs.size)))
    { s with heap:=(s.heap.push { cls:=.type (b0 b),data:=.fields #[.ref l,.int 0 0] }).push { cls:=.type "enumerate",data:=.fields #[.none,.bool false,.ref s.heap.objs.size,rawInt 0,.none,.none] } }):=
 .of_wp fun prog w A R s h=>by
  obtain ⟨hp,g,d,tk,os⟩:=s;obtain ⟨hl,h⟩:=h;have hsub:=sub_enumerate;have hL:SrcSq b (Shared.heap ⟨hp,g,d,tk,os⟩) l items:=hl
  wp_walk
  refine wpAny_stack_any fun st=>wpAny_pure ?_
  split
  ·rename_i c _ _ _ _ _
   cases (c==Value.type "enumerate")
   ·wp_walk using cJ hL
    exact ⟨_,rfl,h⟩
   ·wp_walk using cJ hL
    exact ⟨_,rfl,h⟩
  ·wp_walk using cJ hL
   exact ⟨_,rfl,h⟩
theorem sJ{b:Bool}{l:Addr}{items:Array Value}{Q:Value->Shared->Prop}(hL:SrcSq b s.heap l items)
  (h:∀h',IsEnum h' (s.heap.objs.size+1) s.heap.objs.size 0 .none->SrcTn b s.heap.objs.size l 0 h'->h'.objs.size=s.heap.objs.size+2->
   (∀b o,s.heap.get? b=some o->h'.get? b=some o)->Q (.ref (s.heap.objs.size+1)) { s with heap:=h' }):
  wpAny (model prog w) A (call (.type "enumerate") [.ref l]) Q E s:=by
 refine callType_new F.called_enumerate (by decide) (F.typeCall_enumerate_1 _) (F.newCall_enumerate_1 _) (fun obj=>F.args_object_init_2 obj _) F.entry_enumerate_new (pw b l items) ⟨hL,?_⟩
 have hz:(s.heap.push { cls:=.type (b0 b),data:=.fields #[.ref l,.int 0 0] }).objs.size=s.heap.objs.size+1:=Heap.size_push ..;show _/\_;rw [hz]
 have he:IsEnum ((s.heap.push { cls:=.type (b0 b),data:=.fields #[.ref l,.int 0 0] }).push
   { cls:=.type "enumerate",data:=.fields #[.none,.bool false,.ref s.heap.objs.size,rawInt 0,.none,.none] }) (s.heap.objs.size+1) s.heap.objs.size 0 .none:=by
  have:=Heap.get?_push_size (s.heap.push { cls:=.type (b0 b),data:=.fields #[.ref l,.int 0 0] })
   (o:={ cls:=.type "enumerate",data:=.fields #[.none,.bool false,.ref s.heap.objs.size,rawInt 0,.none,.none] }) rfl
  rw [hz] at this;exact this
 refine ⟨⟨_,he,rfl⟩,h _ he (g0 (Heap.get?_push_of_some _ (Heap.get?_push_size _ rfl))) (by rw [Heap.size_push,hz]) fun b o x=>Heap.get?_push_of_some _ (Heap.get?_push_of_some _ x)⟩
end
theorem rY{P:Program}{w:World}{K:W.Frag}{elts:List Expr}{x1:Nat}{tp:Pos}(b:Bool)(l e it:Addr)(hei:e≠it):
  Turn P w K (.Tuple elts x1 tp) (Ite K b l) [e,it] e (fun i h=>(∃old,IsEnum h e it i old)/\SrcTn b it l i h) where
 mem:=by simp
 obj:=fun i h st c hc=>by
  obtain ⟨⟨old,he⟩,h1⟩:=st;have hc':c=e\/c=it:=by simpa using hc
  rcases hc' with q|q<;>subst q
  ·exact ⟨_,he,fun v z=>nomatch z⟩
  ·exact h1.lt
 keep:=fun i h h' st k=>by
  obtain ⟨⟨old,he⟩,h1⟩:=st;exact ⟨⟨old,k e (by simp) _ he⟩,h1.keep fun o q=>k it (by simp) o q⟩
 item:=by
  intro X hP hw hK hc i pins s σ H E I hf st hg;subst hP hw hK;obtain ⟨xs,x,q1,hx⟩:=hg;obtain ⟨⟨old,he⟩,h1⟩:=st;obtain ⟨its,r,sq,z1⟩:=I.src q1;obtain ⟨u,hu,ru⟩:=r.get hx;have hle:l≠e:=I.src_ne q1 (hf e (by simp))
  have hli:l≠it:=I.src_ne q1 (hf it (by simp))
  have hil:i<its.toArray.size:=by
   rw [List.size_toArray,<- r.length];exact (List.getElem?_eq_some_iff.mp hx).1
  have D:Draws X.prog X.w X.A.in1 it [it,l] its.toArray.size (fun i v=>its.toArray[i]?=some v) (fun i h=>SrcTn b it l i h/\SrcSq b h l its.toArray):=Draws.src (A:=X.A.in1) (I.ok.hd hc) b it l hli its.toArray;refine wpAny_pyNext_enum_itemD D he ⟨h1,sq⟩ hil hei (by simp [hei,Ne.symm hle]) fun v h' tk hv ho hs' hT hsz hk=>?_
  have ev:v=u:=by
   have hu':its.toArray[i]?=some u:=by simpa using hu
   rw [hu'] at hv;exact (Option.some.inj hv).symm
  subst ev;refine ⟨_,rfl,wpAny_letOwnedTupleGo_enum ho fun h'' he'' hs''=>?_⟩;have hes:e≠s.heap.objs.size:=Nat.ne_of_lt (Heap.lt_size he);have n1:SrcTn b it l (i+1) h'':=hs'.1.keep fun o q=>hs''.extBut _ o hei.symm q;have kk:∀c o,c∉[e,it]->s.heap.get? c=some o->h''.get? c=some o:=fun c o hc q=>
   hs''.extBut c o (fun z=>hc (by simp [z])) (hk c o (fun z=>hc (by simp [z])) (fun z=>hc (by simp [z])) q)
  have hT':h''.get? s.heap.objs.size=some { cls:=.type "tuple",data:=.seq #[.int i tk,v] }:=hs''.extBut _ _ hes.symm hT;have lv:∀c∈[e,it],∃o,s.heap.get? c=some o:=fun c hc=>by
   have hc':c=e\/c=it:=by simpa using hc
   rcases hc' with q|q<;>subst q
   ·exact ⟨_,he⟩
   ·obtain ⟨o,q,_⟩:=h1.lt;exact ⟨o,q⟩
  have lv':∀c∈[e,it],∃o,h''.get? c=some o:=fun c hc=>by
   have hc':c=e\/c=it:=by simpa using hc
   rcases hc' with q|q<;>subst q
   ·exact ⟨_,he''⟩
   ·obtain ⟨o,q,_⟩:=n1.lt;exact ⟨o,q⟩
  have hTn:H s.heap.objs.size=none:=I.hok.fresh (Nat.le_refl _);refine ⟨.ref s.heap.objs.size,_,I.turnedNew (s:=s) (h':=h'') (t':=tk+1) (zs:=[.int i,x]) (us:=[.int i tk,v]) hf kk lv lv' hT' rfl ⟨_,rfl⟩ (.cons ⟨tk,rfl⟩ (.cons ru .nil)) rfl (by show 2<=sizeLine;decide),rfl,⟨_,x,hTn,rfl,rfl,fun zs hzs'=>?_⟩,⟨⟨v,by simpa using he''⟩,n1⟩,fun c hc=>?_⟩
  ·rw [I.src_inj hzs' q1];exact hx
  ·obtain ⟨o,q⟩:=lv c hc
   rw [bf (Nat.ne_of_lt (Heap.lt_size q))];exact (hf c hc).1
 done:=by
  intro X hP hw hK hc i pins s σ H E I hf st hg;subst hP hw hK;obtain ⟨xs,q1,hx⟩:=hg;obtain ⟨⟨old,he⟩,h1⟩:=st;obtain ⟨its,r,sq,z1⟩:=I.src q1;have hli:l≠it:=I.src_ne q1 (hf it (by simp))
  have hT:s.TypeIs (.ref e) "enumerate":=⟨_,he,rfl⟩;have hl:=r.length;unfold pyNext
  refine wpAny_bind (wpAny_attempt (wpAny_callSpecial?_slot (name:=Str.ofString "__next__") hT F.slot_enumerate_next
   (wpAny_call_entry F.slot_enumerate_next hT F.entry_enumerate_next ?_ (F.args_enumerate_next_1 _))))
  show wpAny _ _ (field (.ref e) 2 >>= _) _ _ _;refine wpAny_bind (wpAny_field he rfl (x:=.ref it) rfl ?_);refine wpAny_bind (bY (I.ok.hd hc) h1 sq (by simp;lia) fun h' x he' hx'=>?_)
  obtain ⟨o,ho,hcl⟩:=hx';refine wpAny_bind (wpAny_isInstance (T:="StopIteration") (b:=true) ⟨o,ho,hcl⟩ isSubtype_stop ?_);exact wpAny_pure ⟨rfl,I.turned4 (t':=s.toks) hf fun c o' hc' q=>he' c o' (fun z=>hc' (by simp [z])) q⟩
 self:=fun _ _ _ _ _ st h=>let ⟨⟨_,he⟩,_⟩:=st;wpAny_pyIter_enum he h
section
variable {X:Cx}
theorem ny:dq X (.builtin "isinstance") (fun xs H Q=>∃x T t b,xs=[x,.ty T]/\TyOf X.K H x t/\W.kitOne X.K t (.type T)=some b/\Q (.bl b) H):=by
 intro pins s σ H xs us Q I r h;obtain ⟨x,T,t,b,rfl,ty,e,q⟩:=h;obtain ⟨u,c,rfl,rx,rc⟩:=r.two;obtain rfl:c=Value.type T:=rc;exact rX I rx ty e fun tk=>⟨.bl b,H,I.tok tk,rfl,q⟩
theorem um(hc:X.calm=true):dq X (.builtin "all") (fun xs H Q=>∃(l:Addr) (bs:List Bool),xs=[.ref l]/\SqL X.K H l (bs.map V.bl)/\Q (.bl (bs.all id)) H):=by
 intro pins s σ H xs us Q I r h;obtain ⟨l,bs,rfl,hq,q⟩:=h;obtain ⟨u,rfl,ru⟩:=r.one;cases ru;obtain ⟨its,rv,p,hz⟩:=I.list hq;have hl:=rv.length;have hli:l<s.heap.objs.size:=by obtain ⟨o,e,_⟩:=p.isList;exact Heap.lt_size e
 have hne:l≠s.heap.objs.size:=Nat.ne_of_lt hli;have val:∀(i:Nat) (v:Value),its.toArray[i]?=some v->∃c,bs[i]?=some c/\v=.bool c:=fun i v hv=>by
  have hv':its[i]?=some v:=by simpa using hv
  have hi:i<bs.length:=by
   have:=(List.getElem?_eq_some_iff.mp hv').1;rw [List.length_map] at hl;lia
  obtain ⟨w',h1,h2⟩:=rv.get (i:=i) (x:=.bl bs[i]) (by rw [List.getElem?_map,List.getElem?_eq_getElem hi];rfl)
  rw [hv'] at h1;cases h1;exact ⟨bs[i],List.getElem?_eq_getElem hi,h2⟩
 have hsz:its.toArray.size=bs.length:=by rw [List.size_toArray,<- hl,List.length_map]
 refine call_all_walk (wpAny_pyIter_list p.isList ⟨s.heap.objs.size,_,_,_,_,_,fun i=>bs.getD i false,rfl,Walks.list (A:=X.A.in1) (I.ok.hd hc) s.heap.objs.size l hne its.toArray,⟨⟨_,Heap.get?_push_size _ rfl,rfl,rfl⟩,p.isList.push _⟩,fun i v s' Q' E' hv hq'=>?_,fun h' tk hk=>?_⟩)
 ·obtain ⟨c,h1,rfl⟩:=val i v hv
  refine wpAny_truthy_bool ?_;have eb:bs.getD i false=c:=by rw [List.getD_eq_getElem?_getD,h1];rfl
  have hq2:Q' (bs.getD i false) s':=hq';rw [eb] at hq2;exact hq2
 ·have e:(List.range its.toArray.size).all (fun i=>bs.getD i false)=bs.all id:=by
   rw [hsz,Bool.eq_iff_iff,List.all_eq_true,List.all_eq_true];constructor
   ·intro h b hb
    obtain ⟨i,hi,rfl⟩:=List.mem_iff_getElem.mp hb;have:=h i (List.mem_range.mpr hi)
    rwa [List.getD_eq_getElem?_getD,List.getElem?_eq_getElem hi] at this
   ·intro h i hi
    have hi':=List.mem_range.mp hi;rw [List.getD_eq_getElem?_getD,List.getElem?_eq_getElem hi'];exact h _ (List.getElem_mem hi')
  rw [e];refine ⟨.bl (bs.all id),H,?_,rfl,q⟩;exact I.kept (t':=tk) fun b o hb=>hk b o (by simp;exact Nat.ne_of_lt (Heap.lt_size hb)) (Heap.get?_push_of_some _ hb)
end
end L2
namespace L2
open PySem PySem.Spec PyProof.Rows
section
variable {prog:Program}{w:World}{A:Around}{E:Value->Shared->Prop}{s:Shared}
end
end L2
namespace L2
open PySem PySem.Spec PyProof.Rows
section
variable {prog:Program}{w:World}{A:Around}{E:Value->Shared->Prop}{s:Shared}
end
namespace F
end F
section
variable {prog:Program}{w:World}{K:Type}[DecidableEq K]{knd:KeyKind prog w K}{A:Around}{E:Value->Shared->Prop}{s:Shared}
end
end L2
namespace L2
open PySem PySem.Spec PyProof.Rows
theorem iN:fillsNumberSlot (.type "tuple") "mul"=pure false:=
 PySem.fillsNumberSlot_seq (id:="tuple.__mul__") (r:=some (.builtin "tuple.__rmul__")) PySem.F.slot_tuple_mul.lookup (by decide +kernel) PySem.F.slot_tuple_rmul.lookup (by decide +kernel)
theorem lC:seqRepeat? (.type "tuple")=pure (some (.builtin "tuple.__mul__")):=by
 unfold seqRepeat?;rw [PySem.seqSlot_of (T:="tuple") (name:="__mul__") (id:="tuple.__mul__") PySem.F.slot_tuple_mul.lookup (by decide +kernel),PySem.seqSlot_of (T:="tuple") (name:="__rmul__") (id:="tuple.__rmul__") PySem.F.slot_tuple_rmul.lookup (by decide +kernel)]
 rfl
theorem kn(a:Int)(t:Tok)(l:Addr)(items:Array Value)(n:Nat)(dd:Option Addr)(sl:Array (Option Value)):
  Meets (Builtin.«int.__rmul__» ⟨[.int a t,.ref l],[]⟩) (fun _ R s=>s.heap.get? l=some { cls:=.type "tuple",dict:=dd,data:=.seq items n,slots:=sl }/\R (.ok (.ret Value.notImplemented)) s):=
 .of_wp fun prog w A R s h=>by obtain ⟨hp,g,d,tk,os⟩:=s;obtain ⟨hl,h⟩:=h;wp_walk;exact ⟨_,rfl,h⟩
theorem jB(l:Addr)(items:Array Value)(n:Nat)(dd:Option Addr)(sl:Array (Option Value))(x:Int)(u:Tok)(hx:1<x)(hx2:x<=1000)(hi:items.size<=1000)(h0:items.isEmpty=false):
  Meets (Builtin.«tuple.__mul__» ⟨[.ref l,.int x u],[]⟩) (fun _ R s=>s.heap.get? l=some { cls:=.type "tuple",dict:=dd,data:=.seq items n,slots:=sl }/\
   R (.ok (.ret (.ref s.heap.objs.size))) { s with heap:=s.heap.push { cls:=.type "tuple",data:=.seq ((List.replicate x.toNat items).foldl (·++·) #[]) } }):=
 .of_wp fun prog w A R s h=>by
  obtain ⟨hp,g,d,tk,os⟩:=s;obtain ⟨hl,h⟩:=h;have f1:=AutoSeq1.idx_int;have f2:=AutoSeq1.sub_tuple_tuple;have g1:(decide (x < -(2 ^ 63))||decide (x>=2 ^ 63))=false:=by simp;lia
  have g2:(items.isEmpty||x==1)=false:=by rw [h0];simp;lia
  have g3:(decide (x<=0)||items.isEmpty)=false:=by rw [h0];simp;lia
  have hm:(items.size:Int)*x<=1000000:=by
   have a1:(items.size:Int)*x<=1000*x:=Int.mul_le_mul_of_nonneg_right (by lia) (by lia)
   lia
  have hm2:¬((items.size:Int)*x>(2 ^ 63-1) / 8):=by lia
  have hm3:Builtin.Tuple.tupleTooMany ((items.size:Int)*x)=false:=by
   unfold Builtin.Tuple.tupleTooMany;have:(1000000:Int)<=(sizeLine:Int):=by decide
   exact decide_eq_false (by lia)
  wp_walk using wpAny_loadPart' hl
  try simp only [g1,Bool.false_eq_true,if_false]
  wp_walk using wpAny_loadPart' hl
  try simp only [g2,Bool.false_eq_true,if_false]
  wp_walk using wpAny_loadPart' hl
  try simp only [g3,Bool.false_eq_true,if_false]
  wp_walk using wpAny_loadPart' hl
  rw [if_neg hm2];simp only [hm3,Bool.false_eq_true,if_false];unfold Builtin.Tuple.tupleExact;have hlen:((List.replicate x.toNat items).foldl (·++·) #[]).toList.length<=sizeLine:=by
   have e:∀(k:Nat) (acc:Array Value),((List.replicate k items).foldl (·++·) acc).size=acc.size+k*items.size:=by
    intro k
    induction k with
    |zero=>intro acc;simp
    |succ k ih=>intro acc;rw [List.replicate_succ,List.foldl_cons,ih,Array.size_append,Nat.succ_mul];lia
   rw [Array.length_toList,e];have:x.toNat*items.size<=1000*1000:=Nat.mul_le_mul (by lia) hi
   have h2:(1000*1000:Nat)<=sizeLine:=by decide
   simp only [List.size_toArray,List.length_nil] at *;lia
  refine wpAny_bind (wpAny_newTuple (wpAny_pure ⟨_,rfl,?_⟩) hlen);simpa using h
theorem kC(l:Addr)(items:Array Value)(n:Nat)(dd:Option Addr)(sl:Array (Option Value))(u:Tok):
  Meets (Builtin.«tuple.__mul__» ⟨[.ref l,.int 1 u],[]⟩) (fun _ R s=>s.heap.get? l=some { cls:=.type "tuple",dict:=dd,data:=.seq items n,slots:=sl }/\R (.ok (.ret (.ref l))) s):=
 .of_wp fun prog w A R s h=>by
  obtain ⟨hp,g,d,tk,os⟩:=s;obtain ⟨hl,h⟩:=h;have f1:=AutoSeq1.idx_int;have f2:=AutoSeq1.sub_tuple_tuple;have g1:(decide ((1:Int) < -(2 ^ 63))||decide ((1:Int)>=2 ^ 63))=false:=by decide
  have g2:(items.isEmpty||(1:Int)==1)=true:=by simp
  wp_walk using wpAny_loadPart' hl
  try simp only [g1,Bool.false_eq_true,if_false]
  wp_walk using wpAny_loadPart' hl
  try simp only [g2,if_true]
  wp_walk using wpAny_loadPart' hl
  all_goals first|exact ⟨_,rfl,h⟩|skip
theorem ke(l:Addr)(items:Array Value)(n:Nat)(dd:Option Addr)(sl:Array (Option Value))(x:Int)(u:Tok)(hx:x<=0)(hx2:-1000<=x)(h0:items.isEmpty=false):
  Meets (Builtin.«tuple.__mul__» ⟨[.ref l,.int x u],[]⟩) (fun _ R s=>s.heap.get? l=some { cls:=.type "tuple",dict:=dd,data:=.seq items n,slots:=sl }/\
   R (.ok (.ret (.ref s.heap.objs.size))) { s with heap:=s.heap.push { cls:=.type "tuple",data:=.seq #[] } }):=
 .of_wp fun prog w A R s h=>by
  obtain ⟨hp,g,d,tk,os⟩:=s;obtain ⟨hl,h⟩:=h;have f1:=AutoSeq1.idx_int;have f2:=AutoSeq1.sub_tuple_tuple;have g1:(decide (x < -(2 ^ 63))||decide (x>=2 ^ 63))=false:=by simp;lia
  have g2:(items.isEmpty||x==1)=false:=by rw [h0];simp;lia
  have g3:(decide (x<=0)||items.isEmpty)=true:=by simp [hx]
  wp_walk using wpAny_loadPart' hl
  try simp only [g1,Bool.false_eq_true,if_false]
  wp_walk using wpAny_loadPart' hl
  try simp only [g2,Bool.false_eq_true,if_false]
  wp_walk using wpAny_loadPart' hl
  try simp only [g3,if_true]
  all_goals exact ⟨_,rfl,h⟩
section
variable {prog:Program}{w:World}{A:Around}{E:Value->Shared->Prop}{s:Shared}
theorem sF{l:Addr}{its:List Value}{k:Int}{u:Tok}{Q:Value->Shared->Prop}(ht:s.heap.IsTuple l its.toArray)(h0:its≠[])(hk0:0<=k)(hk:k<=1000)(hi:its.length<=1000)
  (h1:k=1->Q (.ref l) s) (h2:k≠1->Q (.ref s.heap.objs.size) { s with heap:=s.heap.push { cls:=.type "tuple",data:=.seq (List.replicate k.toNat its).flatten.toArray } }):
  wpAny (model prog w) A (binaryOp .Mult (.ref l) (.int k u)) Q E s:=by
 obtain ⟨⟨cls,dd,data,sl⟩,e,hc,n,hd⟩:=ht;simp only at hc hd;subst hc hd;have he:its.toArray.isEmpty=false:=by cases its with|nil=>exact absurd rfl h0|cons a r=>rfl
 refine wpAny_binaryOp_repeat_ref (T:="tuple") (U:="int") (by decide) ⟨_,e,rfl⟩ (fun s'=>typeIs_int s' k u) iN PySem.F.fills_int_mul PySem.F.slot_int_rmul lC PySem.F.slot_int_index.lookup
  (call_meets PySem.F.slot_int_rmul (typeIs_int s k u) PySem.F.entry_int_rmul (PySem.F.args_int_rmul_2 _ _) (kn k u l its.toArray n dd sl) ⟨e,rfl,⟨_,e,rfl⟩,?_⟩)
 by_cases hk1:k=1
 ·subst hk1
  exact call_meets PySem.F.slot_tuple_mul ⟨_,e,rfl⟩ PySem.F.entry_tuple_mul (PySem.F.args_tuple_mul_2 _ _) (kC l its.toArray n dd sl u) ⟨e,h1 rfl⟩
 ·have h2':=h2 hk1
  by_cases hk2:k<=0
  ·refine call_meets PySem.F.slot_tuple_mul ⟨_,e,rfl⟩ PySem.F.entry_tuple_mul (PySem.F.args_tuple_mul_2 _ _) (ke l its.toArray n dd sl k u hk2 (by lia) he) ⟨e,?_⟩
   have ek:k.toNat=0:=by lia
   rw [ek] at h2';exact h2'
  ·refine call_meets PySem.F.slot_tuple_mul ⟨_,e,rfl⟩ PySem.F.entry_tuple_mul (PySem.F.args_tuple_mul_2 _ _) (jB l its.toArray n dd sl k u (by lia) hk (by rw [List.size_toArray];exact hi) he) ⟨e,?_⟩
   have ef:∀(m:Nat) (acc:List Value),List.foldl (fun x1 x2=>x1++x2) acc.toArray (List.replicate m its.toArray)=(acc++(List.replicate m its).flatten).toArray:=by
    intro m
    induction m with
    |zero=>intro acc;simp
    |succ m ih=>
     intro acc;have e1:acc.toArray++its.toArray=(acc++its).toArray:=by simp
     rw [List.replicate_succ,List.foldl_cons,e1,ih,List.replicate_succ,List.flatten_cons,List.append_assoc]
   have e0:=ef k.toNat [];rw [List.nil_append] at e0;rw [e0];exact h2'
end
end L2
namespace L2
open PySem PySem.Spec PyProof.Rows
section
variable {X:Cx}
theorem vT:eg X (binaryOp .Add) (fun x y H Q=>∃a b ys,x=.ref a/\y=.ref b/\iB X.K H a []/\iB X.K H b ys/\Q (.ref b) H):=by
 intro pins s σ H x y v u Q I rx ry h;obtain ⟨a,b,ys,rfl,rfl,ha,hb,q⟩:=h;cases rx;cases ry;obtain ⟨its,r1,p1,_⟩:=I.tuple ha;obtain ⟨its2,r2,p2,_⟩:=I.tuple hb;obtain rfl:its=[]:=r1.zero;obtain ⟨⟨cls,dd,data,sl⟩,ho,hc,n,hd⟩:=id p1;obtain ⟨⟨cls2,dd2,data2,sl2⟩,ho2,hc2,n2,hd2⟩:=id p2;simp only at hc hd hc2 hd2;subst hc hd hc2 hd2
 exact concat_meets ⟨_,ho,rfl⟩ ⟨_,ho2,rfl⟩ noFill_tuple_add seq_tuple_add PySem.F.slot_tuple_add PySem.F.entry_tuple_add (PySem.F.args_tuple_add_2 _ _)
  (tuple_addW0 a b #[] its2.toArray n n2 dd dd2 sl sl2 rfl) ⟨ho,ho2,⟨.ref b,H,I,rfl,q⟩⟩
theorem tz{n:Nat}(hn:n.log2<2000)(hn0:0<n):eg X (binaryOp .FloorDiv) (rI (fun _ j=>j=(n:Int)) fun i j=>.int (i / j)):=opI fun i j _ _ _ _ _ hc q=>by
 subst hc;refine floordiv_int (by lia) ?_ (.inl (PyProof.noPylong_of_log2 (by simpa using Nat.lt_trans hn (by decide))))
 rw [Int.fdiv_eq_ediv_of_nonneg _ (by lia)]
 exact q
end
end L2
namespace Tw
open PySem L2
end Tw
namespace L2
open PySem PySem.Spec PyProof.Rows
section
variable {X:Cx}
end
end L2
namespace L2
open PySem PySem.Spec PyProof.Rows
theorem fM{h base:Heap}{S:List Addr}:∀{l:List Env},h.FunFrames base l->(∀b∈gf l,b∈S)->h.FunFrames (W.hideAll h S) l
 |[],_,_=>trivial
 |env::r,hl,hs=>by
  obtain ⟨hk,⟨L,o,hf,hn,ho,hd⟩,hr⟩:=hl;have hL:L∈S:=hs L (by unfold gf;rw [List.filterMap_cons,hf];exact List.mem_cons_self)
  exact ⟨hk,⟨L,o,hf,W.hideAll_none S hL,ho,hd⟩,fM hr fun b hb=>hs b (by unfold gf;rw [List.filterMap_cons,hf];exact List.mem_cons_of_mem _ hb)⟩
def oH(P:Program)(w:World)(C:Addr):ku:=fun outer H s E e s'=>∃(ea:Addr) (H':Hp) (B:Heap) (a0:Value),e=.ref ea/\s'.os=s.os/\AllBare s'.gens/\Un (gf outer) [] H H' s.heap s'.heap/\HOk P w H' s'.heap/\
 Heap.FlyingW B outer ea (.ref C) a0 s'.heap/\(∀b u,H' b=some u->∃o,B.get? b=some o)/\(∀b o,s.heap.get? b=some o->b∉gf outer->∃o',B.get? b=some o')/\E (.ref C) none H'
theorem m8{P:Program}{w:World}{H:Hp}{h h' B:Heap}(hok:HOk P w H h)(k:B.StaysIn h)(k':B.StaysIn h')(sT:∀b u,H b=some u->∃o,B.get? b=some o):HOk P w H h':=fun a o e=>
 (hok a o e).stay (fun b u hb q=>by
  obtain ⟨v,hv⟩:∃v,B.get? b=some v:=by
   rcases hb with rfl|z
   ·exact sT _ _ e
   ·exact sT _ _ z
  have:=k b v hv;rw [q] at this;cases this;exact k' b _ hv) (fun _ q=>q) fun _ _ q=>q
theorem pN{fs:List Addr}{H H':Hp}{h h1 h2 B:Heap}(un:Un fs [] H H' h h1)(k1:B.StaysIn h1)(k2:B.StaysIn h2)(up:h1.UpToSlots h2)(sA:∀b o,h.get? b=some o->b∉fs->∃o',B.get? b=some o')
  (nf:∀b∈fs,∀o,h.get? b=some o->∀vs,o.data≠.fields vs) (fr:∀b∈fs,H b=none):Un fs [] H H' h h2 where
 keep:=fun b o q n hb hx=>by
  have q1:=un.keep b o q n hb hx;obtain ⟨o',ho'⟩:=sA b o q hb;have:=k1 b o' ho';rw [q1] at this;cases this;exact k2 b _ ho'
 slot:=fun b o q n hb hx=>by
  obtain ⟨sl,q1⟩:=un.slot b o q n hb hx;obtain ⟨sl2,q2⟩:=up b _ q1 (nf b hb o q);exact ⟨sl2,q2⟩
 free:=un.free
 there:=fun b o q hx=>by
  by_cases hb:b∈fs
  ·obtain ⟨sl,q1⟩:=un.slot b o q (fr b hb) hb hx
   obtain ⟨sl2,q2⟩:=up b _ q1 (nf b hb o q);exact ⟨_,q2⟩
  ·obtain ⟨o',ho'⟩:=sA b o q hb
   exact ⟨o',k2 b o' ho'⟩
 tups:=un.tups
 frzs:=un.frzs
 tbls:=un.tbls
section
variable {P:Program}{w:World}{K:W.Frag}{mg:Str->Option Value}{base:Heap}{N:List Str}{qual:Str}{scope:Scope}{f C:Addr}{cd:Value}{A:Around}{outer:List Env}{s0:Shared}{H0:Hp}{E:XK}
theorem oA{env:Env}{L:Addr}{l:List Env}(h:env.frame=some L):gf (env::l)=L::gf l:=by unfold gf;rw [List.filterMap_cons,h]
theorem Dc:gF (oH P w C) (fb (oH P w C) P w K mg base N qual scope f cd A outer s0 H0 E) E:=by
 intro pins σ H s e s' I hx;obtain ⟨ea,H',B,a0,rfl,hos,hb,un,hok,hfl,sT,sA,hE⟩:=hx;have hsk:(fb (oH P w C) P w K mg base N qual scope f cd A outer s0 H0 E).stack=envOfC qual scope s0.heap.objs.size f cd::outer:=rfl;have hfr:(envOfC qual scope s0.heap.objs.size f cd).frame=some s0.heap.objs.size:=rfl;have hfs:gf (envOfC qual scope s0.heap.objs.size f cd::outer)=s0.heap.objs.size::gf outer:=oA hfr;rw [hsk] at un hfl sA;show wpAny (model P w) (A.deeper (envOfC qual scope s0.heap.objs.size f cd)) (leaving (envOfC qual scope s0.heap.objs.size f cd) (.ref ea)) (fun _ s''=>oH P w C outer H0 s0 E (.ref ea) s'') (fun e' s''=>oH P w C outer H0 s0 E e' s'') s';refine wpAny_leaves_onW I.ok.frames hfr hfl fun h' hfl' hup=>?_;have u1:Un (gf outer) [] H0 H s0.heap s.heap:=I.base;have nofr:∀{b:Addr} {o:Obj},s0.heap.get? b=some o->b∉gf outer->b∉gf (envOfC qual scope s0.heap.objs.size f cd::outer):=fun {b o} q hb z=>by
  rw [hfs] at z;rcases List.mem_cons.mp z with e|z
  ·exact Nat.lt_irrefl _ (e▸Heap.lt_size q)
  ·exact hb z
 have un2:Un (gf (envOfC qual scope s0.heap.objs.size f cd::outer)) [] H H' s.heap h':=by
  refine pN un hfl.1 hfl'.1 hup sA (fun b hb o q vs=>?_) fun b hb=>?_
  ·obtain ⟨_,o',ho',hd⟩:=I.stack.mem (show b∈_ from hb)
   rw [q] at ho';cases ho';exact hd vs
  ·exact I.stkFree b hb
 refine ⟨ea,H',B,a0,rfl,hos.trans I.os,hb,?_,m8 hok hfl.1 hfl'.1 sT,hfl',sT,fun b o q hb=>?_,hE⟩
 ·refine ⟨fun b o q n hb hx=>?_,fun b o q n hb hx=>?_,fun b o q n hx=>?_,fun b o q hx=>?_,fun b xs q=>un2.tups b xs (u1.tups b xs q),fun b o u q=>un2.frzs b o u (u1.frzs b o u q),fun b ps q=>?_⟩
  ·exact un2.keep b o (u1.keep b o q n hb hx) (u1.free b o q n hx) (nofr q hb) hx
  ·obtain ⟨sl,q1⟩:=u1.slot b o q n hb hx
   obtain ⟨sl2,q2⟩:=un2.slot b _ q1 (u1.free b o q n hx) (by rw [hfs];exact List.mem_cons_of_mem _ hb) hx
   exact ⟨sl2,q2⟩
  ·obtain ⟨o1,q1⟩:=u1.there b o q hx
   exact un2.free b o1 q1 (u1.free b o q n hx) hx
  ·obtain ⟨o1,q1⟩:=u1.there b o q hx
   exact un2.there b o1 q1 hx
  ·obtain ⟨m1,e1⟩:=u1.tbls b ps q
   obtain ⟨m2,e2⟩:=un2.tbls b _ e1;exact ⟨m1++m2,by rw [e2,Array.append_assoc]⟩
 ·obtain ⟨o1,q1⟩:=u1.there b o q (by simp)
  exact sA b o1 q1 (nofr q hb)
structure ExcAt(K:W.Frag)(C:Addr):Prop where
 at_:∃(nm q:Str) (Nn:Addr) (bs bm bmB:List Value) (hdct:Bool) (sn:List Str) (sub:List Value) (ab:Bool) (col:Option Bool) (dd:Option Addr) (k0 k1 k2 k3 k5:Option Value) (newId initId Bs:String) (mN:Str->Option Value),
  (∀h:Heap,K.In h->h.get? C=some (excClassObj nm q C Nn bs bm hdct sn sub ab col dd k0 k1 k2 k3 k5 newId)/\h.Ns Nn mN/\OwnTail h bmB bm)/\mN "__init__"=none/\ExcBaseFacts Bs newId initId bmB/\bmB.contains (.type Bs)=true/\bm.contains (.type "BaseException")=true
theorem ObjOk.obj{P:Program}{w:World}{H:Hp}{h:Heap}{a:Addr}{o:HO}(x:ObjOk P w H h a o):∃v,h.get? a=some v:=by
 cases o with
 |lst xs=>obtain ⟨_,_,_,_,e⟩:=x;exact ⟨_,e⟩
 |tup xs=>obtain ⟨_,_,_,_,e,_⟩:=x;exact ⟨_,e⟩
 |dK kvs=>obtain ⟨_,_,_,_,o,_,_,e,_⟩:=x;exact ⟨_,e⟩
 |dT kvs=>obtain ⟨_,_,_,_,o,_,_,e,_⟩:=x;exact ⟨_,e⟩
 |set S n=>obtain ⟨o,_,_,_,e,_⟩:=x;exact ⟨_,e⟩
 |ins C dx fs=>obtain ⟨_,_,_,e,_⟩:=x;exact ⟨_,e⟩
 |own y=>obtain ⟨_,e⟩:=x;exact ⟨_,e⟩
 |xd fs=>obtain ⟨_,⟨_,_,_,e,_⟩,_⟩:=x;exact ⟨_,e⟩
 |rng lo hi=>obtain ⟨_,_,_,e⟩:=x;exact ⟨_,e⟩
 |frz ob u=>obtain ⟨e,_⟩:=x;exact ⟨_,e⟩
 |tbl ps=>exact ⟨_,(show h.get? a=some _ from x)⟩
 |met f y=>exact ⟨_,(show h.get? a=some _ from x)⟩
 |ext φ=>obtain ⟨_,⟨_,e⟩,_⟩:=x;exact ⟨_,e⟩
theorem yP{fs:List Addr}{L:Addr}{H0 H H':Hp}{h0 h h':Heap}(u1:Un fs [] H0 H h0 h)(un2:Un (L::fs) [] H H' h h')(hL:h0.objs.size<=L):Un fs [] H0 H' h0 h':=by
 have nofr:∀{b:Addr} {o:Obj},h0.get? b=some o->b∉fs->b∉L::fs:=fun {b o} q hb z=>by
  rcases List.mem_cons.mp z with e|z
  ·exact Nat.lt_irrefl _ (Nat.lt_of_lt_of_le (e▸Heap.lt_size q) hL)
  ·exact hb z
 refine ⟨fun b o q n hb hx=>un2.keep b o (u1.keep b o q n hb hx) (u1.free b o q n hx) (nofr q hb) hx,fun b o q n hb hx=>?_,fun b o q n hx=>?_,fun b o q hx=>?_,fun b xs q=>un2.tups b xs (u1.tups b xs q),fun b o u q=>un2.frzs b o u (u1.frzs b o u q),fun b ps q=>?_⟩
 ·obtain ⟨sl,q1⟩:=u1.slot b o q n hb hx
  obtain ⟨sl2,q2⟩:=un2.slot b _ q1 (u1.free b o q n hx) (List.mem_cons_of_mem _ hb) hx;exact ⟨sl2,q2⟩
 ·obtain ⟨o1,q1⟩:=u1.there b o q hx
  exact un2.free b o1 q1 (u1.free b o q n hx) hx
 ·obtain ⟨o1,q1⟩:=u1.there b o q hx
  exact un2.there b o1 q1 hx
 ·obtain ⟨m1,e1⟩:=u1.tbls b ps q
  obtain ⟨m2,e2⟩:=un2.tbls b _ e1;exact ⟨m1++m2,by rw [e2,Array.append_assoc]⟩
def pW(E:XK)(C:Addr):TS:=fun _ _ H=>E (.ref C) none H
theorem u6{x msg:Str}{np cpos pos apos:Pos}{jj}(X:ExcAt K C)(hm:mg x=some (.ref C))(hg:Gl (fb (oH P w C) P w K mg base N qual scope f cd A outer s0 H0 E) x)
  (hd:(x==("__debug__":Str))=false:=by decide)
  (hs:starEach [.Constant (.str msg) jj apos] (fb (oH P w C) P w K mg base N qual scope f cd A outer s0 H0 E).env=[(false,eval (.Constant (.str msg) jj apos) (fb (oH P w C) P w K mg base N qual scope f cd A outer s0 H0 E).env)]:=by rfl):
  PS (fb (oH P w C) P w K mg base N qual scope f cd A outer s0 H0 E) (.Raise (some (.Call (.Name x np) [.Constant (.str msg) jj apos] [] cpos)) none pos) (pW E C):=by
 intro pins s σ H D I h;obtain ⟨nm,q,Nn,bs,bm,bmB,hdct,sn,sub,ab,col,dd,k0,k1,k2,k3,k5,newId,initId,Bs,mN,hX,hni,FB,hBs,hbase⟩:=X.at_
 refine wpAny_Raise_call_subU (C:=C) (nm:=nm) (q:=q) (N:=Nn) (bs:=bs) (bm:=bm) (hdct:=hdct) (sn:=sn) (sub:=sub) (ab:=ab) (col:=col) (dd:=dd) (k0:=k0) (k1:=k1) (k2:=k2) (k3:=k3) (k5:=k5) FB hBs FB (mN:=mN) hbase (I.ok.hd rfl) (by rw [hs];rfl) hni
  (gi I hg hm ⟨rfl,?_⟩ hd)
 have hA:=(my uN pL hs) cpos pins s σ H (fun xs H1=>xs.length=1/\E (.ref C) none H1) I ⟨rfl,h⟩;rw [hs] at hA ⊢;refine Calls.evalArgs_plain (wpAny_mono hA (fun vs s₂ h₂=>?_) fun _ _ y=>y);obtain ⟨vv,H1,I1,r,hlen,hE⟩:=h₂;obtain ⟨hC,hN,T⟩:=hX s₂.heap I1.kIn;refine ⟨rfl,?_,hC,hN,T,fun h' e hx=>?_⟩
 ·show vs.length<=sizeLine
  rw [<- r.length,hlen]
  decide
 have hfr:(envOfC qual scope s0.heap.objs.size f cd).frame=some s0.heap.objs.size:=rfl;have hfs:gf (envOfC qual scope s0.heap.objs.size f cd::outer)=s0.heap.objs.size::gf outer:=oA hfr;have kB:(W.hideAll s₂.heap (gf (envOfC qual scope s0.heap.objs.size f cd::outer))).StaysIn s₂.heap:=fun b o e=>W.of_hideAll _ e;show wpAny (model P w) (A.deeper (envOfC qual scope s0.heap.objs.size f cd)) (leaving (envOfC qual scope s0.heap.objs.size f cd) (.ref e)) (fun _ s''=>oH P w C outer H0 s0 E (.ref e) s'') (fun e' s''=>oH P w C outer H0 s0 E e' s'') _;refine wpAny_leaves_madeW I1.ok.frames hfr kB (fM I1.stack fun b hb=>hb) hx fun h'' t hfl _ _ hup=>?_;have up2:s₂.heap.UpToSlots h'':=(Heap.UpToSlots.of_keeps hx.keeps).trans hup;have inB:∀{b:Addr} {o:Obj},s₂.heap.get? b=some o->b∉gf (envOfC qual scope s0.heap.objs.size f cd::outer)->(W.hideAll s₂.heap (gf (envOfC qual scope s0.heap.objs.size f cd::outer))).get? b=some o:=fun e n=>W.hideAll_get _ e n;have sT:∀b u,H1 b=some u->∃o,(W.hideAll s₂.heap (gf (envOfC qual scope s0.heap.objs.size f cd::outer))).get? b=some o:=fun b u e=>by
  obtain ⟨v,hv⟩:=ObjOk.obj (I1.hok b u e);exact ⟨v,inB hv fun z=>by rw [I1.stkFree b z] at e;cases e⟩
 have un2:Un (gf (envOfC qual scope s0.heap.objs.size f cd::outer)) [] H1 H1 s₂.heap h'':=by
  refine pN Un.refl kB hfl.1 up2 (fun b o q hb=>⟨o,inB q hb⟩) (fun b hb o q vs=>?_) fun b hb=>I1.stkFree b hb;obtain ⟨_,o',ho',hd'⟩:=I1.stack.mem (show b∈_ from hb);rw [q] at ho';cases ho';exact hd' vs
 rw [hfs] at un2;refine ⟨e,H1,_,.ref t,rfl,I1.os,I1.bare,yP I1.base un2 (Nat.le_refl _),m8 I1.hok kB hfl.1 sT,hfl,sT,fun b o q hb=>?_,hE⟩;obtain ⟨o1,q1⟩:=I1.base.there b o q (fun z=>absurd (show b∈([]:List Addr) from z) (by simp))
 refine ⟨o1,inB q1 fun z=>?_⟩;rw [hfs] at z;rcases List.mem_cons.mp z with e'|z
 ·exact Nat.lt_irrefl _ (e'▸Heap.lt_size q)
 ·exact hb z
end
abbrev Cx.marked(X:Cx)(e:Value):Cx:={ X with A:=X.A.mark (some e),calm:=false,xe:=fun _ _=>False }
section
variable {X:Cx}{pins:List (Addr×Obj)}{σ:St}{H:Hp}{s:Shared}{e:Value}
theorem Cx.Ok.mark(ok:X.Ok)(e:Value):(X.marked e).Ok:=
 ⟨ok.mod,ok.kind,ok.glob,ok.blt,ok.above,ok.inj,ok.has,ok.cab,fun z=>(Bool.noConfusion z),ok.frames,ok.stk,ok.exf,ok.bs,ok.bsz,ok.noex,ok.exfs,ok.funs,ok.frf⟩
theorem Inv.mark(I:Inv X pins σ H s)(e:Value):Inv (X.marked e) pins σ H s:=⟨I.ok.mark e,I.os,I.bare,I.base,I.loc,I.cell,I.free,I.freeC,I.pin,I.hok,I.len⟩
theorem Inv.unmark(ok:X.Ok)(I:Inv (X.marked e) pins σ H s):Inv X pins σ H s:=⟨ok,I.os,I.bare,I.base,I.loc,I.cell,I.free,I.freeC,I.pin,I.hok,I.len⟩
end
end L2
namespace L3
open PySem L2
inductive D where
 |non|bl (b:Bool)|int (i:Int)|str (x:Str)|ty (n:String)|ref (a:Addr)|tup (xs:List D)|lst (xs:List D)|mt (xs:List D)|ml (xs:List D)
def TpD(_:W.Frag)(H:Hp)(p:Addr)(vs:List V):Prop:=H p=some (.tup vs)
def TpM(K:W.Frag)(p:Addr)(vs:List V):Prop:=∃(o:Obj) (its:Array Value) (n:Nat),K.lookup p=some o/\o.cls=.type "tuple"/\o.data=.seq its n/\its.size<=sizeLine/\Vals vs its.toList
def FzD(K:W.Frag)(H:Hp)(p:Addr)(vs:List V):Prop:=
 ∃o,H p=some (.frz o (.lst vs))
def FzK(K:W.Frag)(H:Hp)(p:Addr)(vs:List V):Prop:=(∃o,H p=some (.frz o (.lst vs)))\/∃(o:Obj) (its:Array Value) (n:Nat),K.lookup p=some o/\o.cls=.type "list"/\o.dict=none/\o.data=.seq its n/\its.size<=sizeLine/\Vals vs its.toList
theorem FzK.sq{K:W.Frag}{H:Hp}{p:Addr}{vs:List V}(h:FzK K H p vs):SqL K H p vs:=h.imp (fun ⟨o,e⟩=>.inr ⟨o,e⟩) fun x=>x
theorem TpD.sq{K:W.Frag}{H:Hp}{p:Addr}{vs:List V}(h:TpD K H p vs):iB K H p vs:=.inl (.inl h)
theorem TpM.sq{K:W.Frag}{H:Hp}{p:Addr}{vs:List V}(h:TpM K p vs):iB K H p vs:=.inr h
theorem FzD.sq{K:W.Frag}{H:Hp}{p:Addr}{vs:List V}(h:FzD K H p vs):SqL K H p vs:=by
 obtain ⟨o,h⟩:=h;exact .inl (.inr ⟨o,h⟩)
mutual
def Rp(K:W.Frag)(H:Hp):D->V->Prop
 |.non,v=>v=.non
 |.bl b,v=>v=.bl b
 |.int i,v=>v=.int i
 |.str x,v=>v=.str x
 |.ty n,v=>v=.ty n
 |.ref a,v=>v=.ref a
 |.tup xs,v=>∃p vs,v=.ref p/\TpD K H p vs/\Rps K H xs vs
 |.lst xs,v=>∃p vs,v=.ref p/\FzD K H p vs/\Rps K H xs vs
 |.mt xs,v=>∃p vs,v=.ref p/\TpM K p vs/\Rps K H xs vs
 |.ml xs,v=>∃p vs,v=.ref p/\FzK K H p vs/\Rps K H xs vs
def Rps(K:W.Frag)(H:Hp):List D->List V->Prop
 |[],vs=>vs=[]
 |x::xs,vs=>∃v r,vs=v::r/\Rp K H x v/\Rps K H xs r
end
structure Imm(H H':Hp):Prop where
 tup:∀p vs,H p=some (.tup vs)->H' p=some (.tup vs)
 frz:∀p o u,H p=some (.frz o u)->H' p=some (.frz o u)
theorem Imm.refl{H:Hp}:Imm H H:=⟨fun _ _ e=>e,fun _ _ _ e=>e⟩
theorem TpD.mono{K:W.Frag}{H H':Hp}{p:Addr}{vs:List V}(i:Imm H H')(h:TpD K H p vs):TpD K H' p vs:=i.tup _ _ h
theorem FzK.mono{K:W.Frag}{H H':Hp}{p:Addr}{vs:List V}(i:Imm H H')(h:FzK K H p vs):FzK K H' p vs:=h.imp (fun ⟨o,e⟩=>⟨o,i.frz _ _ _ e⟩) fun x=>x
theorem FzD.mono{K:W.Frag}{H H':Hp}{p:Addr}{vs:List V}(i:Imm H H')(h:FzD K H p vs):FzD K H' p vs:=let ⟨o,e⟩:=h;⟨o,i.frz _ _ _ e⟩
mutual
theorem Rp.mono{K:W.Frag}{H H':Hp}(i:Imm H H'):∀{d:D} {v:V},Rp K H d v->Rp K H' d v
 |.non,_,h=>h
 |.bl _,_,h=>h
 |.int _,_,h=>h
 |.str _,_,h=>h
 |.ty _,_,h=>h
 |.ref _,_,h=>h
 |.tup _,_,h=>by
  obtain ⟨p,vs,e,t,r⟩:=h;exact ⟨p,vs,e,t.mono i,Rps.mono i r⟩
 |.lst _,_,h=>by
  obtain ⟨p,vs,e,t,r⟩:=h;exact ⟨p,vs,e,t.mono i,Rps.mono i r⟩
 |.mt _,_,h=>by
  obtain ⟨p,vs,e,t,r⟩:=h;exact ⟨p,vs,e,t,Rps.mono i r⟩
 |.ml _,_,h=>by
  obtain ⟨p,vs,e,t,r⟩:=h;exact ⟨p,vs,e,t.mono i,Rps.mono i r⟩
theorem Rps.mono{K:W.Frag}{H H':Hp}(i:Imm H H'):∀{ds:List D} {vs:List V},Rps K H ds vs->Rps K H' ds vs
 |[],_,h=>h
 |_::_,_,h=>by
  obtain ⟨v,r,e,a,b⟩:=h;exact ⟨v,r,e,Rp.mono i a,Rps.mono i b⟩
end
section
variable {K:W.Frag}{H H':Hp}
theorem Rps.nil:Rps K H [] []:=rfl
theorem Rps.cons{d:D}{v:V}{ds:List D}{vs:List V}(a:Rp K H d v)(b:Rps K H ds vs):Rps K H (d::ds) (v::vs):=⟨v,vs,rfl,a,b⟩
theorem Rps.length:∀{ds:List D} {vs:List V},Rps K H ds vs->ds.length=vs.length
 |[],_,h=>by cases h;rfl
 |_::_,_,h=>by obtain ⟨v,r,rfl,_,b⟩:=h;simp [b.length]
theorem Rps.get:∀{ds:List D} {vs:List V},Rps K H ds vs->∀{i:Nat} {d:D},ds[i]?=some d->∃v,vs[i]?=some v/\Rp K H d v
 |[],_,_,i,d,e=>by simp at e
 |x::xs,_,h,i,d,e=>by
  obtain ⟨v,r,rfl,a,b⟩:=h;cases i with
  |zero=>simp at e;subst e;exact ⟨v,by simp,a⟩
  |succ i=>simpa using b.get (by simpa using e)
theorem Rps.append:∀{ds es:List D} {vs ws:List V},Rps K H ds vs->Rps K H es ws->Rps K H (ds++es) (vs++ws)
 |[],_,_,_,h,g=>by cases h;exact g
 |_::_,_,_,_,h,g=>by
  obtain ⟨v,r,rfl,a,b⟩:=h;exact ⟨v,_,rfl,a,b.append g⟩
theorem Rps.take:∀{ds:List D} {vs:List V} (n:Nat),Rps K H ds vs->Rps K H (ds.take n) (vs.take n)
 |[],_,n,h=>by cases h;simp [Rps]
 |_::_,_,0,h=>rfl
 |_::_,_,n+1,h=>by
  obtain ⟨v,r,rfl,a,b⟩:=h;exact ⟨v,_,rfl,a,b.take n⟩
theorem Rps.drop:∀{ds:List D} {vs:List V} (n:Nat),Rps K H ds vs->Rps K H (ds.drop n) (vs.drop n)
 |[],_,n,h=>by cases h;simp [Rps]
 |_::_,_,0,h=>h
 |_::_,_,n+1,h=>by
  obtain ⟨v,r,rfl,a,b⟩:=h;exact b.drop n
theorem Rps.set{d:D}{v:V}(a:Rp K H d v):∀{ds:List D} {vs:List V} (i:Nat),Rps K H ds vs->Rps K H (ds.set i d) (vs.set i v)
 |[],_,_,h=>by cases h;rfl
 |_::_,_,0,h=>by obtain ⟨w,r,rfl,_,b⟩:=h;exact ⟨v,r,rfl,a,b⟩
 |_::_,_,i+1,h=>by obtain ⟨w,r,rfl,c,b⟩:=h;exact ⟨w,_,rfl,c,b.set a i⟩
theorem Rps.reverse:∀{ds:List D} {vs:List V},Rps K H ds vs->Rps K H ds.reverse vs.reverse
 |[],_,h=>by cases h;rfl
 |_::_,_,h=>by
  obtain ⟨v,r,rfl,a,b⟩:=h;simp only [List.reverse_cons];exact b.reverse.append (.cons a .nil)
theorem Rps.dropLast{ds:List D}{vs:List V}(h:Rps K H ds vs):Rps K H ds.dropLast vs.dropLast:=by
 rw [List.dropLast_eq_take,List.dropLast_eq_take,h.length];exact h.take _
theorem Rps.eraseIdx:∀{ds:List D} {vs:List V} (i:Nat),Rps K H ds vs->Rps K H (ds.eraseIdx i) (vs.eraseIdx i)
 |[],_,_,h=>by cases h;rfl
 |_::_,_,0,h=>by obtain ⟨w,r,rfl,_,b⟩:=h;exact b
 |_::_,_,i+1,h=>by obtain ⟨w,r,rfl,c,b⟩:=h;exact ⟨w,_,rfl,c,b.eraseIdx i⟩
theorem oD:∀{is:List Int} {vs:List V},vs=is.map V.int->Rps K H (is.map D.int) vs
 |[],_,e=>e
 |i::is,_,e=>by subst e;exact ⟨_,_,rfl,rfl,oD rfl⟩
end
inductive MO where
 |lst (xs:List D)
 |dK (kvs:List (di×D))
 |dT (kvs:List (List di×D))
 |ins (C:Addr) (fs:List (Str×D))
abbrev Mem:=Addr->Option MO
def Mem.upd(M:Mem)(a:Addr)(o:MO):Mem:=fun b=>if b=a then some o else M b
def Mem.del(M:Mem)(a:Addr):Mem:=fun b=>if b=a then none else M b
def Rkv{κ:Type}(K:W.Frag)(H:Hp):List (κ×D)->List (κ×V)->Prop:=Paired fun p q=>p.1=q.1/\Rp K H p.2 q.2
def RepO(K:W.Frag)(H:Hp)(a:Addr):MO->Prop
 |.lst xs=>∃vs,H a=some (.lst vs)/\Rps K H xs vs
 |.dK kvs=>∃ws,H a=some (.dK ws)/\Rkv K H kvs ws
 |.dT kvs=>∃ws,H a=some (.dT ws)/\Rkv K H kvs ws
 |.ins C fs=>∃dx ws,H a=some (.ins C dx ws)/\Rkv K H fs ws
def RepH(K:W.Frag)(H:Hp)(M:Mem):Prop:=∀a o,M a=some o->RepO K H a o
section
variable {K:W.Frag}{H H':Hp}{M:Mem}{a b:Addr}{o:MO}{u:HO}
@[simp] theorem Mem.upd_same:(M.upd a o) a=some o:=by simp [Mem.upd]
theorem ar(h:b≠a):(M.upd a o) b=M b:=by simp [Mem.upd,h]
@[simp] theorem Mem.upd_upd {o':MO}:(M.upd a o).upd a o'=M.upd a o':=by funext c;simp [Mem.upd];split<;>rfl
@[simp] theorem Mem.upd_del:(M.upd a o).del a=M.del a:=by funext c;simp [Mem.upd,Mem.del];split<;>rfl
theorem aW(h:M a=none):M.del a=M:=by
 funext c;simp only [Mem.del];split
 ·rename_i e;rw [e,h]
 ·rfl
theorem Mem.ne{o:MO}(h:M a=some o)(h':M b=none):a≠b:=by intro e;subst e;rw [h] at h';cases h'
theorem Rkv.mono{κ:Type}{kvs:List (κ×D)}{ws:List (κ×V)}(i:Imm H H')(h:Rkv K H kvs ws):Rkv K H' kvs ws:=eO h fun _ _ z=>⟨z.1,z.2.mono i⟩
theorem RepO.obj(r:RepO K H a o):∃u,H a=some u:=by
 cases o with
 |lst xs=>obtain ⟨vs,e,_⟩:=r;exact ⟨_,e⟩
 |dK xs=>obtain ⟨vs,e,_⟩:=r;exact ⟨_,e⟩
 |dT xs=>obtain ⟨vs,e,_⟩:=r;exact ⟨_,e⟩
 |ins C fs=>obtain ⟨dx,vs,e,_⟩:=r;exact ⟨_,e⟩
theorem RepO.keep(r:RepO K H a o)(i:Imm H H')(e:H' a=H a):RepO K H' a o:=by
 cases o with
 |lst xs=>obtain ⟨vs,q,z⟩:=r;exact ⟨vs,e.trans q,z.mono i⟩
 |dK xs=>obtain ⟨vs,q,z⟩:=r;exact ⟨vs,e.trans q,z.mono i⟩
 |dT xs=>obtain ⟨vs,q,z⟩:=r;exact ⟨vs,e.trans q,z.mono i⟩
 |ins C fs=>obtain ⟨dx,vs,q,z⟩:=r;exact ⟨dx,vs,e.trans q,z.mono i⟩
theorem RepH.fresh(r:RepH K H M)(h:H a=none):M a=none:=by
 cases e:M a with
 |none=>rfl
 |some o=>obtain ⟨u,q⟩:=(r a o e).obj;rw [h] at q;cases q
def qF:Option HO->Prop
 |some (.tup _)=>False
 |some (.frz _ _)=>False
 |_=>True
theorem Imm.upd(h:qF (H a)):Imm H (upd H a u):=by
 refine ⟨fun p vs e=>?_,fun p o v e=>?_⟩
 ·rw [bf];exact e
  rintro rfl;rw [e] at h;exact h
 ·rw [bf];exact e
  rintro rfl;rw [e] at h;exact h
theorem Imm.new(h:H a=none):Imm H (L2.upd H a u):=Imm.upd (by rw [h];trivial)
theorem RepO.loose(r:RepO K H a o):qF (H a):=by
 cases o with
 |lst xs=>obtain ⟨vs,e,_⟩:=r;rw [e];trivial
 |dK xs=>obtain ⟨vs,e,_⟩:=r;rw [e];trivial
 |dT xs=>obtain ⟨vs,e,_⟩:=r;rw [e];trivial
 |ins C fs=>obtain ⟨dx,vs,e,_⟩:=r;rw [e];trivial
theorem RepH.new(r:RepH K H M)(h:H a=none):RepH K (L2.upd H a u) M:=fun b o e=>by
 obtain ⟨v,q⟩:=(r b o e).obj;exact (r b o e).keep (Imm.new h) (bf (bO q h))
theorem RepH.put(r:RepH K H M)(h:qF (H a))(n:RepO K (L2.upd H a u) a o):RepH K (L2.upd H a u) (M.upd a o):=fun b p e=>by
 by_cases hb:b=a
 ·subst hb;rw [Mem.upd_same] at e;cases e;exact n
 ·rw [ar hb] at e
  exact (r b p e).keep (Imm.upd h) (bf hb)
theorem RepH.keep(r:RepH K H M)(i:Imm H H')(e:∀b o,M b=some o->H' b=H b):RepH K H' M:=fun b o q=>(r b o q).keep i (e b o q)
structure Frm(M:Mem)(H:Hp)(M':Mem)(H':Hp):Prop where
 keep:∀b u,H b=some u->M b=none->H' b=some u/\M' b=none
variable {M':Mem}
theorem Frm.refl:Frm M H M H:=⟨fun _ _ e n=>⟨e,n⟩⟩
theorem Frm.trans{M1 M2:Mem}{H1 H2:Hp}(x:Frm M H M1 H1)(y:Frm M1 H1 M2 H2):Frm M H M2 H2:=⟨fun b u e n=>let ⟨e1,n1⟩:=x.keep b u e n;y.keep b u e1 n1⟩
theorem Frm.imm(f:Frm M H M' H')(r:RepH K H M):Imm H H':=by
 have key:∀b u,H b=some u->¬qF (some u)->H' b=some u:=fun b u e n=>(f.keep b u e (by
  cases q:M b with
  |none=>rfl
  |some o=>exact absurd (by rw [<- e];exact (r b o q).loose) n)).1
 exact ⟨fun p vs e=>key p _ e (fun z=>z),fun p o u e=>key p _ e (fun z=>z)⟩
theorem Frm.new(h:H a=none):Frm M H M (L2.upd H a u):=⟨fun b v e n=>⟨by rw [bf (bO e h)];exact e,n⟩⟩
theorem Frm.put(h:H a=none\/∃o,M a=some o):Frm M H (M.upd a o) (L2.upd H a u):=⟨fun b v e n=>by
 have hb:b≠a:=by
  rintro rfl
  rcases h with h|⟨o,h⟩
  ·rw [h] at e;cases e
  ·rw [h] at n;cases n
 exact ⟨by rw [L2.bf hb];exact e,by rw [ar hb];exact n⟩⟩
theorem Frm.del(h:∃o,M a=some o):Frm M H (M.del a) (L2.upd H a u):=⟨fun b v e n=>by
 have hb:b≠a:=by
  rintro rfl
  obtain ⟨o,h⟩:=h;rw [h] at n;cases n
 refine ⟨by rw [L2.bf hb];exact e,?_⟩
 unfold Mem.del;rw [if_neg hb];exact n⟩
theorem Rp.mf{d:D}{v:V}(x:Rp K H d v)(r:RepH K H M)(f:Frm M H M' H'):Rp K H' d v:=x.mono (f.imm r)
theorem Rps.mf{d:List D}{v:List V}(x:Rps K H d v)(r:RepH K H M)(f:Frm M H M' H'):Rps K H' d v:=x.mono (f.imm r)
end
end L3
namespace L3
open PySem L2
abbrev Dl:=List (Option D)
abbrev DK:=D->Mem->Prop
abbrev cj:=Dl->Mem->DK->Prop
abbrev gr:=Dl->Mem->(Bool->Mem->Prop)->Prop
abbrev gv:=Dl->Mem->(List D->Mem->Prop)->Prop
structure RepS(K:W.Frag)(H:Hp)(δ:Dl)(σ:St):Prop where
 len:δ.length=σ.length
 get:∀(i:Nat) (d:D),δ[i]?=some (some d)->∃v,σ[i]?=some (some v)/\Rp K H d v
theorem RepS.mono{K:W.Frag}{H H':Hp}{δ:Dl}{σ:St}(r:RepS K H δ σ)(i:Imm H H'):RepS K H' δ σ:=
 ⟨r.len,fun j d e=>by obtain ⟨v,h1,h2⟩:=r.get j d e;exact ⟨v,h1,h2.mono i⟩⟩
theorem RepS.set{K:W.Frag}{H:Hp}{δ:Dl}{σ:St}{i:Nat}{d:D}{v:V}(r:RepS K H δ σ)(h:Rp K H d v):RepS K H (δ.set i (some d)) (σ.set i (some v)):=by
 refine ⟨by simp [r.len],fun j e q=>?_⟩
 rw [List.getElem?_set] at q ⊢
 by_cases hij:i=j
 ·rw [if_pos hij] at q ⊢
  by_cases hl:i<δ.length
  ·rw [if_pos (by rw [<- r.len];exact hij▸hl)]
   rw [if_pos (hij▸hl)] at q;cases q;exact ⟨v,rfl,h⟩
  ·rw [if_neg (hij▸hl)] at q;cases q
 ·rw [if_neg hij] at q ⊢
  exact r.get j e q
structure Bd where
 p:Mem->Hp->Prop
 go:∀{M M':Mem} {H H':Hp},p M H->Frm M H M' H'->p M' H'
def Bd.of(M:Mem)(H:Hp):Bd:=⟨fun M' H'=>Frm M H M' H',fun a b=>a.trans b⟩
structure SR(X:Cx)(B:Bd)(δ:Dl)(M:Mem)(σ:St)(H:Hp):Prop where
 i0:B.p M H
 rh:RepH X.K H M
 rs:RepS X.K H δ σ
theorem SR.go{X:Cx}{B:Bd}{δ:Dl}{M M':Mem}{σ:St}{H H':Hp}(s:SR X B δ M σ H)(rh:RepH X.K H' M')(i:Frm M H M' H'):SR X B δ M' σ H':=⟨B.go s.i0 i,rh,s.rs.mono (i.imm s.rh)⟩
def Up(K:W.Frag)(M:Mem)(H:Hp)(QQ:DK)(Q:VK):Prop:=∀d M',QQ d M'->∀v H',RepH K H' M'->Frm M H M' H'->Rp K H' d v->Q v H'
def UpT(K:W.Frag)(M:Mem)(H:Hp)(QQ:Bool->Mem->Prop)(Q:Bool->Hp->Prop):Prop:=∀b M',QQ b M'->∀H',RepH K H' M'->Frm M H M' H'->Q b H'
def UpA(K:W.Frag)(M:Mem)(H:Hp)(QQ:List D->Mem->Prop)(Q:List V->Hp->Prop):Prop:=∀ds M',QQ ds M'->∀vs H',RepH K H' M'->Frm M H M' H'->Rps K H' ds vs->Q vs H'
theorem Up.go{K:W.Frag}{M M1:Mem}{H H1:Hp}{QQ:DK}{Q:VK}(u:Up K M H QQ Q)(i:Frm M H M1 H1):Up K M1 H1 QQ Q:=fun d M' q v H' a b c=>u d M' q v H' a (i.trans b) c
theorem UpT.go{K:W.Frag}{M M1:Mem}{H H1:Hp}{QQ:Bool->Mem->Prop}{Q:Bool->Hp->Prop}(u:UpT K M H QQ Q)(i:Frm M H M1 H1):UpT K M1 H1 QQ Q:=fun d M' q H' a b=>u d M' q H' a (i.trans b)
inductive liftE(X:Cx)(B:Bd)(T:cj)(σ:St)(H:Hp)(Q:VK):Prop
 |mk (δ:Dl) (M:Mem) (QQ:DK) (s:SR X B δ M σ H) (h:T δ M QQ) (u:Up X.K M H QQ Q):liftE X B T σ H Q
inductive liftT(X:Cx)(B:Bd)(T:gr)(σ:St)(H:Hp)(Q:Bool->Hp->Prop):Prop
 |mk (δ:Dl) (M:Mem) (QQ:Bool->Mem->Prop) (s:SR X B δ M σ H) (h:T δ M QQ) (u:UpT X.K M H QQ Q):liftT X B T σ H Q
inductive liftA(X:Cx)(B:Bd)(T:gv)(σ:St)(H:Hp)(Q:List V->Hp->Prop):Prop
 |mk (δ:Dl) (M:Mem) (QQ:List D->Mem->Prop) (s:SR X B δ M σ H) (h:T δ M QQ) (u:UpA X.K M H QQ Q):liftA X B T σ H Q
def DE(X:Cx)(B:Bd)(e:Expr)(T:cj):Prop:=PE X e (liftE X B T)
def DT(X:Cx)(B:Bd)(e:Expr)(T:gr):Prop:=PT X e (liftT X B T)
def DA(X:Cx)(B:Bd)(es:List Expr)(T:gv):Prop:=PA X es (liftA X B T)
theorem bP{X:Cx}{e:Expr}{t t':TE}(h:PE X e t)(w:∀σ H Q,t' σ H Q->t σ H Q):PE X e t':=fun pins s σ H Q I q=>h pins s σ H Q I (w σ H Q q)
theorem lu{X:Cx}{e:Expr}{t t':TT}(h:PT X e t)(w:∀σ H Q,t' σ H Q->t σ H Q):PT X e t':=fun pins s σ H Q I q=>h pins s σ H Q I (w σ H Q q)
theorem qH{X:Cx}{e:List Expr}{t t':TA}(h:PA X e t)(w:∀σ H Q,t' σ H Q->t σ H Q):PA X e t':=fun pos pins s σ H Q I q=>h pos pins s σ H Q I (w σ H Q q)
theorem eN{X:Cx}{e:Stmt}{t t':TS}(h:PS X e t)(w:∀D σ H,t' D σ H->t D σ H):PS X e t':=fun pins s σ H D I q=>h pins s σ H D I (w D σ H q)
theorem nE{X:Cx}{e:List Stmt}{t t':TS}(h:qC X e t)(w:∀D σ H,t' D σ H->t D σ H):qC X e t':=fun pins s σ H D I q=>h pins s σ H D I (w D σ H q)
def ae(i:Nat):cj:=fun δ M Q=>match δ[i]? with
 |some (some d)=>Q d M
 |_=>False
def dC(d:D):cj:=fun _ M Q=>Q d M
section
variable {X:Cx}{B:Bd}{a b c:Expr}{ta tb tc:cj}{pos:Pos}
theorem AQ{i:Nat}{x:Str}{pos:Pos}(hN:X.N[i]?=some x)(hv:Cj X.env.scope x)(hd:(x==("__debug__":Str))=false:=by decide)(hcd:(x==("__classdict__":Str))=false:=by decide):DE X B (.Name x pos) (ae i):=by
 refine bP (t_ hN hv hd hcd) ?_
 rintro σ H Q ⟨δ,M,QQ,s,h,u⟩
 unfold ae at h
 split at h
 ·rename_i d e
  obtain ⟨v,h1,h2⟩:=s.rs.get i d e;exact ⟨v,h1,u d M h v H s.rh Frm.refl h2⟩
 ·exact h.elim
theorem sv{e:Expr}{v:V}{d:D}(h:PE X e (tC v))(r:∀H,Rp X.K H d v):DE X B e (dC d):=by
 refine bP h ?_
 rintro σ H Q ⟨δ,M,QQ,s,h,u⟩
 exact u d M h v H s.rh Frm.refl (r H)
theorem ah{i j pos}:DE X B (.Constant (.int i) j pos) (dC (.int i)):=sv Aa fun _=>rfl
theorem gQ{i j pos}:DE X B (.Constant (.bool i) j pos) (dC (.bl i)):=sv Cg fun _=>rfl
theorem pM{j pos}:DE X B (.Constant .none j pos) (dC .non):=sv B4 fun _=>rfl
theorem aJ{i j pos}:DE X B (.Constant (.str i) j pos) (dC (.str i)):=sv uN fun _=>rfl
theorem dJ{x:Str}{v:V}{d:D}{u:Value}{pos:Pos}(hg:Gl X x)(hm:X.mg x=some u)(r:RelV v u)(q:∀H,Rp X.K H d v)(hd:(x==("__debug__":Str))=false:=by decide):DE X B (.Name x pos) (dC d):=sv (y_ hg hm r hd) q
abbrev iW:=D->D->Mem->DK->Prop
inductive liftR2(X:Cx)(r:iW)(x y:V)(H:Hp)(Q:VK):Prop
 |mk (d1 d2:D) (M:Mem) (QQ:DK) (rh:RepH X.K H M) (r1:Rp X.K H d1 x) (r2:Rp X.K H d2 y) (h:r d1 d2 M QQ) (u:Up X.K M H QQ Q):liftR2 X r x y H Q
def aA(r:iW)(ta tb:cj):cj:=fun δ M Q=>ta δ M fun x M1=>tb δ M1 fun y M2=>r x y M2 Q
theorem jf{r:iW}{σ:St}{H:Hp}{Q:VK}(h:liftE X B (aA r ta tb) σ H Q):Db (liftR2 X r) (liftE X B ta) (liftE X B tb) σ H Q:=by
 obtain ⟨δ,M,QQ,s,h,u⟩:=h;refine ⟨δ,M,_,s,h,fun x M1 h1 v1 H1 rh1 i1 r1=>?_⟩;refine ⟨δ,M1,_,s.go rh1 i1,h1,fun y M2 h2 v2 H2 rh2 i2 r2=>?_⟩;exact ⟨x,y,M2,QQ,rh2,r1.mf rh1 i2,r2,h2,u.go (i1.trans i2)⟩
theorem aP{op:Operator}{r:iW}(ho:eg X (binaryOp op) (liftR2 X r))(ha:DE X B a ta)(hb:DE X B b tb):DE X B (.BinOp a op b pos) (aA r ta tb):=bP (CU ho ha hb) fun _ _ _ h=>jf h
theorem iD{op:CmpOp}{r:iW}(ho:eg X (compareOp op) (liftR2 X r))(ha:DE X B a ta)(hb:DE X B b tb)(hm:behindInMarks op b=false):DE X B (.Compare a [op] [b] pos) (aA r ta tb):=bP (y2 ho ha hb hm) fun _ _ _ h=>jf h
theorem aI{r:iW}(hr:IxR X (liftR2 X r))(ha:DE X B a ta)(hb:DE X B b tb)(hs:qW b):DE X B (.Subscript a b pos) (aA r ta tb):=bP (CB hr ha hb hs) fun _ _ _ h=>jf h
def aB(t:cj):gr:=fun δ M Q=>t δ M fun d M'=>match d with
 |.bl k=>Q k M'
 |_=>False
theorem aO{op:CmpOp}{r:iW}(ho:eg X (compareOp op) (liftR2 X r))(ha:DE X B a ta)(hb:DE X B b tb)(hm:behindInMarks op b=false):DT X B (.Compare a [op] [b] pos) (aB (aA r ta tb)):=by
 refine lu (wD ho ha hb hm) ?_
 rintro σ H Q ⟨δ,M,QQ,s,h,u⟩
 have h':liftE X B (aA r ta tb) σ H (fun x H'=>∃k,x=.bl k/\Q k H'):=by
  refine ⟨δ,M,_,s,h,fun d M' q v H' rh i rp=>?_⟩;cases d with
  |bl k=>exact ⟨k,rp,u k M' q H' rh i⟩
  |_=>exact (show False from q).elim
 exact jf h'
def xY(M:Mem):D->Option Bool
 |.non=>some false
 |.bl b=>some b
 |.int i=>some (i != 0)
 |.str y=>if y.length<=sizeLine then some ((y.length:Int) != 0) else none
 |.tup xs=>some (!xs.isEmpty)
 |.lst xs=>some (!xs.isEmpty)
 |.ref a=>match M a with
  |some (.lst xs)=>some (!xs.isEmpty)
  |some (.dK xs)=>some (!xs.isEmpty)
  |_=>none
 |_=>none
def dM(t:cj):gr:=fun δ M Q=>t δ M fun d M'=>match xY M' d with
 |some k=>Q k M'
 |none=>False
theorem fU{K:W.Frag}{H:Hp}{ds:List D}{vs:List V}(r:Rps K H ds vs):vs.isEmpty=ds.isEmpty:=by
 have:=r.length;cases ds<;>cases vs<;>simp_all
theorem Ah{K:W.Frag}{H:Hp}{M:Mem}{d:D}{v:V}{k:Bool}(rh:RepH K H M)(r:Rp K H d v)(e:xY M d=some k):Bl K v H k:=by
 cases d with
 |non=>cases r;cases e;rfl
 |bl b=>cases r;cases e;rfl
 |int i=>cases r;cases e;rfl
 |str y=>
  cases r;simp only [xY] at e
  split at e
  ·cases e;exact ⟨by assumption,rfl⟩
  ·cases e
 |ty n=>cases e
 |tup xs=>
  obtain ⟨p,vs,rfl,t,r⟩:=r;cases e;exact .inr (.inl ⟨vs,t.sq,by rw [fU r]⟩)
 |mt xs=>cases e
 |ml xs=>cases e
 |lst xs=>
  obtain ⟨p,vs,rfl,t,r⟩:=r;cases e;exact .inl ⟨vs,t.sq,by rw [fU r]⟩
 |ref a=>
  cases r;simp only [xY] at e
  split at e
  ·rename_i xs q
   obtain ⟨vs,h1,h2⟩:=rh _ _ q;cases e;exact .inl ⟨vs,SqL.of h1,by rw [fU h2]⟩
  ·rename_i xs q
   obtain ⟨vs,h1,h2⟩:=rh _ _ q;cases e;refine .inr (.inr ⟨vs,h1,?_⟩);cases h2<;>rfl
  ·cases e
theorem dh{e:Expr}(h:DE X B e ta)(he:∀whole,isTrue e X.env whole=(do let v <- whole;standAt e.pos;holding [v] (truthy v)):=by intro _;rfl):DT X B e (dM ta):=by
 refine lu (uH h he) ?_
 rintro σ H Q ⟨δ,M,QQ,s,h,u⟩
 refine ⟨δ,M,_,s,h,fun d M' q v H' rh i rp=>?_⟩
 split at q
 ·rename_i k e
  exact ⟨k,Ah rh rp e,u k M' q H' rh i⟩
 ·exact q.elim
def gy(t:gr):gr:=fun δ M Q=>t δ M fun c M1=>Q (!c) M1
theorem fW{tA:gr}(ha:DT X B a tA):DT X B (.UnaryOp .Not a pos) (gy tA):=by
 refine lu (B7 ha) ?_
 rintro σ H Q ⟨δ,M,QQ,s,h,u⟩
 exact ⟨δ,M,_,s,h,fun c M' q H' rh i=>u _ M' q H' rh i⟩
end
end L3
namespace L3
open PySem L2
section
variable {X:Cx}{B:Bd}{a b c:Expr}{ta tb tc:cj}{tA tB':gr}{rest:List Expr}{pos:Pos}
def DW(X:Cx)(B:Bd)(e:Expr)(T:gr):Prop:=PW X e (liftT X B T)
theorem cK{e:Expr}{T:gr}(h:DW X B e T):DT X B e T:=Df h
theorem rJ{X:Cx}{e:Expr}{t t':TT}(h:PW X e t)(w:∀σ H Q,t' σ H Q->t σ H Q):PW X e t':=fun wh pins s σ H Q I q=>h wh pins s σ H Q I (w σ H Q q)
def dA(t u:gr):gr:=fun δ M Q=>t δ M fun c M1=>if c=true then u δ M1 Q else Q false M1
def kI(t u:gr):gr:=fun δ M Q=>t δ M fun c M1=>if c=true then Q true M1 else u δ M1 Q
theorem cS(ha:DT X B a tA):DW X B (.BoolOp .And [a] pos) tA:=y9 ha
theorem eT(ha:DT X B a tA):DW X B (.BoolOp .Or [a] pos) tA:=AU ha
theorem cH(ha:DT X B a tA)(hb:DW X B (.BoolOp .And (b::rest) pos) tB'):DW X B (.BoolOp .And (a::b::rest) pos) (dA tA tB'):=by
 refine rJ (Ac ha hb) ?_
 rintro σ H Q ⟨δ,M,QQ,s,h,u⟩
 refine ⟨δ,M,_,s,h,fun c M' q H' rh i=>?_⟩;cases c with
 |true=>rw [if_pos rfl] at q ⊢;exact ⟨δ,M',QQ,s.go rh i,q,u.go i⟩
 |false=>rw [if_neg Bool.false_ne_true] at q ⊢;exact u _ M' q H' rh i
theorem fT(ha:DT X B a tA)(hb:DW X B (.BoolOp .Or (b::rest) pos) tB'):DW X B (.BoolOp .Or (a::b::rest) pos) (kI tA tB'):=by
 refine rJ (Cz ha hb) ?_
 rintro σ H Q ⟨δ,M,QQ,s,h,u⟩
 refine ⟨δ,M,_,s,h,fun c M' q H' rh i=>?_⟩;cases c with
 |false=>rw [if_neg Bool.false_ne_true] at q ⊢;exact ⟨δ,M',QQ,s.go rh i,q,u.go i⟩
 |true=>rw [if_pos rfl] at q ⊢;exact u _ M' q H' rh i
def mF(ta tb:cj):cj:=fun δ M Q=>ta δ M fun x M1=>match x with
 |.bl true=>tb δ M1 Q
 |.bl false=>Q (.bl false) M1
 |_=>False
def A2(ta tb:cj):cj:=fun δ M Q=>ta δ M fun x M1=>match x with
 |.bl false=>tb δ M1 Q
 |.bl true=>Q (.bl true) M1
 |_=>False
def zu(ta:cj):cj:=fun δ M Q=>ta δ M fun x M1=>match x with
 |.bl c=>Q (.bl (!c)) M1
 |_=>False
theorem lZ{op}{t:cj}(h:DE X B a t):DE X B (.BoolOp op [a] pos) t:=Be h
theorem mi(ha:DE X B a ta)(hb:DE X B (.BoolOp .And (b::rest) pos) tb):DE X B (.BoolOp .And (a::b::rest) pos) (mF ta tb):=by
 refine bP (zG ha hb) ?_
 rintro σ H Q ⟨δ,M,QQ,s,h,u⟩
 refine ⟨δ,M,_,s,h,fun d M' q v H' rh i r=>?_⟩;cases d with
 |bl c=>
  cases c with
  |true=>exact ⟨true,r,by rw [if_pos rfl];exact ⟨δ,M',QQ,s.go rh i,q,u.go i⟩⟩
  |false=>exact ⟨false,r,by rw [if_neg Bool.false_ne_true];exact u _ M' q _ H' rh i rfl⟩
 |_=>exact (show False from q).elim
theorem C9(ha:DE X B a ta)(hb:DE X B (.BoolOp .Or (b::rest) pos) tb):DE X B (.BoolOp .Or (a::b::rest) pos) (A2 ta tb):=by
 refine bP (Da ha hb) ?_
 rintro σ H Q ⟨δ,M,QQ,s,h,u⟩
 refine ⟨δ,M,_,s,h,fun d M' q v H' rh i r=>?_⟩;cases d with
 |bl c=>
  cases c with
  |false=>exact ⟨false,r,by rw [if_neg Bool.false_ne_true];exact ⟨δ,M',QQ,s.go rh i,q,u.go i⟩⟩
  |true=>exact ⟨true,r,by rw [if_pos rfl];exact u _ M' q _ H' rh i rfl⟩
 |_=>exact (show False from q).elim
theorem B3(ha:DE X B a ta):DE X B (.UnaryOp .Not a pos) (zu ta):=by
 refine bP (Bq ha) ?_
 rintro σ H Q ⟨δ,M,QQ,s,h,u⟩
 refine ⟨δ,M,_,s,h,fun d M' q v H' rh i r=>?_⟩;cases d with
 |bl c=>exact ⟨c,r,u _ M' q _ H' rh i rfl⟩
 |_=>exact (show False from q).elim
def tm(t:gr)(ta tb:cj):cj:=fun δ M Q=>t δ M fun c M1=>if c=true then ta δ M1 Q else tb δ M1 Q
theorem h7{c:Expr}(hc:DT X B c tA)(ha:DE X B a ta)(hb:DE X B b tb):DE X B (.IfExp c a b pos) (tm tA ta tb):=by
 refine bP (vV hc ha hb) ?_
 rintro σ H Q ⟨δ,M,QQ,s,h,u⟩
 refine ⟨δ,M,_,s,h,fun c M' q H' rh i=>?_⟩;cases c with
 |true=>rw [if_pos rfl] at q ⊢;exact ⟨δ,M',QQ,s.go rh i,q,u.go i⟩
 |false=>rw [if_neg Bool.false_ne_true] at q ⊢;exact ⟨δ,M',QQ,s.go rh i,q,u.go i⟩
def oZ(r r':iW)(ta tb tc:cj):cj:=fun δ M Q=>ta δ M fun x M1=>tb δ M1 fun y M2=>r x y M2 fun z M3=>match z with
 |.bl true=>tc δ M3 fun w M4=>r' y w M4 Q
 |.bl false=>Q (.bl false) M3
 |_=>False
variable {e:Expr}{es:List Expr}{te:cj}{t:gv}
def ai:gv:=fun _ M Q=>Q [] M
def ac(ta:cj)(tr:gv):gv:=fun δ M Q=>ta δ M fun x M1=>tr δ M1 fun xs M2=>Q (x::xs) M2
theorem af:DA X B [] ai:=by
 refine qH pL ?_
 rintro σ H Q ⟨δ,M,QQ,s,h,u⟩
 exact u [] M h [] H s.rh Frm.refl .nil
theorem aa(ha:DE X B e te)(hr:DA X B es t)(hs:starEach (e::es) X.env=(false,eval e X.env)::starEach es X.env:=by rfl):DA X B (e::es) (ac te t):=by
 refine qH (my ha hr hs) ?_
 rintro σ H Q ⟨δ,M,QQ,s,h,u⟩
 refine ⟨δ,M,_,s,h,fun x M1 h1 v1 H1 rh1 i1 r1=>?_⟩;refine ⟨δ,M1,_,s.go rh1 i1,h1,fun xs M2 h2 v2 H2 rh2 i2 r2=>?_⟩;exact u _ M2 h2 _ H2 rh2 (i1.trans i2) (.cons (r1.mf rh1 i2) r2)
def aU(t:gv):cj:=fun δ M Q=>t δ M fun xs M1=>xs.length<=sizeLine/\Q (.tup xs) M1
def bT(t:gv):cj:=fun δ M Q=>t δ M fun xs M1=>xs.length<=sizeLine/\∀p,M1 p=none->Q (.ref p) (M1.upd p (.lst xs))
theorem az{x1}(h:DA X B es t):DE X B (.Tuple es x1 pos) (aU t):=by
 refine bP (AW h) ?_
 rintro σ H Q ⟨δ,M,QQ,s,h,u⟩
 refine ⟨δ,M,_,s,h,fun xs M1 h1 v1 H1 rh1 i1 r1=>⟨by rw [<- r1.length];exact h1.1,fun p hp=>?_⟩⟩
 exact u _ M1 h1.2 _ _ (rh1.new hp) (i1.trans (Frm.new hp)) ⟨p,v1,rfl,upd_same,r1.mono (Imm.new hp)⟩
theorem bu(h:DA X B es t):DE X B (.List es pos) (bT t):=by
 refine bP (B0 h) ?_
 rintro σ H Q ⟨δ,M,QQ,s,h,u⟩
 refine ⟨δ,M,_,s,h,fun xs M1 h1 v1 H1 rh1 i1 r1=>⟨by rw [<- r1.length];exact h1.1,fun p hp=>?_⟩⟩
 exact u _ _ (h1.2 p (rh1.fresh hp)) _ _ (rh1.put (by rw [hp];trivial) ⟨v1,upd_same,r1.mono (Imm.new hp)⟩) (i1.trans (Frm.put (.inl hp))) rfl
theorem Inv.freeze{pins:List (Addr×Obj)}{σ:L2.St}{H:Hp}{s:Shared}{p:Addr}{vs:List V}(I:Inv X pins σ H s)(h:H p=some (.lst vs)):∃o,Inv X pins σ (upd H p (.frz o (.lst vs))) s:=by
 obtain ⟨its,n,r,e,z⟩:=I.lst h;have ne:∀{b:Addr} {u:Option HO},H b=u->u≠some (.lst vs)->b≠p:=fun {b u} q hu z=>by subst z;rw [h] at q;exact hu q.symm
 refine ⟨{ cls:=.type "list",data:=.seq its.toArray n },I.ok,I.os,I.bare,⟨I.base.keep,I.base.slot,fun b o q hn hx=>?_,I.base.there,fun b xs q=>?_,fun b o u q=>?_,fun b ps q=>?_⟩,I.loc,I.cell,?_,fun x c q=>?_,fun pp hp=>?_,fun b o q=>?_,I.len⟩
 ·have q':=I.base.free b o q hn hx
  rw [bf (ne q' (by simp))];exact q'
 ·have q':=I.base.tups b xs q
  rw [bf (ne q' (by simp))];exact q'
 ·have q':=I.base.frzs b o u q
  rw [bf (ne q' (by simp))];exact q'
 ·obtain ⟨more,q'⟩:=I.base.tbls b ps q
  exact ⟨more,by rw [bf (ne q' (by simp))];exact q'⟩
 ·rw [bf (ne I.free (by simp))];exact I.free
 ·have q':=I.freeC x c q
  rw [bf (ne q' (by simp))];exact q'
 ·obtain ⟨h1,h2,h3⟩:=I.pin pp hp
  exact ⟨h1,by rw [bf (ne h2 (by simp))];exact h2,h3⟩
 ·by_cases hb:b=p
  ·subst hb
   rw [upd_same] at q;cases q;refine ⟨e,?_⟩;exact ⟨z,its,n,r,e⟩
  ·rw [bf hb] at q
   refine (I.hok b o q).stay (fun _ _ _ y=>y) (fun c y=>?_) fun c xs y=>?_
   ·rw [bf (ne y (by simp))];exact y
   ·rw [bf (ne y (by simp))];exact y
def frz(d:D)(M:Mem)(Q:DK):Prop:=match d with
 |.ref a=>match M a with
  |some (.lst xs)=>Q (.lst xs) (M.del a)
  |_=>Q d M
 |_=>Q d M
def au(t:cj):cj:=fun δ M Q=>t δ M fun d M'=>frz d M' Q
theorem RepH.freeze{K:W.Frag}{H:Hp}{M:Mem}{p:Addr}{vs:List V}{o:Obj}(r:RepH K H M)(h:H p=some (.lst vs)):RepH K (upd H p (.frz o (.lst vs))) (M.del p):=fun b u e=>by
 unfold Mem.del at e
 split at e
 ·cases e
 ·rename_i hb
  exact (r b u e).keep (Imm.upd (by rw [h];trivial)) (bf hb)
theorem ao(h:DE X B e te):DE X B e (au te):=by
 intro pins s σ H Q I hq;obtain ⟨δ,M,QQ,sr,hT,u⟩:=hq;refine cL (h pins s σ H (fun v H'=>∃d M',RepH X.K H' M'/\Frm M H M' H'/\Rp X.K H' d v/\frz d M' QQ) I ⟨δ,M,_,sr,hT,fun d M' q v H' rh i r=>⟨d,M',rh,i,r,q⟩⟩) ?_
 rintro w s' ⟨v,H',I',rv,d,M',rh,i,r,q⟩
 unfold frz at q
 split at q
 ·rename_i a
  split at q
  ·rename_i xs e
   obtain ⟨vs,h1,h2⟩:=rh _ _ e;obtain ⟨o,I2⟩:=Inv.freeze I' h1;refine ⟨v,_,I2,rv,u _ _ q v _ (rh.freeze h1) (i.trans (Frm.del ⟨_,e⟩)) ?_⟩;exact ⟨a,vs,r,⟨o,upd_same⟩,h2.mono (Imm.upd (by rw [h1];trivial))⟩
  ·exact ⟨v,H',I',rv,u _ _ q v H' rh i r⟩
 ·exact ⟨v,H',I',rv,u _ _ q v H' rh i r⟩
end
end L3
namespace L3
open PySem L2
def fH(M:Mem):D->Option (List D)
 |.lst xs=>some xs
 |.ref a=>match M a with
  |some (.lst xs)=>some xs
  |_=>none
 |_=>none
def bR(M:Mem):D->Option (List D)
 |.tup xs=>some xs
 |.lst xs=>some xs
 |.mt xs=>some xs
 |.ml xs=>some xs
 |.ref a=>match M a with
  |some (.lst xs)=>some xs
  |_=>none
 |_=>none
section
variable {X:Cx}{B:Bd}{K:W.Frag}{H:Hp}{M:Mem}{d:D}{v:V}{xs:List D}
theorem dW(rh:RepH K H M)(r:Rp K H d v)(e:fH M d=some xs):∃p vs,v=.ref p/\Rd H p (.lst vs)/\Rps K H xs vs:=by
 cases d with
 |lst ys=>
  cases e;obtain ⟨p,vs,rfl,⟨o,h⟩,r⟩:=r;exact ⟨p,vs,rfl,.inr ⟨o,h⟩,r⟩
 |ref a=>
  simp only [fH] at e
  split at e
  ·rename_i ys q
   cases e;obtain ⟨vs,h1,h2⟩:=rh _ _ q;exact ⟨a,vs,r,.inl h1,h2⟩
  ·cases e
 |_=>cases e
theorem gX(rh:RepH K H M)(r:Rp K H d v)(e:bR M d=some xs):∃p vs,v=.ref p/\(SqL K H p vs\/iB K H p vs)/\Rps K H xs vs:=by
 cases d with
 |tup ys=>
  cases e;obtain ⟨p,vs,rfl,h,r⟩:=r;exact ⟨p,vs,rfl,.inr h.sq,r⟩
 |lst ys=>
  cases e;obtain ⟨p,vs,rfl,h,r⟩:=r;exact ⟨p,vs,rfl,.inl h.sq,r⟩
 |mt ys=>
  cases e;obtain ⟨p,vs,rfl,h,r⟩:=r;exact ⟨p,vs,rfl,.inr h.sq,r⟩
 |ml ys=>
  cases e;obtain ⟨p,vs,rfl,h,r⟩:=r;exact ⟨p,vs,rfl,.inl h.sq,r⟩
 |ref a=>
  simp only [bR] at e
  split at e
  ·rename_i ys q
   cases e;obtain ⟨vs,h1,h2⟩:=rh _ _ q;exact ⟨a,vs,r,.inl (SqL.of h1),h2⟩
  ·cases e
 |_=>cases e
theorem zb:eg X (binaryOp .Add) (fun x y H Q=>∃l b xs zs,x=.ref l/\y=.ref b/\Rd H l (.lst xs)/\Rd H b (.lst zs)/\xs.length+zs.length<=sizeLine/\∀p,H p=none->Q (.ref p) (upd H p (.lst (xs++zs)))):=by
 intro pins s σ H x y v u Q I rx ry h;obtain ⟨l,b,xs,zs,rfl,rfl,hH,hB,hz,q⟩:=h;cases rx;cases ry;obtain ⟨z,its,n,r,e⟩:=hH.ok I.hok;obtain ⟨z2,its2,n2,r2,e2⟩:=hB.ok I.hok;have hl:=r.length;have hl2:=r2.length;refine PySem.P.add_list e e2 ?_ (by rw [List.size_toArray,List.size_toArray];lia)
 have ea:its.toArray++its2.toArray=(its++its2).toArray:=by simp
 rw [ea];exact ⟨.ref _,_,I.lnew (t':=s.toks) (r.append r2) (by rw [List.length_append];lia),rfl,q _ I.fresh⟩
def bD:iW:=fun x y M Q=>match x,y with
 |.int i,.int j=>Q (.int (i+j)) M
 |.str a,.str b=>a.length+b.length<=sizeLine/\Q (.str (a++b)) M
 |.tup xs,.tup ys=>xs.length+ys.length<=sizeLine/\Q (.tup (xs++ys)) M
 |x,y=>match fH M x,fH M y with
  |some xs,some ys=>xs.length+ys.length<=sizeLine/\∀p,M p=none->Q (.ref p) (M.upd p (.lst (xs++ys)))
  |_,_=>False
theorem aG:eg X (binaryOp .Add) (liftR2 X bD):=by
 intro pins s σ H x y v u Q I rx ry h;obtain ⟨d1,d2,M,QQ,rh,r1,r2,h,up⟩:=h;unfold bD at h
 split at h
 ·cases r1;cases r2
  exact AL pins s σ H _ _ v u Q I rx ry ⟨_,_,rfl,rfl,up _ M h _ H rh Frm.refl rfl⟩
 ·cases r1;cases r2
  exact qb pins s σ H _ _ v u Q I rx ry ⟨_,_,rfl,rfl,h.1,up _ M h.2 _ H rh Frm.refl rfl⟩
 ·obtain ⟨p,vs,rfl,t1,r1⟩:=r1
  obtain ⟨p',vs',rfl,t2,r2⟩:=r2;have l1:=r1.length;have l2:=r2.length;have r12:=r1.append r2
  by_cases hx:vs=[]
  ·subst hx
   have hu:=up _ M h.2 (.ref p') H rh Frm.refl ⟨p',vs',rfl,t2,r12⟩;exact vT pins s σ H _ _ v u Q I rx ry ⟨p,p',vs',rfl,rfl,t1.sq,t2.sq,hu⟩
  ·refine yt pins s σ H _ _ v u Q I rx ry ⟨p,p',vs,vs',rfl,rfl,t1.sq,t2.sq,hx,by lia,fun e=>?_,fun _ q hq=>?_⟩
   ·subst e
    rw [List.append_nil] at r12;exact up _ M h.2 (.ref p) H rh Frm.refl ⟨p,vs,rfl,t1,r12⟩
   ·exact up _ M h.2 _ _ (rh.new hq) (Frm.new hq) ⟨q,_,rfl,upd_same,r12.mono (Imm.new hq)⟩
 ·split at h
  ·rename_i xs ys e1 e2
   obtain ⟨p,vs,rfl,t1,r1⟩:=dW rh r1 e1;obtain ⟨p',vs',rfl,t2,r2⟩:=dW rh r2 e2;have l1:=r1.length;have l2:=r2.length;refine zb pins s σ H _ _ v u Q I rx ry ⟨p,p',vs,vs',rfl,rfl,t1,t2,by lia,fun q hq=>?_⟩
   exact up _ _ (h.2 q (rh.fresh hq)) _ _ (rh.put (by rw [hq];trivial) ⟨_,upd_same,(r1.append r2).mono (Imm.new hq)⟩) (Frm.put (.inl hq)) rfl
  ·exact h.elim
def oI(C:Int->Int->Prop)(g:Int->Int->D):iW:=fun x y M Q=>match x,y with
 |.int i,.int j=>C i j/\Q (g i j) M
 |_,_=>False
theorem AT{f:Value->Value->Sem Value}{C:Int->Int->Prop}{g:Int->Int->V}{g':Int->Int->D}(h:eg X f (rI C g))(e:∀i j K H,Rp K H (g' i j) (g i j)):eg X f (liftR2 X (oI C g')):=by
 intro pins s σ H x y v u Q I rx ry hq;obtain ⟨d1,d2,M,QQ,rh,r1,r2,hq,up⟩:=hq;unfold oI at hq
 split at hq
 ·cases r1;cases r2
  exact h pins s σ H _ _ v u Q I rx ry ⟨_,_,rfl,rfl,hq.1,up _ M hq.2 _ H rh Frm.refl (e _ _ _ _)⟩
 ·exact hq.elim
def y8(g:Int->Int->D):iW:=fun x y M Q=>match x,y with
 |.int i,.int j=>Q (g i j) M
 |_,_=>False
theorem qL{f:Value->Value->Sem Value}{g:Int->Int->V}{g':Int->Int->D}(h:eg X f (zr g))(e:∀i j K H,Rp K H (g' i j) (g i j)):eg X f (liftR2 X (y8 g')):=by
 intro pins s σ H x y v u Q I rx ry hq;obtain ⟨d1,d2,M,QQ,rh,r1,r2,hq,up⟩:=hq;unfold y8 at hq
 split at hq
 ·cases r1;cases r2
  exact h pins s σ H _ _ v u Q I rx ry ⟨_,_,rfl,rfl,up _ M hq _ H rh Frm.refl (e _ _ _ _)⟩
 ·exact hq.elim
abbrev kG:iW:=y8 fun i j=>.int (i-j)
theorem gW:eg X (binaryOp .Sub) (liftR2 X kG):=qL Af fun _ _ _ _=>rfl
abbrev jY:iW:=oI (fun _ j=>0<j) fun i j=>.int (i % j)
theorem fi:eg X (binaryOp .Mod) (liftR2 X jY):=AT AS fun _ _ _ _=>rfl
def zj(_ j:Int):Prop:=0<j/\j<2 ^ 200
theorem tY:eg X (binaryOp .FloorDiv) (rI zj fun i j=>.int (i / j)):=by
 intro pins s σ H x y v u Q I rx ry h;obtain ⟨i,j,rfl,rfl,hc,q⟩:=h;obtain ⟨h0,h1⟩:=hc;have hj:((j.toNat:Nat):Int)=j:=by lia
 refine tz (n:=j.toNat) ?_ (by lia) pins s σ H _ _ v u Q I rx ry ⟨i,j,rfl,rfl,hj.symm,q⟩
 have hlt:j.toNat<2 ^ 200:=by
  have:((j.toNat:Nat):Int)<((2 ^ 200:Nat):Int):=by rw [hj,Int.natCast_pow];exact h1
  exact Int.ofNat_lt.mp this
 have:=(Nat.log2_lt (n:=j.toNat) (k:=200) (by lia)).mpr hlt
 lia
abbrev ng:iW:=oI zj fun i j=>.int (i / j)
theorem jO:eg X (binaryOp .FloorDiv) (liftR2 X ng):=AT tY fun _ _ _ _=>rfl
abbrev Bj:iW:=oI BX fun i j=>.int (i ^ j.toNat)
theorem xm:eg X (binaryOp .Pow) (liftR2 X Bj):=AT zZ fun _ _ _ _=>rfl
abbrev CF:iW:=y8 fun i j=>.int (Builtin.bitXor i j)
theorem xt:eg X (binaryOp .BitXor) (liftR2 X CF):=qL Ba fun _ _ _ _=>rfl
abbrev oG:iW:=y8 fun i j=>.bl (decide (i<j))
theorem eQ:eg X (compareOp .Lt) (liftR2 X oG):=qL Cp fun _ _ _ _=>rfl
abbrev oF:iW:=y8 fun i j=>.bl (decide (j<i))
theorem fK:eg X (compareOp .Gt) (liftR2 X oF):=qL Cc fun _ _ _ _=>rfl
theorem uT{c:Nat}:∀(k:Nat) (acc:Array Nat),(List.replicate k #[c]).foldl (·++·) acc=acc++Array.replicate k c
 |0,acc=>by simp
 |k+1,acc=>by
  rw [List.replicate_succ,List.foldl_cons,uT k (acc++#[c])];apply Array.ext';simp [List.replicate_succ]
theorem t8:eg X (binaryOp .Mult) (fun x y H Q=>∃c k,x=.str ⟨#[c]⟩/\y=.int k/\1<=k/\k<=1000/\Q (.str ⟨Array.replicate k.toNat c⟩) H):=by
 intro pins s σ H x y v u Q I rx ry h;obtain ⟨c,k,rfl,rfl,h1,h2,q⟩:=h;obtain ⟨t,rfl⟩:=rx;obtain ⟨t',rfl⟩:=ry;have hlen:(⟨#[c]⟩:Str).length=1:=rfl;have hsl:sizeLine=16777216:=rfl;refine PySem.P.mul_str ?_ ?_ ?_ ?_
 ·rw [decide_eq_false (by lia),decide_eq_false (by lia)];rfl
 ·intro _ _ hc
  rw [hlen] at hc;have:(1:Int)<=(2 ^ 63-1) / k:=Int.le_ediv_of_mul_le (by lia) (by lia)
  lia
 ·intro _ _
  rw [hlen];unfold PySem.Builtin.Str.tooLong;exact decide_eq_false (by lia)
 ·rw [if_neg (by lia)]
  by_cases hk:k=1
  ·rw [if_pos (by rw [hk];rfl)]
   subst hk;exact ⟨.str ⟨#[c]⟩,H,I,⟨_,rfl⟩,q⟩
  ·rw [if_neg (by simp [hlen,hk])]
   have he:(List.replicate k.toNat #[c]).foldl (·++·) #[]=Array.replicate k.toNat c:=by rw [uT];simp
   refine ⟨?_,.str ⟨(List.replicate k.toNat #[c]).foldl (·++·) #[]⟩,H,I.tok _,⟨_,rfl⟩,by rw [he];exact q⟩
   show ((List.replicate k.toNat #[c]).foldl (·++·) #[]).size<=sizeLine;rw [he];simp;lia
def nS:iW:=fun x y M Q=>match x,y with
 |.int i,.int j=>CMul i j/\Q (.int (i*j)) M
 |.str z,.int k=>match z.cps.toList with
  |[c]=>1<=k/\k<=1000/\Q (.str ⟨Array.replicate k.toNat c⟩) M
  |_=>False
 |.tup xs,.int k=>xs≠[]/\0<=k/\k<=1000/\xs.length<=1000/\Q (.tup (List.replicate k.toNat xs).flatten) M
 |_,_=>False
theorem Rps.rep{ds:List D}{vs:List V}(h:Rps K H ds vs):∀k:Nat,Rps K H (List.replicate k ds).flatten (List.replicate k vs).flatten
 |0=>rfl
 |k+1=>by
  rw [List.replicate_succ,List.replicate_succ,List.flatten_cons,List.flatten_cons];exact h.append (Rps.rep h k)
theorem gj:eg X (binaryOp .Mult) (liftR2 X nS):=by
 intro pins s σ H x y v u Q I rx ry h;obtain ⟨d1,d2,M,QQ,rh,r1,r2,h,up⟩:=h;cases d1 with
 |int i=>
  cases d2 with
  |int j=>
   cases r1;cases r2;exact AX pins s σ H _ _ v u Q I rx ry ⟨_,_,rfl,rfl,h.1,up _ M h.2 _ H rh Frm.refl rfl⟩
  |_=>exact (show False from h).elim
 |str z=>
  cases d2 with
  |int k=>
   cases r1;cases r2;simp only [nS] at h
   split at h
   ·rename_i c e
    have ez:z=⟨#[c]⟩:=by
     obtain ⟨⟨l⟩⟩:=z;have e':l=[c]:=e;rw [e']
    subst ez;exact t8 pins s σ H _ _ v u Q I rx ry ⟨_,_,rfl,rfl,h.1,h.2.1,up _ M h.2.2 _ H rh Frm.refl rfl⟩
   ·exact h.elim
  |_=>exact (show False from h).elim
 |tup xs=>
  cases d2 with
  |int k=>
   obtain ⟨p,vs,rfl,t1,r1⟩:=r1;cases r2;obtain ⟨h1,h2,h3,h4,h5⟩:=h;have l1:=r1.length;obtain ⟨t,rfl⟩:=ry;cases rx;obtain ⟨its,r,pt,_⟩:=I.tuple t1.sq;have hl:=r.length;refine sF pt (fun z=>h1 ?_) h2 h3 (by lia) (fun e=>?_) fun e=>?_
   ·have hz:its.length=0:=congrArg List.length z
    exact List.eq_nil_of_length_eq_zero (by lia)
   ·subst e
    refine ⟨.ref p,H,I,rfl,up _ M h5 _ H rh Frm.refl ⟨p,vs,rfl,t1,?_⟩⟩;simpa using r1
   ·have hf:H s.heap.objs.size=none:=I.hok.fresh (Nat.le_refl _)
    have hz:(List.replicate k.toNat vs).flatten.length<=sizeLine:=by
     rw [yK];have h1:k.toNat*vs.length<=1000*1000:=Nat.mul_le_mul (by lia) (by lia)
     exact Nat.le_trans h1 (by decide)
    have i2:Imm H (upd H s.heap.objs.size (.tup (List.replicate k.toNat vs).flatten)):=Imm.new hf;exact ⟨.ref s.heap.objs.size,_,I.laid (t':=s.toks) (o:=.tup (List.replicate k.toNat vs).flatten) (fun b ob z=>Heap.get?_push_of_some _ z) (Nat.le_refl _) ⟨hz,_,r.rep k.toNat,⟨_,Heap.get?_push_size _ rfl,⟨rfl,_,rfl⟩,rfl⟩⟩,rfl,
     up _ M h5 _ _ (rh.new hf) (Frm.new hf) ⟨_,_,rfl,upd_same,(r1.rep _).mono i2⟩⟩
  |_=>exact (show False from h).elim
 |_=>exact (show False from h).elim
def zo:D->Bool
 |.non=>true
 |_=>false
def yT:iW:=fun x y M Q=>match y with
 |.non=>Q (.bl (zo x)) M
 |_=>False
theorem A_(r:Rp K H d v):decide (v=V.non)=zo d:=by
 cases d with
 |non=>cases r;rfl
 |tup xs=>obtain ⟨p,vs,rfl,_⟩:=r;rfl
 |lst xs=>obtain ⟨p,vs,rfl,_⟩:=r;rfl
 |mt xs=>obtain ⟨p,vs,rfl,_⟩:=r;rfl
 |ml xs=>obtain ⟨p,vs,rfl,_⟩:=r;rfl
 |_=>cases r;rfl
theorem qK:eg X (compareOp .Is) (liftR2 X yT):=by
 intro pins s σ H x y v u Q I rx ry h;obtain ⟨d1,d2,M,QQ,rh,r1,r2,h,up⟩:=h;unfold yT at h
 split at h
 ·cases r2
  exact Ax pins s σ H _ _ v u Q I rx ry ⟨rfl,by rw [A_ r1];exact up _ M h _ H rh Frm.refl rfl⟩
 ·exact h.elim
end
end L3
namespace L3
open PySem L2
section
variable {κ:Type}[DecidableEq κ]
def sC(kvs:List (κ×D))(k:κ):Option D:=(kvs.find? fun kv=>decide (kv.1=k)).map (·.2)
def xU(kvs:List (κ×D))(k:κ)(v:D):List (κ×D):=
 if (kvs.any fun kv=>decide (kv.1=k))=true then kvs.map (fun kv=>if kv.1=k then (kv.1,v) else kv) else kvs++[(k,v)]
variable {K:W.Frag}{H:Hp}
theorem Rkv.val{kvs:List (κ×D)}{ws:List (κ×V)}(h:Rkv K H kvs ws)(k:κ):(sC kvs k=none/\gs ws k=none)\/∃d v,sC kvs k=some d/\gs ws k=some v/\Rp K H d v:=by
 induction h with
 |nil=>exact .inl ⟨rfl,rfl⟩
 |@cons p q ps qs r t ih=>
  obtain ⟨k1,d⟩:=p;obtain ⟨k2,v⟩:=q;obtain ⟨e,r⟩:=r;dsimp only at e r;subst e
  by_cases hk:k1=k
  ·exact .inr ⟨d,v,by simp [sC,hk],by simp [gs,hk],r⟩
  ·simpa [sC,gs,hk] using ih
theorem Rkv.any{kvs:List (κ×D)}{ws:List (κ×V)}(h:Rkv K H kvs ws)(k:κ):(kvs.any fun kv=>decide (kv.1=k))=(ws.any fun kv=>decide (kv.1=k)):=by
 induction h with
 |nil=>rfl
 |cons r t ih=>rw [List.any_cons,List.any_cons,ih,r.1]
theorem Rkv.put{kvs:List (κ×D)}{ws:List (κ×V)}(h:Rkv K H kvs ws)(k:κ){d:D}{v:V}(r:Rp K H d v):Rkv K H (xU kvs k d) (gm ws k v):=by
 unfold xU gm;rw [h.any k]
 split
 ·rename_i q;clear q
  induction h with
  |nil=>exact .nil
  |@cons p q ps qs rr t ih=>
   obtain ⟨k1,d'⟩:=p;obtain ⟨k2,v'⟩:=q;obtain ⟨e,r'⟩:=rr;dsimp only at e r';subst e;rw [List.map_cons,List.map_cons];refine .cons ?_ ih
   by_cases hk:k1=k
   ·rw [if_pos hk,if_pos hk];exact ⟨rfl,r⟩
   ·rw [if_neg hk,if_neg hk];exact ⟨rfl,r'⟩
 ·rename_i q;clear q
  induction h with
  |nil=>exact .cons ⟨rfl,r⟩ .nil
  |cons rr t ih=>exact .cons rr ih
theorem Rkv.length{kvs:List (κ×D)}{ws:List (κ×V)}(h:Rkv K H kvs ws):kvs.length=ws.length:=Paired.length h
end
def qV:D->Option di
 |.int i=>some (.inl i)
 |.str x=>some (.inr x)
 |_=>none
def lR:List D->Option (List di)
 |[]=>some []
 |d::ds=>match qV d,lR ds with
  |some k,some ks=>some (k::ks)
  |_,_=>none
def zI:D->Option (List di)
 |.tup xs=>lR xs
 |_=>none
section
variable {X:Cx}{K:W.Frag}{H:Hp}{M:Mem}
theorem lA{d:D}{v:V}{k:di}(r:Rp K H d v)(e:qV d=some k):v=kV k:=by
 cases d with
 |int i=>cases e;exact r
 |str x=>cases e;exact r
 |_=>cases e
theorem nM:∀{ds:List D} {vs:List V} {ks:List di},Rps K H ds vs->lR ds=some ks->vs=ks.map kV
 |[],vs,ks,r,e=>by cases e;exact r
 |d::ds,vs,ks,r,e=>by
  obtain ⟨v,r',rfl,a,b⟩:=r;simp only [lR] at e
  split at e
  ·rename_i k ks' e1 e2
   cases e;rw [lA a e1,nM b e2];rfl
  ·cases e
def z9(M:Mem)(a:Addr)(y:D):Option (Option D):=match M a with
 |some (.dK kvs)=>match qV y with
  |some k=>some (sC kvs k)
  |none=>none
 |some (.dT kvs)=>match zI y with
  |some k=>some (sC kvs k)
  |none=>none
 |_=>none
theorem nz{d:D}{v:V}{ks:List di}(r:Rp K H d v)(e:zI d=some ks):∃b,v=.ref b/\H b=some (.tup (ks.map kV)):=by
 cases d with
 |tup xs=>
  obtain ⟨p,vs,rfl,t,r⟩:=r;exact ⟨p,rfl,by rw [<- nM r e];exact t⟩
 |_=>cases e
theorem lE{a:Addr}{y:D}{v:V}{o:Option D}(rh:RepH K H M)(r:Rp K H y v)(e:z9 M a y=some o):
  (o=none/\DGet H a v none)\/∃d w,o=some d/\DGet H a v (some w)/\Rp K H d w:=by
 unfold z9 at e
 split at e
 ·rename_i kvs hM
  obtain ⟨ws,h1,h2⟩:=rh _ _ hM
  split at e
  ·rename_i k ek
   cases e;have ev:=lA r ek;subst ev;rcases h2.val k with ⟨e1,e2⟩|⟨d,w,e1,e2,r'⟩
   ·exact .inl ⟨e1,by rw [<- e2];exact DGet.k h1⟩
   ·exact .inr ⟨d,w,e1,by rw [<- e2];exact DGet.k h1,r'⟩
  ·cases e
 ·rename_i kvs hM
  obtain ⟨ws,h1,h2⟩:=rh _ _ hM
  split at e
  ·rename_i k ek
   cases e;obtain ⟨b,rfl,hb⟩:=nz r ek;rcases h2.val k with ⟨e1,e2⟩|⟨d,w,e1,e2,r'⟩
   ·exact .inl ⟨e1,by rw [<- e2];exact DGet.t h1 hb⟩
   ·exact .inr ⟨d,w,e1,by rw [<- e2];exact DGet.t h1 hb,r'⟩
  ·cases e
 ·cases e
end
end L3
namespace HT
open PySem PyProof.Rows
section
variable {prog:Program}{w:World}{A:Around}{E:Value->Shared->Prop}{s:Shared}
theorem gq{t sl:Addr}{items:Array Value}{vl vu:Value}{lo hi:Option Int}{Q:Value->Shared->Prop}(ht:IsTup s.heap t items)(hs:s.heap.IsSliceOf sl vl vu .none)(pl:IsPart vl lo)(pu:IsPart vu hi)
  (hw:sIx items.size 0 lo=0/\sIx items.size items.size hi=items.size) (h:Q (.ref t) s):wpAny (model prog w) A (getItem (.ref t) (.ref sl)) Q E s:=by
 obtain ⟨os,hos,hcs,hds⟩:=id hs;have hTs:s.TypeIs (.ref sl) "slice":=⟨os,hos,hcs⟩;unfold getItem
 try with_reducible refine wpAny_holding ?_
 first|refine wpAny_bind (wpAny_pure ?_)|skip
 refine wpAny_bind (wpAny_sequenceKey ht.typeIs (by decide) ?_)
 refine wpAny_bind (wpAny_callSpecial?_slot (name:=Str.ofString "__getitem__") ht.typeIs PyProof.Rows.slot_tuple_getitem
  (wpAny_call_entry PyProof.Rows.slot_tuple_getitem ht.typeIs entry_tuple_getitem ?_ (args_tuple_getitem _ _)))
 show wpAny _ _ (Builtin.Tuple.tupleItemsOf (.ref t) >>= _) _ _ s;refine wpAny_bind (tupleItemsOf_ ht ?_);refine wpAny_bind (wpAny_typeOf hTs ?_);rw [if_pos (by decide)]
 refine wpAny_bind (eU hs pl pu ?_);have hyes:((((sIx items.size 0 lo:Nat):Int)==0&&(1:Int)==1&&(sIx items.size items.size hi-sIx items.size 0 lo)==items.size)=true):=by
  rw [hw.1,hw.2];simp
 show wpAny _ _ (if (((sIx items.size 0 lo:Nat):Int)==0&&(1:Int)==1&&(sIx items.size items.size hi-sIx items.size 0 lo)==items.size)=true then _ else _) _ _ s
 rw [if_pos hyes];refine wpAny_bind (m:=Builtin.Tuple.tupleIsExact _) (wpAny_bind (wpAny_typeOf ht.typeIs (wpAny_pure ?_)));rw [if_pos (by decide)]
 first
  |exact wpAny_bind (wpAny_rule (wpAny_bind (wpAny_pure (wpAny_pure ⟨_,rfl,wpAny_pure h⟩))))
  |exact wpAny_bind (wpAny_rule (wpAny_pure ⟨_,rfl,wpAny_pure h⟩))
  |exact wpAny_bind (wpAny_rule (wpAny_bind (wpAny_pure ⟨_,rfl,wpAny_pure h⟩)))
  |trace_state
end
end HT
namespace L3
open PySem L2
section
variable {X:Cx}{B:Bd}{K:W.Frag}{H:Hp}{M:Mem}{a b c:Expr}{ta tb tc:cj}{pos:Pos}
def bB:iW:=fun x y M Q=>match bR M x,y with
 |some xs,.int i=>match atI xs i with
  |some d=>Q d M
  |none=>False
 |some _,_=>False
 |none,y=>match x,y with
  |.str z,.int i=>z.length<=sizeLine/\match atI z.cps.toList i with
   |some c=>Q (.str ⟨#[c]⟩) M
   |none=>False
  |.ref a,y=>match z9 M a y with
   |some (some d)=>Q d M
   |_=>False
  |_,_=>False
theorem Rps.atI{ds:List D}{vs:List V}{i:Int}{d:D}(r:Rps K H ds vs)(e:atI ds i=some d):∃v,L2.atI vs i=some v/\Rp K H d v:=by
 unfold L2.atI at e ⊢;rw [<- r.length];cases q:qh ds.length i with
 |none=>rw [q] at e;cases e
 |some j=>
  rw [q] at e;exact r.get (i:=j) e
theorem wp(hu:X.A.units+1<cLine):IxR X (fun x y H Q=>∃a v,x=.ref a/\DGet H a y (some v)/\Q v H):=by
 intro value slice pins s σ H x y v u Q I rx ry h hs;obtain ⟨a,w,rfl,g,q⟩:=h;cases rx;exact PyProof.Rows.tail_any (nI I g) PySem.F.slot_dict_getitem.lookup (sI hu I g ry fun w' s3 I3 rw'=>⟨w,H,I3,rw',q⟩) hs
theorem ay(hu:X.A.units+1<cLine):IxR X (liftR2 X bB):=by
 intro value slice pins s σ H x y v u Q I rx ry h hs;obtain ⟨d1,d2,M,QQ,rh,r1,r2,h,up⟩:=h;unfold bB at h
 split at h
 ·rename_i xs i e
  split at h
  ·rename_i d ed
   cases r2;obtain ⟨p,vs,rfl,hq,r⟩:=gX rh r1 e;obtain ⟨w,ew,rw'⟩:=r.atI ed;refine A7 value slice pins s σ H _ _ v u Q I rx ry ?_ hs;have hu':=up _ M h _ H rh Frm.refl rw';rcases hq with hq|hq
   ·exact .inl ⟨p,vs,i,w,rfl,rfl,hq,ew,hu'⟩
   ·exact .inr (.inl ⟨p,vs,i,w,rfl,rfl,hq,ew,hu'⟩)
  ·exact h.elim
 ·exact h.elim
 ·split at h
  ·obtain ⟨hz,h⟩:=h
   split at h
   ·rename_i ch ec
    cases r1;cases r2;exact vp value slice pins s σ H _ _ v u Q I rx ry ⟨_,_,ch,rfl,rfl,hz,ec,up _ M h _ H rh Frm.refl rfl⟩ hs
   ·exact h.elim
  ·split at h
   ·rename_i d ed
    cases r1;rcases lE rh r2 ed with ⟨z,_⟩|⟨d',w,z,g,rw'⟩
    ·cases z
    ·cases z
     exact wp hu value slice pins s σ H _ _ v u Q I rx ry ⟨_,w,rfl,g,up _ M h _ H rh Frm.refl rw'⟩ hs
   ·exact h.elim
  ·exact h.elim
abbrev wU:=Dl->Mem->(Option Int->Mem->Prop)->Prop
inductive liftO(X:Cx)(B:Bd)(T:wU)(σ:St)(H:Hp)(Q:Option Int->Hp->Prop):Prop
 |mk (δ:Dl) (M:Mem) (QQ:Option Int->Mem->Prop) (s:SR X B δ M σ H) (h:T δ M QQ) (u:∀o M',QQ o M'->∀H',RepH X.K H' M'->Frm M H M' H'->Q o H'):liftO X B T σ H Q
def DO(X:Cx)(B:Bd)(e:Option Expr)(T:wU):Prop:=PO X e (liftO X B T)
theorem qv{X:Cx}{e:Option Expr}{t t':TO}(h:PO X e t)(w:∀σ H Q,t' σ H Q->t σ H Q):PO X e t':=fun pins s σ H Q I q=>h pins s σ H Q I (w σ H Q q)
def aD:wU:=fun _ M Q=>Q none M
def bi(t:cj):wU:=fun δ M Q=>t δ M fun x M1=>match x with
 |.int i=>Q (some i) M1
 |_=>False
theorem bj:DO X B none aD:=qv y0 fun σ H Q ⟨δ,M,QQ,s,h,u⟩=>u none M h H s.rh Frm.refl
theorem bd{e:Expr}{te:cj}(h:DE X B e te):DO X B (some e) (bi te):=by
 refine qv (xi h) ?_
 rintro σ H Q ⟨δ,M,QQ,s,h,u⟩
 refine ⟨δ,M,_,s,h,fun d M' q v H' rh i r=>?_⟩;cases d with
 |int j=>exact ⟨j,r,u _ M' q H' rh i⟩
 |_=>exact (show False from q).elim
def fv(xs:List D)(lo hi:Option Int):List D:=(xs.drop (HT.sIx xs.length 0 lo)).take (HT.sIx xs.length xs.length hi-HT.sIx xs.length 0 lo)
theorem Rps.cut{ds:List D}{vs:List V}(r:Rps K H ds vs)(lo hi:Option Int):Rps K H (fv ds lo hi) (j8 vs lo hi):=by
 unfold fv j8;rw [<- r.length];exact (r.drop _).take _
def pQ(x:D)(lo hi:Option Int)(M:Mem)(Q:DK):Prop:=match x with
 |.tup xs=>Q (.tup (fv xs lo hi)) M
 |.ml xs=>∀p,M p=none->Q (.ref p) (M.upd p (.lst (fv xs lo hi)))
 |x=>match fH M x with
  |some xs=>∀p,M p=none->Q (.ref p) (M.upd p (.lst (fv xs lo hi)))
  |none=>False
inductive liftSl(X:Cx)(x:V)(lo hi:Option Int)(H:Hp)(Q:VK):Prop
 |mk (d:D) (M:Mem) (QQ:DK) (rh:RepH X.K H M) (r:Rp X.K H d x) (h:pQ d lo hi M QQ) (u:Up X.K M H QQ Q):liftSl X x lo hi H Q
theorem pe{vs:List V}{lo hi:Option Int}(h:HT.sIx vs.length 0 lo=0/\HT.sIx vs.length vs.length hi=vs.length):j8 vs lo hi=vs:=by
 unfold j8;rw [h.1,h.2];simp
theorem wv:CK X (fun x lo hi H Q=>∃a xs,x=.ref a/\iB X.K H a xs/\(j8 xs lo hi=xs->Q (.ref a) H)/\∀p,H p=none->Q (.ref p) (upd H p (.tup (j8 xs lo hi)))):=by
 intro pins s σ H x v vl vu lo hi sl Q I rx hs pl pu h;obtain ⟨a,xs,rfl,hx,q0,q⟩:=h
 by_cases hw:HT.sIx xs.length 0 lo=0/\HT.sIx xs.length xs.length hi=xs.length
 ·cases rx
  obtain ⟨its,r,ht,hz⟩:=I.tuple hx;have hlen:its.toArray.size=xs.length:=by rw [List.size_toArray];exact r.length.symm
  refine ⟨"tuple",_,PyProof.Rows.slot_tuple_getitem.lookup,ht.typeIs,?_⟩;exact HT.gq ht hs pl pu (by rw [hlen];exact hw) ⟨.ref a,H,I,rfl,q0 (pe hw)⟩
 ·exact zP pins s σ H _ v vl vu lo hi sl Q I rx hs pl pu ⟨a,xs,rfl,hx,hw,q⟩
end
end L3
namespace L3
open PySem L2
section
variable {X:Cx}{B:Bd}{K:W.Frag}{H:Hp}{M:Mem}{e:Expr}{es:List Expr}{te:cj}{lo hi:Option Expr}{tl th:wU}{pos p2 p:Pos}{t:gv}
theorem Aj:CK X (liftSl X):=by
 intro pins s σ H x v vl vu lo hi sl Q I rx hs pl pu h;obtain ⟨d,M,QQ,rh,r,h,up⟩:=h;unfold pQ at h
 split at h
 ·obtain ⟨a,vs,rfl,ht,r⟩:=r
  refine wv pins s σ H _ v vl vu lo hi sl Q I rx hs pl pu ⟨a,vs,rfl,ht.sq,fun e=>?_,fun p hp=>?_⟩
  ·exact up _ M h _ H rh Frm.refl ⟨a,vs,rfl,ht,by rw [<- e];exact r.cut lo hi⟩
  ·exact up _ M h _ _ (rh.new hp) (Frm.new hp) ⟨p,_,rfl,upd_same,(r.cut lo hi).mono (Imm.new hp)⟩
 ·obtain ⟨a,vs,rfl,hq,r⟩:=r
  refine qZ pins s σ H _ v vl vu lo hi sl Q I rx hs pl pu ⟨a,vs,rfl,hq.sq,fun p hp=>?_⟩;exact up _ _ (h p (rh.fresh hp)) _ _ (rh.put (by rw [hp];trivial) ⟨_,upd_same,(r.cut lo hi).mono (Imm.new hp)⟩) (Frm.put (.inl hp)) rfl
 ·split at h
  ·rename_i xs e
   obtain ⟨a,vs,rfl,hq,r⟩:=dW rh r e;refine qZ pins s σ H _ v vl vu lo hi sl Q I rx hs pl pu ⟨a,vs,rfl,.inl hq,fun p hp=>?_⟩;exact up _ _ (h p (rh.fresh hp)) _ _ (rh.put (by rw [hp];trivial) ⟨_,upd_same,(r.cut lo hi).mono (Imm.new hp)⟩) (Frm.put (.inl hp)) rfl
  ·exact h.elim
def dw(te:cj)(tl th:wU):cj:=fun δ M Q=>te δ M fun x M1=>tl δ M1 fun l M2=>th δ M2 fun u M3=>pQ x l u M3 Q
theorem aY(he:DE X B e te)(hl:DO X B lo tl)(hu:DO X B hi th):DE X B (.Subscript e (.Slice lo hi none p2) pos) (dw te tl th):=by
 refine bP (uj Aj he hl hu) ?_
 rintro σ H Q ⟨δ,M,QQ,s,h,u⟩
 refine ⟨δ,M,_,s,h,fun x M1 h1 v1 H1 rh1 i1 r1=>?_⟩;refine ⟨δ,M1,_,s.go rh1 i1,h1,fun l M2 h2 H2 rh2 i2=>?_⟩;refine ⟨δ,M2,_,s.go rh2 (i1.trans i2),h2,fun w M3 h3 H3 rh3 i3=>?_⟩;exact ⟨x,M3,QQ,rh3,r1.mf rh1 (i2.trans i3),h3,u.go ((i1.trans i2).trans i3)⟩
abbrev sX:=List D->Mem->DK->Prop
inductive liftC(X:Cx)(r:sX)(xs:List V)(H:Hp)(Q:VK):Prop
 |mk (ds:List D) (M:Mem) (QQ:DK) (rh:RepH X.K H M) (rp:Rps X.K H ds xs) (h:r ds M QQ) (u:Up X.K M H QQ Q):liftC X r xs H Q
def c_(r:sX)(t:gv):cj:=fun δ M Q=>t δ M fun vs M1=>r vs M1 Q
theorem qG{r:sX}{σ:L2.St}{H:Hp}{Q:VK}(h:liftE X B (c_ r t) σ H Q):tCB (liftC X r) (liftA X B t) σ H Q:=by
 obtain ⟨δ,M,QQ,s,h,u⟩:=h;refine ⟨δ,M,_,s,h,fun ds M1 h1 vs H1 rh1 i1 r1=>?_⟩;exact ⟨ds,M1,QQ,rh1,r1,h1,u.go i1⟩
theorem aS{x:Str}{id:String}{r:sX}(hc:dq X (.builtin id) (liftC X r))(hg:Gl X x)(hm:X.mg x=none)(hv:bootBuiltins x=some (.builtin id))(ha:DA X B (e::es) t)(hn:x≠"__name__":=by decide)(hdb:(x==("__debug__":Str))=false:=by decide)
  (he:starEach (e::es) X.env=(false,eval e X.env)::starEach es X.env:=by rfl) (hpl:(backTo pos (starEach es X.env)).any (·.1)=false:=by rfl):DE X B (.Call (.Name x p) (e::es) [] pos) (c_ r t):=
 bP (nY hc hg hm hv ha hn hdb he hpl) fun _ _ _ h=>qG h
theorem dY{x:Str}{T:String}{r:sX}(hc:dq X (.type T) (liftC X r))(hg:Gl X x)(hm:X.mg x=none)(hv:bootBuiltins x=some (.type T))(ha:DA X B (e::es) t)(hn:x≠"__name__":=by decide)(hdb:(x==("__debug__":Str))=false:=by decide)
  (he:starEach (e::es) X.env=(false,eval e X.env)::starEach es X.env:=by rfl) (hpl:(backTo pos (starEach es X.env)).any (·.1)=false:=by rfl):DE X B (.Call (.Name x p) (e::es) [] pos) (c_ r t):=
 bP (rS hc hg hm hv ha hn hdb he hpl) fun _ _ _ h=>qG h
theorem iP{ds:List D}{vs:List V}{d:D}(r:Rps K H [d] vs):∃v,vs=[v]/\Rp K H d v:=by
 obtain ⟨v,w,rfl,a,b⟩:=r;cases b;exact ⟨v,rfl,a⟩
theorem ze{vs:List V}{d e:D}(r:Rps K H [d,e] vs):∃v w,vs=[v,w]/\Rp K H d v/\Rp K H e w:=by
 obtain ⟨v,w,rfl,a,b⟩:=r;obtain ⟨v',w',rfl,a',b⟩:=b;cases b;exact ⟨v,v',rfl,a,a'⟩
def cO:sX:=fun ds M Q=>match ds with
 |[d]=>match bR M d with
  |some xs=>Q (.int xs.length) M
  |none=>match d with
   |.str z=>z.length<=sizeLine/\Q (.int z.length) M
   |.ref a=>match M a with
    |some (.dK kvs)=>Q (.int kvs.length) M
    |_=>False
   |_=>False
 |_=>False
theorem bv:dq X (.builtin "len") (liftC X cO):=by
 intro pins s σ H xs us Q I r h;obtain ⟨ds,M,QQ,rh,rp,h,up⟩:=h;unfold cO at h
 split at h
 ·obtain ⟨v,rfl,rv⟩:=iP (ds:=[]) rp
  split at h
  ·rename_i ys e
   obtain ⟨q,vs,rfl,hq,rr⟩:=gX rh rv e;exact mh pins s σ H _ us Q I r ⟨q,vs,rfl,hq,by rw [<- rr.length];exact up _ M h _ H rh Frm.refl rfl⟩
  ·split at h
   ·cases rv
    exact lB pins s σ H _ us Q I r ⟨_,rfl,h.1,up _ M h.2 _ H rh Frm.refl rfl⟩
   ·split at h
    ·rename_i kvs e
     cases rv;obtain ⟨ws,h1,h2⟩:=rh _ _ e;exact rV pins s σ H _ us Q I r ⟨_,ws,rfl,h1,by rw [<- h2.length];exact up _ M h _ H rh Frm.refl rfl⟩
    ·exact h.elim
   ·exact h.elim
 ·exact h.elim
def uz:sX:=fun ds M Q=>match ds with
 |[d]=>match bR M d with
  |some xs=>∀p,M p=none->Q (.ref p) (M.upd p (.lst xs))
  |none=>False
 |_=>False
theorem oU:dq X (.type "list") (liftC X uz):=by
 intro pins s σ H xs us Q I r h;obtain ⟨ds,M,QQ,rh,rp,h,up⟩:=h;unfold uz at h
 split at h
 ·obtain ⟨v,rfl,rv⟩:=iP (ds:=[]) rp
  split at h
  ·rename_i ys e
   obtain ⟨q,vs,rfl,hq,rr⟩:=gX rh rv e;refine lm pins s σ H _ us Q I r ⟨q,vs,rfl,hq,fun p hp=>?_⟩;exact up _ _ (h p (rh.fresh hp)) _ _ (rh.put (by rw [hp];trivial) ⟨_,upd_same,rr.mono (Imm.new hp)⟩) (Frm.put (.inl hp)) rfl
  ·exact h.elim
 ·exact h.elim
def eR:sX:=fun ds M Q=>match ds with
 |[.tup xs]=>Q (.tup xs) M
 |[d]=>match fH M d with
  |some xs=>Q (.tup xs) M
  |none=>False
 |_=>False
theorem dL:dq X (.type "tuple") (liftC X eR):=by
 intro pins s σ H xs us Q I r h;obtain ⟨ds,M,QQ,rh,rp,h,up⟩:=h;unfold eR at h
 split at h
 ·obtain ⟨v,rfl,rv⟩:=iP (ds:=[]) rp
  obtain ⟨q,vs,rfl,ht,rr⟩:=rv;exact gu pins s σ H _ us Q I r ⟨q,vs,rfl,.inr ⟨ht.sq,up _ M h _ H rh Frm.refl ⟨q,vs,rfl,ht,rr⟩⟩⟩
 ·obtain ⟨v,rfl,rv⟩:=iP (ds:=[]) rp
  split at h
  ·rename_i ys e
   obtain ⟨q,vs,rfl,hq,rr⟩:=dW rh rv e;refine gu pins s σ H _ us Q I r ⟨q,vs,rfl,.inl ⟨.inl hq,fun p hp=>?_⟩⟩;exact up _ M h _ _ (rh.new hp) (Frm.new hp) ⟨p,_,rfl,upd_same,rr.mono (Imm.new hp)⟩
  ·exact h.elim
 ·exact h.elim
def dy(M:Mem):D->Option String
 |.non=>some "NoneType"
 |.bl _=>some "bool"
 |.int _=>some "int"
 |.str _=>some "str"
 |.tup _=>some "tuple"
 |.lst _=>some "list"
 |.ref a=>match M a with
  |some (.lst _)=>some "list"
  |some (.dK _)=>some "dict"
  |some (.dT _)=>some "dict"
  |_=>none
 |_=>none
def cm(t T:String):Bool:=t==T||(t=="bool"&&T=="int")
def oY(T:String):Bool:=T=="bool"||T=="int"||T=="str"||T=="tuple"||T=="list"||T=="dict"
theorem yQ:(∀K:W.Frag,∀t∈["NoneType","bool","int","str","tuple","list","dict"],∀T∈["bool","int","str","tuple","list","dict"],W.kitOne K (.type t) (.type T)=some (cm t T)):=by
 intro K t ht T hT;simp only [List.mem_cons,List.not_mem_nil,or_false] at ht hT;rcases ht with rfl|rfl|rfl|rfl|rfl|rfl|rfl<;>rcases hT with rfl|rfl|rfl|rfl|rfl|rfl<;>kernel_rfl
theorem yl{d:D}{v:V}{t:String}(rh:RepH K H M)(r:Rp K H d v)(e:dy M d=some t):TyOf K H v (.type t)/\t∈["NoneType","bool","int","str","tuple","list","dict"]:=by
 cases d with
 |non=>cases r;cases e;exact ⟨.non,by simp⟩
 |bl b=>cases r;cases e;exact ⟨.bl b,by simp⟩
 |int i=>cases r;cases e;exact ⟨.int i,by simp⟩
 |str x=>cases r;cases e;exact ⟨.str x,by simp⟩
 |ty n=>cases e
 |mt n=>cases e
 |ml n=>cases e
 |tup xs=>
  cases e;obtain ⟨q,vs,rfl,ht,rr⟩:=r;exact ⟨.tup ht,by simp⟩
 |lst xs=>
  cases e;obtain ⟨q,vs,rfl,⟨o,ht⟩,rr⟩:=r;exact ⟨.frz ht,by simp⟩
 |ref a=>
  cases r;simp only [dy] at e
  split at e
  ·rename_i q;cases e;obtain ⟨ws,h1,h2⟩:=rh _ _ q;exact ⟨.lst h1,by simp⟩
  ·rename_i q;cases e;obtain ⟨ws,h1,h2⟩:=rh _ _ q;exact ⟨.dK h1,by simp⟩
  ·rename_i q;cases e;obtain ⟨ws,h1,h2⟩:=rh _ _ q;exact ⟨.dT h1,by simp⟩
  ·cases e
def dS:sX:=fun ds M Q=>match ds with
 |[d,.ty T]=>oY T=true/\match dy M d with
  |some t=>Q (.bl (cm t T)) M
  |none=>False
 |_=>False
theorem bF:dq X (.builtin "isinstance") (liftC X dS):=by
 intro pins s σ H xs us Q I r h;obtain ⟨ds,M,QQ,rh,rp,h,up⟩:=h;unfold dS at h
 split at h
 ·rename_i d T
  obtain ⟨hT,h⟩:=h;obtain ⟨v,w,rfl,rv,rw'⟩:=ze rp;cases rw'
  split at h
  ·rename_i t e
   obtain ⟨ty,ht⟩:=yl rh rv e;refine ny pins s σ H _ us Q I r ⟨v,T,.type t,_,rfl,ty,yQ X.K t ht T ?_,up _ M h _ H rh Frm.refl rfl⟩;simp only [oY,Bool.or_eq_true,beq_iff_eq] at hT;simp only [List.mem_cons,List.not_mem_nil,or_false];rcases hT with ((((h|h)|h)|h)|h)|h<;>simp [h]
  ·exact h.elim
 ·exact h.elim
def gw:List D->Option (List Bool)
 |[]=>some []
 |.bl b::ds=>match gw ds with
  |some bs=>some (b::bs)
  |none=>none
 |_=>none
theorem gk:∀{ds:List D} {vs:List V} {bs:List Bool},Rps K H ds vs->gw ds=some bs->vs=bs.map V.bl
 |[],vs,bs,r,e=>by cases e;exact r
 |d::ds,vs,bs,r,e=>by
  obtain ⟨v,r',rfl,a,b⟩:=r;cases d with
  |bl c=>
   simp only [gw] at e
   split at e
   ·rename_i bs' e2
    cases e;cases a;rw [gk b e2];rfl
   ·cases e
  |_=>cases e
def Bb:sX:=fun ds M Q=>match ds with
 |[d]=>match fH M d with
  |some xs=>match gw xs with
   |some bs=>Q (.bl (bs.all id)) M
   |none=>False
  |none=>False
 |_=>False
theorem sS(hc:X.calm=true):dq X (.builtin "all") (liftC X Bb):=by
 intro pins s σ H xs us Q I r h;obtain ⟨ds,M,QQ,rh,rp,h,up⟩:=h;unfold Bb at h
 split at h
 ·obtain ⟨v,rfl,rv⟩:=iP (ds:=[]) rp
  split at h
  ·rename_i ys e
   split at h
   ·rename_i bs eb
    obtain ⟨q,vs,rfl,hq,rr⟩:=dW rh rv e;have ev:=gk rr eb;subst ev;exact um hc pins s σ H _ us Q I r ⟨q,bs,rfl,.inl hq,up _ M h _ H rh Frm.refl rfl⟩
   ·exact h.elim
  ·exact h.elim
 ·exact h.elim
def z_:sX:=fun ds M Q=>match ds with
 |[.int i,.int j]=>Q (.int (if j<i then j else i)) M
 |_=>False
theorem rO(hc:X.calm=true):dq X (.builtin "min") (liftC X z_):=by
 intro pins s σ H xs us Q I r h;obtain ⟨ds,M,QQ,rh,rp,h,up⟩:=h;unfold z_ at h
 split at h
 ·obtain ⟨v,w,rfl,rv,rw'⟩:=ze rp
  cases rv;cases rw';exact so hc pins s σ H _ us Q I r ⟨_,_,rfl,up _ M h _ H rh Frm.refl rfl⟩
 ·exact h.elim
end
end L3
namespace L3
open PySem L2
mutual
def bq:D->D->Bool
 |.non,.non=>true
 |.bl a,.bl b=>a==b
 |.bl a,.int b=>(if a then 1 else 0)==b
 |.int a,.bl b=>a==(if b then 1 else 0)
 |.int a,.int b=>decide (a=b)
 |.str a,.str b=>decide (a=b)
 |.tup xs,.tup ys=>dH xs ys
 |.lst xs,.lst ys=>dH xs ys
 |_,_=>false
def dH:List D->List D->Bool
 |[],[]=>true
 |x::xs,y::ys=>bq x y&&dH xs ys
 |_,_=>false
end
mutual
def cB:Nat->D->Bool
 |_,.non=>true
 |_,.bl _=>true
 |_,.int _=>true
 |_,.str _=>true
 |n+1,.tup xs=>cG n xs
 |n+1,.lst xs=>cG n xs
 |_,_=>false
def cG:Nat->List D->Bool
 |_,[]=>true
 |n,x::xs=>cB n x&&cG n xs
end
mutual
def Hr(h:Heap):D->Value->Prop
 |.non,u=>u=.none
 |.bl b,u=>u=.bool b
 |.int i,u=>∃t,u=.int i t
 |.str x,u=>∃t,u=.str x t
 |.tup xs,u=>∃p its,u=.ref p/\h.IsTuple p (List.toArray its)/\Hrs h xs its
 |.lst xs,u=>∃p its,u=.ref p/\h.IsList p (List.toArray its)/\Hrs h xs its
 |_,_=>False
def Hrs(h:Heap):List D->List Value->Prop
 |[],us=>us=[]
 |x::xs,us=>∃u r,us=u::r/\Hr h x u/\Hrs h xs r
end
section
variable {h:Heap}
theorem Hrs.length:∀{ds:List D} {us:List Value},Hrs h ds us->ds.length=us.length
 |[],_,q=>by cases q;rfl
 |_::_,_,q=>by obtain ⟨v,r,rfl,_,b⟩:=q;simp [b.length]
theorem Hrs.get:∀{ds:List D} {us:List Value},Hrs h ds us->∀(i:Nat) (h1:i<ds.length) (h2:i<us.length),Hr h ds[i] us[i]
 |[],_,_,i,h1,_=>absurd h1 (Nat.not_lt_zero _)
 |x::xs,_,q,i,h1,h2=>by
  obtain ⟨v,r,rfl,a,b⟩:=q;cases i with
  |zero=>exact a
  |succ i=>exact b.get i (by simpa using h1) (by simpa using h2)
theorem qq{p:Addr}{a b:Array Value}(x:h.IsTuple p a)(y:h.IsTuple p b):a=b:=by
 obtain ⟨o,h1,_,n,h2⟩:=x;obtain ⟨o',h1',_,n',h2'⟩:=y;rw [h1] at h1';cases h1';rw [h2] at h2'
 injection h2' with e _
theorem qA{p:Addr}{a b:Array Value}(x:h.IsList p a)(y:h.IsList p b):a=b:=by
 obtain ⟨o,h1,_,n,h2⟩:=x;obtain ⟨o',h1',_,n',h2'⟩:=y;rw [h1] at h1';cases h1';rw [h2] at h2'
 injection h2' with e _
theorem D8{p:Addr}{a b:Array Value}(x:h.IsList p a)(y:h.IsTuple p b):False:=by
 obtain ⟨o,h1,c,_⟩:=x;obtain ⟨o',h1',c',_⟩:=y;rw [h1] at h1';cases h1';rw [c] at c'
 injection c' with e
 exact absurd e (by decide)
mutual
theorem v8:∀{d e:D} {u:Value},Hr h d u->Hr h e u->d=e
 |.non,e,u,a,b=>by
  cases a;cases e with
  |non=>rfl
  |bl _=>cases b
  |int _=>obtain ⟨t,q⟩:=b;cases q
  |str _=>obtain ⟨t,q⟩:=b;cases q
  |tup _=>obtain ⟨p,i,q,_⟩:=b;cases q
  |lst _=>obtain ⟨p,i,q,_⟩:=b;cases q
  |_=>exact (show False from b).elim
 |.bl c,e,u,a,b=>by
  cases a;cases e with
  |non=>cases b
  |bl _=>cases b;rfl
  |int _=>obtain ⟨t,q⟩:=b;cases q
  |str _=>obtain ⟨t,q⟩:=b;cases q
  |tup _=>obtain ⟨p,i,q,_⟩:=b;cases q
  |lst _=>obtain ⟨p,i,q,_⟩:=b;cases q
  |_=>exact (show False from b).elim
 |.int c,e,u,a,b=>by
  obtain ⟨t,rfl⟩:=a;cases e with
  |non=>cases b
  |bl _=>cases b
  |int _=>obtain ⟨t,q⟩:=b;cases q;rfl
  |str _=>obtain ⟨t,q⟩:=b;cases q
  |tup _=>obtain ⟨p,i,q,_⟩:=b;cases q
  |lst _=>obtain ⟨p,i,q,_⟩:=b;cases q
  |_=>exact (show False from b).elim
 |.str c,e,u,a,b=>by
  obtain ⟨t,rfl⟩:=a;cases e with
  |non=>cases b
  |bl _=>cases b
  |int _=>obtain ⟨t,q⟩:=b;cases q
  |str _=>obtain ⟨t,q⟩:=b;cases q;rfl
  |tup _=>obtain ⟨p,i,q,_⟩:=b;cases q
  |lst _=>obtain ⟨p,i,q,_⟩:=b;cases q
  |_=>exact (show False from b).elim
 |.tup xs,e,u,a,b=>by
  obtain ⟨p,its,rfl,t1,r1⟩:=a;cases e with
  |non=>cases b
  |bl _=>cases b
  |int _=>obtain ⟨t,q⟩:=b;cases q
  |str _=>obtain ⟨t,q⟩:=b;cases q
  |tup ys=>
   obtain ⟨p',its',q,t2,r2⟩:=b;cases q;have e:=qq t1 t2;have e':its=its':=by simpa using congrArg Array.toList e
   subst e';rw [ij r1 r2]
  |lst ys=>obtain ⟨p',its',q,t2,r2⟩:=b;cases q;exact (D8 t2 t1).elim
  |_=>exact (show False from b).elim
 |.lst xs,e,u,a,b=>by
  obtain ⟨p,its,rfl,t1,r1⟩:=a;cases e with
  |non=>cases b
  |bl _=>cases b
  |int _=>obtain ⟨t,q⟩:=b;cases q
  |str _=>obtain ⟨t,q⟩:=b;cases q
  |lst ys=>
   obtain ⟨p',its',q,t2,r2⟩:=b;cases q;have e:=qA t1 t2;have e':its=its':=by simpa using congrArg Array.toList e
   subst e';rw [ij r1 r2]
  |tup ys=>obtain ⟨p',its',q,t2,r2⟩:=b;cases q;exact (D8 t1 t2).elim
  |_=>exact (show False from b).elim
 |.ty _,_,_,a,_=>(show False from a).elim
 |.ref _,_,_,a,_=>(show False from a).elim
 |.mt _,_,_,a,_=>(show False from a).elim
 |.ml _,_,_,a,_=>(show False from a).elim
theorem ij:∀{ds es:List D} {us:List Value},Hrs h ds us->Hrs h es us->ds=es
 |[],es,us,a,b=>by
  cases a;cases es with
  |nil=>rfl
  |cons _ _=>obtain ⟨v,r,q,_⟩:=b;cases q
 |d::ds,es,us,a,b=>by
  obtain ⟨v,r,rfl,a1,a2⟩:=a;cases es with
  |nil=>cases b
  |cons e es=>
   obtain ⟨v',r',q,b1,b2⟩:=b;cases q;rw [v8 a1 b1,ij a2 b2]
end
mutual
theorem tP:∀{n:Nat} {d:D},cB n d=true->bq d d=true
 |_,.non,_=>by simp [bq]
 |_,.bl _,_=>by simp [bq]
 |_,.int _,_=>by simp [bq]
 |_,.str _,_=>by simp [bq]
 |0,.tup _,f=>by simp [cB] at f
 |0,.lst _,f=>by simp [cB] at f
 |n+1,.tup xs,f=>by rw [bq];exact eZ (n:=n) f
 |n+1,.lst xs,f=>by rw [bq];exact eZ (n:=n) f
 |_,.ty _,f=>by simp [cB] at f
 |_,.ref _,f=>by simp [cB] at f
 |_,.mt _,f=>by simp [cB] at f
 |_,.ml _,f=>by simp [cB] at f
theorem eZ:∀{n:Nat} {ds:List D},cG n ds=true->dH ds ds=true
 |_,[],_=>by simp [dH]
 |n,x::xs,f=>by
  rw [cG,Bool.and_eq_true] at f;rw [dH,tP f.1,eZ f.2];rfl
end
theorem eE:∀{xs ys:List D},xs.length≠ys.length->dH xs ys=false
 |[],[],h=>absurd rfl h
 |[],_::_,_=>by simp [dH]
 |_::_,[],_=>by simp [dH]
 |x::xs,y::ys,h=>by rw [dH,eE (by simpa using h),Bool.and_false]
theorem gU:∀(xs ys:List D) (f:Nat->Bool),xs.length=ys.length->(∀j (h1:j<xs.length) (h2:j<ys.length),f j=bq xs[j] ys[j])->(List.range xs.length).all f=dH xs ys
 |[],[],f,_,_=>by simp [dH]
 |[],_::_,_,h,_=>by simp at h
 |_::_,[],_,h,_=>by simp at h
 |x::xs,y::ys,f,h,hf=>by
  have h0:=hf 0 (by simp) (by simp)
  have ht:=gU xs ys (fun j=>f (j+1)) (by simpa using h) (fun j h1 h2=>hf (j+1) (by simpa using h1) (by simpa using h2))
  rw [List.length_cons,List.range_succ_eq_map,List.all_cons,List.all_map,dH,<- ht];simp only [List.getElem_cons_zero] at h0;rw [h0];rfl
theorem dZ:∀{n:Nat} {xs:List D},cG n xs=true->∀(j:Nat) (h1:j<xs.length),cB n xs[j]=true
 |_,[],_,j,h1=>absurd h1 (Nat.not_lt_zero _)
 |n,x::xs,f,j,h1=>by
  rw [cG,Bool.and_eq_true] at f;cases j with
  |zero=>exact f.1
  |succ j=>exact dZ f.2 j (by simpa using h1)
def jC:D->Option V
 |.non=>some .non
 |.bl b=>some (.bl b)
 |.int i=>some (.int i)
 |.str x=>some (.str x)
 |_=>none
theorem jv{d:D}{v:V}{u:Value}(e:jC d=some v)(r:Hr h d u):RelV v u/\tO v=true:=by
 cases d with
 |non=>cases e;exact ⟨r,rfl⟩
 |bl b=>cases e;exact ⟨r,rfl⟩
 |int b=>cases e;exact ⟨r,rfl⟩
 |str b=>cases e;exact ⟨r,rfl⟩
 |_=>cases e
theorem nD{d e:D}{v w:V}(h1:jC d=some v)(h2:jC e=some w):mz v w=bq d e:=by
 cases d with
 |non=>cases h1;cases e with|non=>cases h2;simp [mz,bq]|bl b=>cases h2;simp [mz,bq]|int b=>cases h2;simp [mz,bq]|str b=>cases h2;simp [mz,bq]|_=>cases h2
 |bl a=>cases h1;cases e with|non=>cases h2;simp [mz,bq]|bl b=>cases h2;simp [mz,bq]|int b=>cases h2;simp [mz,bq]|str b=>cases h2;simp [mz,bq]|_=>cases h2
 |int a=>cases h1;cases e with|non=>cases h2;simp [mz,bq]|bl b=>cases h2;simp [mz,bq]|int b=>cases h2;simp [mz,bq];rfl|str b=>cases h2;simp [mz,bq]|_=>cases h2
 |str a=>cases h1;cases e with|non=>cases h2;simp [mz,bq]|bl b=>cases h2;simp [mz,bq]|int b=>cases h2;simp [mz,bq]|str b=>cases h2;simp [mz,bq];rfl|_=>cases h2
 |_=>cases h1
end
theorem zf:∀(n:Nat) {A:Around} {s:Shared} {d e:D} {u w:Value},Hr s.heap d u->Hr s.heap e w->cB n d=true->cB n e=true->A.units+n<cLine->SeqAt.EqAt A s u w (bq d e):=by
 intro n
 induction n with
 |zero=>
  intro A s d e u w rd re fd fe hu;have f1:∃v,jC d=some v:=by cases d<;>first|exact ⟨_,rfl⟩|(simp [cB] at fd)
  have f2:∃v,jC e=some v:=by cases e<;>first|exact ⟨_,rfl⟩|(simp [cB] at fe)
  obtain ⟨v1,e1⟩:=f1;obtain ⟨v2,e2⟩:=f2;obtain ⟨a1,b1⟩:=jv e1 rd;obtain ⟨a2,b2⟩:=jv e2 re;rw [<- nD e1 e2];exact uG a1 a2 b1 b2
 |succ n ih=>
  intro A s d e u w rd re fd fe hu;have hu0:A.units<cLine:=by lia
  have hu1:A.in1.units+n<cLine:=by show A.units+1+n<cLine;lia
  by_cases f1:∃v,jC d=some v
  ·obtain ⟨v1,e1⟩:=f1
   obtain ⟨a1,b1⟩:=jv e1 rd
   by_cases f2:∃v,jC e=some v
   ·obtain ⟨v2,e2⟩:=f2
    obtain ⟨a2,b2⟩:=jv e2 re;rw [<- nD e1 e2];exact uG a1 a2 b1 b2
   ·cases e with
    |tup ys=>
     obtain ⟨p,its,rfl,t,_⟩:=re;cases d with
     |non=>cases rd;simp only [bq];exact .none_tuple t hu0
     |bl b=>cases rd;simp only [bq];exact .bool_tuple b t hu0
     |int b=>obtain ⟨tk,rfl⟩:=rd;simp only [bq];exact .int_tuple b tk t hu0
     |str b=>obtain ⟨tk,rfl⟩:=rd;simp only [bq];exact .str_tuple b tk t hu0
     |_=>cases e1
    |lst ys=>
     obtain ⟨p,its,rfl,t,_⟩:=re;cases d with
     |non=>cases rd;simp only [bq];exact .none_list t hu0
     |bl b=>cases rd;simp only [bq];exact .bool_list b t hu0
     |int b=>obtain ⟨tk,rfl⟩:=rd;simp only [bq];exact .int_list b tk t hu0
     |str b=>obtain ⟨tk,rfl⟩:=rd;simp only [bq];exact .str_list b tk t hu0
     |_=>cases e1
    |ty _=>exact (show False from re).elim
    |ref _=>exact (show False from re).elim
    |mt _=>exact (show False from re).elim
    |ml _=>exact (show False from re).elim
    |_=>exact absurd ⟨_,rfl⟩ f2
  ·cases d with
   |tup xs=>
    obtain ⟨p,its,rfl,t1,r1⟩:=rd;cases e with
    |non=>cases re;simp only [bq];exact .tuple_none t1 hu0
    |bl b=>cases re;simp only [bq];exact .tuple_bool b t1 hu0
    |int b=>obtain ⟨tk,rfl⟩:=re;simp only [bq];exact .tuple_int b tk t1 hu0
    |str b=>obtain ⟨tk,rfl⟩:=re;simp only [bq];exact .tuple_str b tk t1 hu0
    |tup ys=>
     obtain ⟨p',its',rfl,t2,r2⟩:=re;rw [bq]
     by_cases hp:p=p'
     ·subst hp
      have e':its=its':=by simpa using congrArg Array.toList (qq t1 t2)
      subst e';rw [ij r1 r2,eZ (n:=n) fe];exact .same _
     ·refine .of_refs hp ?_
      have l1:=r1.length;have l2:=r2.length;have key:∀j (h1:j<its.toArray.size) (h2:j<its'.toArray.size),SeqAt.EqAt A.in1 s its.toArray[j] its'.toArray[j] (match xs[j]?,ys[j]? with|some x,some y=>bq x y|_,_=>false):=fun j h1 h2=>by
       have h1':j<xs.length:=by rw [l1];simpa using h1
       have h2':j<ys.length:=by rw [l2];simpa using h2
       rw [List.getElem?_eq_getElem h1',List.getElem?_eq_getElem h2'];exact ih (r1.get j h1' (by simpa using h1)) (r2.get j h2' (by simpa using h2)) (dZ fd j h1') (dZ fe j h2') hu1
      have:=SeqAt.RcAt.tuples (e:=fun j=>match xs[j]?,ys[j]? with|some x,some y=>bq x y|_,_=>false) t1 t2 hu0 key
      by_cases hl:xs.length=ys.length
      ·have hsz:its.toArray.size=its'.toArray.size:=by simp;lia
       rw [hsz] at this;simp only [Nat.min_self,beq_self_eq_true,Bool.and_true] at this;have hxs:its'.toArray.size=xs.length:=by simp;lia
       rw [hxs,gU xs ys _ hl (fun j h1 h2=>by rw [List.getElem?_eq_getElem h1,List.getElem?_eq_getElem h2])] at this
       exact this
      ·have hsz:(its.toArray.size==its'.toArray.size)=false:=by simp;lia
       rw [hsz,Bool.and_false] at this;rw [eE hl];exact this
    |lst ys=>obtain ⟨p',its',rfl,t2,r2⟩:=re;simp only [bq];exact .tuple_list t1 t2 hu0
    |_=>exact (show False from re).elim
   |lst xs=>
    obtain ⟨p,its,rfl,t1,r1⟩:=rd;cases e with
    |non=>cases re;simp only [bq];exact .list_none t1 hu0
    |bl b=>cases re;simp only [bq];exact .list_bool b t1 hu0
    |int b=>obtain ⟨tk,rfl⟩:=re;simp only [bq];exact .list_int b tk t1 hu0
    |str b=>obtain ⟨tk,rfl⟩:=re;simp only [bq];exact .list_str b tk t1 hu0
    |lst ys=>
     obtain ⟨p',its',rfl,t2,r2⟩:=re;rw [bq]
     by_cases hp:p=p'
     ·subst hp
      have e':its=its':=by simpa using congrArg Array.toList (qA t1 t2)
      subst e';rw [ij r1 r2,eZ (n:=n) fe];exact .same _
     ·refine .of_refs hp ?_
      have l1:=r1.length;have l2:=r2.length
      by_cases hl:xs.length=ys.length
      ·have key:∀j (h1:j<its.toArray.size) (h2:j<its'.toArray.size),SeqAt.EqAt A.in1 s its.toArray[j] its'.toArray[j] (match xs[j]?,ys[j]? with|some x,some y=>bq x y|_,_=>false):=fun j h1 h2=>by
        have h1':j<xs.length:=by rw [l1];simpa using h1
        have h2':j<ys.length:=by rw [l2];simpa using h2
        rw [List.getElem?_eq_getElem h1',List.getElem?_eq_getElem h2'];exact ih (r1.get j h1' (by simpa using h1)) (r2.get j h2' (by simpa using h2)) (dZ fd j h1') (dZ fe j h2') hu1
       have:=SeqAt.RcAt.lists (e:=fun j=>match xs[j]?,ys[j]? with|some x,some y=>bq x y|_,_=>false) t1 t2 (by simp;lia) hu0 key
       have hxs:its.toArray.size=xs.length:=by simp;lia
       rw [hxs,gU xs ys _ hl (fun j h1 h2=>by rw [List.getElem?_eq_getElem h1,List.getElem?_eq_getElem h2])] at this
       exact this
      ·rw [eE hl]
       exact SeqAt.RcAt.lists_lengths t1 t2 (by simp;lia) hu0
    |tup ys=>obtain ⟨p',its',rfl,t2,r2⟩:=re;simp only [bq];exact .list_tuple t1 t2 hu0
    |_=>exact (show False from re).elim
   |ty _=>exact (show False from rd).elim
   |ref _=>exact (show False from rd).elim
   |mt _=>exact (show False from rd).elim
   |ml _=>exact (show False from rd).elim
   |_=>exact absurd ⟨_,rfl⟩ f1
end L3
namespace L3
open PySem L2
theorem ju{n:Nat}{A:Around}{s:Shared}{xs ys:List D}{its its':List Value}(r1:Hrs s.heap xs its)(r2:Hrs s.heap ys its')(fd:cG n xs=true)(fe:cG n ys=true)(hu:A.units+n<cLine):
  ∀j (h1:j<its.toArray.size) (h2:j<its'.toArray.size),SeqAt.EqAt A s its.toArray[j] its'.toArray[j] (match xs[j]?,ys[j]? with|some x,some y=>bq x y|_,_=>false):=fun j h1 h2=>by
 have h1':j<xs.length:=by rw [r1.length];simpa using h1
 have h2':j<ys.length:=by rw [r2.length];simpa using h2
 rw [List.getElem?_eq_getElem h1',List.getElem?_eq_getElem h2'];exact zf n (r1.get j h1' (by simpa using h1)) (r2.get j h2' (by simpa using h2)) (dZ fd j h1') (dZ fe j h2') hu
theorem jw{xs ys:List D}(hl:xs.length=ys.length):(List.range xs.length).all (fun j=>match xs[j]?,ys[j]? with|some x,some y=>bq x y|_,_=>false)=dH xs ys:=
 gU xs ys _ hl (fun j h1 h2=>by rw [List.getElem?_eq_getElem h1,List.getElem?_eq_getElem h2])
theorem zK{n:Nat}{A:Around}{s:Shared}{xs ys:List D}{p p':Addr}{its its':List Value}(t1:s.heap.IsTuple p its.toArray)(t2:s.heap.IsTuple p' its'.toArray)(r1:Hrs s.heap xs its)(r2:Hrs s.heap ys its')(fd:cB n (.tup xs)=true)(fe:cB n (.tup ys)=true)(hu:A.units+n<cLine):
  SeqAt.RcAt A s (.ref p) (.ref p') (bq (.tup xs) (.tup ys)):=by
 cases n with
 |zero=>simp [cB] at fd
 |succ n=>
  have l1:=r1.length;have l2:=r2.length;have:=SeqAt.RcAt.tuples (A:=A) t1 t2 (by lia) (ju (n:=n) r1 r2 fd fe (by show A.units+1+n<cLine;lia))
  rw [bq]
  by_cases hl:xs.length=ys.length
  ·have hsz:its.toArray.size=its'.toArray.size:=by simp;lia
   rw [hsz] at this;simp only [Nat.min_self,beq_self_eq_true,Bool.and_true] at this;have hxs:its'.toArray.size=xs.length:=by simp;lia
   rw [hxs,jw hl] at this;exact this
  ·have hsz:(its.toArray.size==its'.toArray.size)=false:=by simp;lia
   rw [hsz,Bool.and_false] at this;rw [eE hl];exact this
theorem Ao{n:Nat}{A:Around}{s:Shared}{xs ys:List D}{p p':Addr}{its its':List Value}(t1:s.heap.IsList p its.toArray)(t2:s.heap.IsList p' its'.toArray)(r1:Hrs s.heap xs its)(r2:Hrs s.heap ys its')(fd:cB n (.lst xs)=true)(fe:cB n (.lst ys)=true)(hu:A.units+n<cLine):
  SeqAt.RcAt A s (.ref p) (.ref p') (bq (.lst xs) (.lst ys)):=by
 cases n with
 |zero=>simp [cB] at fd
 |succ n=>
  have l1:=r1.length;have l2:=r2.length;rw [bq]
  by_cases hl:xs.length=ys.length
  ·have:=SeqAt.RcAt.lists (A:=A) t1 t2 (by simp;lia) (by lia) (ju (n:=n) r1 r2 fd fe (by show A.units+1+n<cLine;lia))
   have hxs:its.toArray.size=xs.length:=by simp;lia
   rw [hxs,jw hl] at this;exact this
  ·rw [eE hl]
   exact SeqAt.RcAt.lists_lengths t1 t2 (by simp;lia) (by lia)
theorem vh{n:Nat}{A:Around}{s:Shared}{xs ys:List D}{p p':Addr}{its its':List Value}(t1:s.heap.IsTuple p its.toArray)(t2:s.heap.IsTuple p' its'.toArray)(r1:Hrs s.heap xs its)(r2:Hrs s.heap ys its')(fd:cB n (.tup xs)=true)(fe:cB n (.tup ys)=true)(hu:A.units+n<cLine):
  SeqAt.RcNeAt A s (.ref p) (.ref p') (!bq (.tup xs) (.tup ys)):=by
 cases n with
 |zero=>simp [cB] at fd
 |succ n=>
  have l1:=r1.length;have l2:=r2.length;have:=SeqAt.RcNeAt.tuples (A:=A) t1 t2 (by lia) (ju (n:=n) r1 r2 fd fe (by show A.units+1+n<cLine;lia))
  rw [bq]
  by_cases hl:xs.length=ys.length
  ·have hsz:its.toArray.size=its'.toArray.size:=by simp;lia
   rw [hsz] at this;simp only [Nat.min_self,beq_self_eq_true,Bool.and_true] at this;have hxs:its'.toArray.size=xs.length:=by simp;lia
   rw [hxs,jw hl] at this;exact this
  ·have hsz:(its.toArray.size==its'.toArray.size)=false:=by simp;lia
   rw [hsz,Bool.and_false] at this;rw [eE hl];exact this
theorem uc{n:Nat}{A:Around}{s:Shared}{xs ys:List D}{p p':Addr}{its its':List Value}(t1:s.heap.IsList p its.toArray)(t2:s.heap.IsList p' its'.toArray)(r1:Hrs s.heap xs its)(r2:Hrs s.heap ys its')(fd:cB n (.lst xs)=true)(fe:cB n (.lst ys)=true)(hu:A.units+n<cLine):
  SeqAt.RcNeAt A s (.ref p) (.ref p') (!bq (.lst xs) (.lst ys)):=by
 cases n with
 |zero=>simp [cB] at fd
 |succ n=>
  have l1:=r1.length;have l2:=r2.length;rw [bq]
  by_cases hl:xs.length=ys.length
  ·have:=SeqAt.RcNeAt.lists (A:=A) t1 t2 (by simp;lia) (by lia) (ju (n:=n) r1 r2 fd fe (by show A.units+1+n<cLine;lia))
   have hxs:its.toArray.size=xs.length:=by simp;lia
   rw [hxs,jw hl] at this;exact this
  ·rw [eE hl]
   exact SeqAt.RcNeAt.lists_lengths t1 t2 (by simp;lia) (by lia)
theorem Cq{n:Nat}{A:Around}{s:Shared}{d e:D}{u w:Value}(rd:Hr s.heap d u)(re:Hr s.heap e w)(fd:cB n d=true)(fe:cB n e=true)(hu:A.units+n<cLine):SeqAt.RcAt A s u w (bq d e):=by
 have hu0:A.units<cLine:=by lia
 cases d with
 |non=>
  cases rd;cases e with
  |non=>
   cases re;simpa [bq,Bool.beq_eq_decide_eq] using SeqAt.RcAt.none_none
  |bl y=>
   cases re;simpa [bq] using SeqAt.RcAt.none_bool y
  |int y=>
   obtain ⟨tky,rfl⟩:=re;simpa [bq] using SeqAt.RcAt.none_int y tky
  |str y=>
   obtain ⟨tky,rfl⟩:=re;simpa [bq] using SeqAt.RcAt.none_str y tky
  |tup y=>
   obtain ⟨py,itsy,rfl,ty,ry⟩:=re;simpa [bq] using SeqAt.RcAt.none_tuple ty hu0
  |lst y=>
   obtain ⟨py,itsy,rfl,ty,ry⟩:=re;simpa [bq] using SeqAt.RcAt.none_list ty hu0
  |_=>exact (show False from re).elim
 |bl x=>
  cases rd;cases e with
  |non=>
   cases re;simpa [bq] using SeqAt.RcAt.bool_none x
  |bl y=>
   cases re;simpa [bq,Bool.beq_eq_decide_eq] using SeqAt.RcAt.bool_bool x y
  |int y=>
   obtain ⟨tky,rfl⟩:=re;simpa [bq,Bool.beq_eq_decide_eq] using SeqAt.RcAt.bool_int x y tky
  |str y=>
   obtain ⟨tky,rfl⟩:=re;simpa [bq] using SeqAt.RcAt.bool_str x y tky
  |tup y=>
   obtain ⟨py,itsy,rfl,ty,ry⟩:=re;simpa [bq] using SeqAt.RcAt.bool_tuple x ty hu0
  |lst y=>
   obtain ⟨py,itsy,rfl,ty,ry⟩:=re;simpa [bq] using SeqAt.RcAt.bool_list x ty hu0
  |_=>exact (show False from re).elim
 |int x=>
  obtain ⟨tkx,rfl⟩:=rd;cases e with
  |non=>
   cases re;simpa [bq] using SeqAt.RcAt.int_none x tkx
  |bl y=>
   cases re;simpa [bq,Bool.beq_eq_decide_eq] using SeqAt.RcAt.int_bool x tkx y
  |int y=>
   obtain ⟨tky,rfl⟩:=re;simpa [bq,Bool.beq_eq_decide_eq] using SeqAt.RcAt.int_int x tkx y tky
  |str y=>
   obtain ⟨tky,rfl⟩:=re;simpa [bq] using SeqAt.RcAt.int_str x tkx y tky
  |tup y=>
   obtain ⟨py,itsy,rfl,ty,ry⟩:=re;simpa [bq] using SeqAt.RcAt.int_tuple x tkx ty hu0
  |lst y=>
   obtain ⟨py,itsy,rfl,ty,ry⟩:=re;simpa [bq] using SeqAt.RcAt.int_list x tkx ty hu0
  |_=>exact (show False from re).elim
 |str x=>
  obtain ⟨tkx,rfl⟩:=rd;cases e with
  |non=>
   cases re;simpa [bq] using SeqAt.RcAt.str_none x tkx
  |bl y=>
   cases re;simpa [bq] using SeqAt.RcAt.str_bool x tkx y
  |int y=>
   obtain ⟨tky,rfl⟩:=re;simpa [bq] using SeqAt.RcAt.str_int x tkx y tky
  |str y=>
   obtain ⟨tky,rfl⟩:=re;simpa [bq,Bool.beq_eq_decide_eq] using SeqAt.RcAt.str_str x tkx y tky
  |tup y=>
   obtain ⟨py,itsy,rfl,ty,ry⟩:=re;simpa [bq] using SeqAt.RcAt.str_tuple x tkx ty hu0
  |lst y=>
   obtain ⟨py,itsy,rfl,ty,ry⟩:=re;simpa [bq] using SeqAt.RcAt.str_list x tkx ty hu0
  |_=>exact (show False from re).elim
 |tup x=>
  obtain ⟨px,itsx,rfl,tx,rx⟩:=rd;cases e with
  |non=>
   cases re;simpa [bq] using SeqAt.RcAt.tuple_none tx hu0
  |bl y=>
   cases re;simpa [bq] using SeqAt.RcAt.tuple_bool y tx hu0
  |int y=>
   obtain ⟨tky,rfl⟩:=re;simpa [bq] using SeqAt.RcAt.tuple_int y tky tx hu0
  |str y=>
   obtain ⟨tky,rfl⟩:=re;simpa [bq] using SeqAt.RcAt.tuple_str y tky tx hu0
  |tup y=>
   obtain ⟨py,itsy,rfl,ty,ry⟩:=re;exact zK tx ty rx ry fd fe hu
  |lst y=>
   obtain ⟨py,itsy,rfl,ty,ry⟩:=re;simpa [bq] using SeqAt.RcAt.tuple_list tx ty hu0
  |_=>exact (show False from re).elim
 |lst x=>
  obtain ⟨px,itsx,rfl,tx,rx⟩:=rd;cases e with
  |non=>
   cases re;simpa [bq] using SeqAt.RcAt.list_none tx hu0
  |bl y=>
   cases re;simpa [bq] using SeqAt.RcAt.list_bool y tx hu0
  |int y=>
   obtain ⟨tky,rfl⟩:=re;simpa [bq] using SeqAt.RcAt.list_int y tky tx hu0
  |str y=>
   obtain ⟨tky,rfl⟩:=re;simpa [bq] using SeqAt.RcAt.list_str y tky tx hu0
  |tup y=>
   obtain ⟨py,itsy,rfl,ty,ry⟩:=re;simpa [bq] using SeqAt.RcAt.list_tuple tx ty hu0
  |lst y=>
   obtain ⟨py,itsy,rfl,ty,ry⟩:=re;exact Ao tx ty rx ry fd fe hu
  |_=>exact (show False from re).elim
 |_=>exact (show False from rd).elim
theorem wM{n:Nat}{A:Around}{s:Shared}{d e:D}{u w:Value}(rd:Hr s.heap d u)(re:Hr s.heap e w)(fd:cB n d=true)(fe:cB n e=true)(hu:A.units+n<cLine):SeqAt.RcNeAt A s u w (!bq d e):=by
 have hu0:A.units<cLine:=by lia
 cases d with
 |non=>
  cases rd;cases e with
  |non=>
   cases re;simpa [bq,Bool.beq_eq_decide_eq] using SeqAt.RcNeAt.none_none
  |bl y=>
   cases re;simpa [bq] using SeqAt.RcNeAt.none_bool y
  |int y=>
   obtain ⟨tky,rfl⟩:=re;simpa [bq] using SeqAt.RcNeAt.none_int y tky
  |str y=>
   obtain ⟨tky,rfl⟩:=re;simpa [bq] using SeqAt.RcNeAt.none_str y tky
  |tup y=>
   obtain ⟨py,itsy,rfl,ty,ry⟩:=re;simpa [bq] using SeqAt.RcNeAt.none_tuple ty hu0
  |lst y=>
   obtain ⟨py,itsy,rfl,ty,ry⟩:=re;simpa [bq] using SeqAt.RcNeAt.none_list ty hu0
  |_=>exact (show False from re).elim
 |bl x=>
  cases rd;cases e with
  |non=>
   cases re;simpa [bq] using SeqAt.RcNeAt.bool_none x
  |bl y=>
   cases re;simpa [bq,Bool.beq_eq_decide_eq] using SeqAt.RcNeAt.bool_bool x y
  |int y=>
   obtain ⟨tky,rfl⟩:=re;simpa [bq,Bool.beq_eq_decide_eq] using SeqAt.RcNeAt.bool_int x y tky
  |str y=>
   obtain ⟨tky,rfl⟩:=re;simpa [bq] using SeqAt.RcNeAt.bool_str x y tky
  |tup y=>
   obtain ⟨py,itsy,rfl,ty,ry⟩:=re;simpa [bq] using SeqAt.RcNeAt.bool_tuple x ty hu0
  |lst y=>
   obtain ⟨py,itsy,rfl,ty,ry⟩:=re;simpa [bq] using SeqAt.RcNeAt.bool_list x ty hu0
  |_=>exact (show False from re).elim
 |int x=>
  obtain ⟨tkx,rfl⟩:=rd;cases e with
  |non=>
   cases re;simpa [bq] using SeqAt.RcNeAt.int_none x tkx
  |bl y=>
   cases re;simpa [bq,Bool.beq_eq_decide_eq] using SeqAt.RcNeAt.int_bool x tkx y
  |int y=>
   obtain ⟨tky,rfl⟩:=re;simpa [bq,Bool.beq_eq_decide_eq] using SeqAt.RcNeAt.int_int x tkx y tky
  |str y=>
   obtain ⟨tky,rfl⟩:=re;simpa [bq] using SeqAt.RcNeAt.int_str x tkx y tky
  |tup y=>
   obtain ⟨py,itsy,rfl,ty,ry⟩:=re;simpa [bq] using SeqAt.RcNeAt.int_tuple x tkx ty hu0
  |lst y=>
   obtain ⟨py,itsy,rfl,ty,ry⟩:=re;simpa [bq] using SeqAt.RcNeAt.int_list x tkx ty hu0
  |_=>exact (show False from re).elim
 |str x=>
  obtain ⟨tkx,rfl⟩:=rd;cases e with
  |non=>
   cases re;simpa [bq] using SeqAt.RcNeAt.str_none x tkx
  |bl y=>
   cases re;simpa [bq] using SeqAt.RcNeAt.str_bool x tkx y
  |int y=>
   obtain ⟨tky,rfl⟩:=re;simpa [bq] using SeqAt.RcNeAt.str_int x tkx y tky
  |str y=>
   obtain ⟨tky,rfl⟩:=re;simpa [bq,Bool.beq_eq_decide_eq] using SeqAt.RcNeAt.str_str x tkx y tky
  |tup y=>
   obtain ⟨py,itsy,rfl,ty,ry⟩:=re;simpa [bq] using SeqAt.RcNeAt.str_tuple x tkx ty hu0
  |lst y=>
   obtain ⟨py,itsy,rfl,ty,ry⟩:=re;simpa [bq] using SeqAt.RcNeAt.str_list x tkx ty hu0
  |_=>exact (show False from re).elim
 |tup x=>
  obtain ⟨px,itsx,rfl,tx,rx⟩:=rd;cases e with
  |non=>
   cases re;simpa [bq] using SeqAt.RcNeAt.tuple_none tx hu0
  |bl y=>
   cases re;simpa [bq] using SeqAt.RcNeAt.tuple_bool y tx hu0
  |int y=>
   obtain ⟨tky,rfl⟩:=re;simpa [bq] using SeqAt.RcNeAt.tuple_int y tky tx hu0
  |str y=>
   obtain ⟨tky,rfl⟩:=re;simpa [bq] using SeqAt.RcNeAt.tuple_str y tky tx hu0
  |tup y=>
   obtain ⟨py,itsy,rfl,ty,ry⟩:=re;exact vh tx ty rx ry fd fe hu
  |lst y=>
   obtain ⟨py,itsy,rfl,ty,ry⟩:=re;simpa [bq] using SeqAt.RcNeAt.tuple_list tx ty hu0
  |_=>exact (show False from re).elim
 |lst x=>
  obtain ⟨px,itsx,rfl,tx,rx⟩:=rd;cases e with
  |non=>
   cases re;simpa [bq] using SeqAt.RcNeAt.list_none tx hu0
  |bl y=>
   cases re;simpa [bq] using SeqAt.RcNeAt.list_bool y tx hu0
  |int y=>
   obtain ⟨tky,rfl⟩:=re;simpa [bq] using SeqAt.RcNeAt.list_int y tky tx hu0
  |str y=>
   obtain ⟨tky,rfl⟩:=re;simpa [bq] using SeqAt.RcNeAt.list_str y tky tx hu0
  |tup y=>
   obtain ⟨py,itsy,rfl,ty,ry⟩:=re;simpa [bq] using SeqAt.RcNeAt.list_tuple tx ty hu0
  |lst y=>
   obtain ⟨py,itsy,rfl,ty,ry⟩:=re;exact uc tx ty rx ry fd fe hu
  |_=>exact (show False from re).elim
 |_=>exact (show False from rd).elim
section
variable {X:Cx}{B:Bd}{pins:List (Addr×Obj)}{σ:L2.St}{H:Hp}{s:Shared}{M:Mem}
mutual
theorem zh(I:Inv X pins σ H s):∀{n:Nat} {d:D} {v:V} {u:Value},cB n d=true->Rp X.K H d v->RelV v u->Hr s.heap d u
 |_,.non,v,u,_,r,q=>by cases r;exact q
 |_,.bl _,v,u,_,r,q=>by cases r;exact q
 |_,.int _,v,u,_,r,q=>by cases r;exact q
 |_,.str _,v,u,_,r,q=>by cases r;exact q
 |n+1,.tup xs,v,u,f,r,q=>by
  obtain ⟨p,vs,rfl,t,r⟩:=r;cases q;obtain ⟨its,rv,ht,_⟩:=I.tuple t.sq;exact ⟨p,its,rfl,ht,fI I (n:=n) f r rv⟩
 |n+1,.lst xs,v,u,f,r,q=>by
  obtain ⟨p,vs,rfl,t,r⟩:=r;cases q;obtain ⟨its,rv,ht,_⟩:=I.list t.sq;exact ⟨p,its,rfl,ht.isList,fI I (n:=n) f r rv⟩
 |0,.tup _,_,_,f,_,_=>by simp [cB] at f
 |0,.lst _,_,_,f,_,_=>by simp [cB] at f
 |_,.ty _,_,_,f,_,_=>by simp [cB] at f
 |_,.ref _,_,_,f,_,_=>by simp [cB] at f
 |_,.mt _,_,_,f,_,_=>by simp [cB] at f
 |_,.ml _,_,_,f,_,_=>by simp [cB] at f
theorem fI(I:Inv X pins σ H s):∀{n:Nat} {ds:List D} {vs:List V} {us:List Value},cG n ds=true->Rps X.K H ds vs->Vals vs us->Hrs s.heap ds us
 |_,[],vs,us,_,r,q=>by cases r;cases q;rfl
 |n,d::ds,vs,us,f,r,q=>by
  obtain ⟨v,r',rfl,a,b⟩:=r;rw [cG,Bool.and_eq_true] at f;cases q with
  |cons q1 q2=>exact ⟨_,_,rfl,zh I f.1 a q1,fI I f.2 b q2⟩
end
def dv(M:Mem):D->D
 |.ref a=>match M a with
  |some (.lst xs)=>.lst xs
  |_=>.ref a
 |d=>d
theorem kR(I:Inv X pins σ H s){n:Nat}{d:D}{v:V}{u:Value}(rh:RepH X.K H M)(f:cB n (dv M d)=true)(r:Rp X.K H d v)(q:RelV v u):Hr s.heap (dv M d) u:=by
 cases d with
 |ref a=>
  cases r;simp only [dv] at f ⊢
  split at f
  ·rename_i xs e
   obtain ⟨vs,h1,h2⟩:=rh _ _ e;obtain ⟨its,rv,ht,_⟩:=I.list (SqL.of h1);cases q;cases n with
   |zero=>simp [cB] at f
   |succ n=>exact ⟨a,its,rfl,ht.isList,fI I (n:=n) f h2 rv⟩
  ·simp [cB] at f
 |_=>exact zh I f r q
def dN:iW:=fun x y M Q=>cB 60 (dv M x)=true/\cB 60 (dv M y)=true/\Q (.bl (bq (dv M x) (dv M y))) M
def fZ:iW:=fun x y M Q=>cB 60 (dv M x)=true/\cB 60 (dv M y)=true/\Q (.bl (!bq (dv M x) (dv M y))) M
theorem bL(hu:X.A.units+64<cLine):eg X (compareOp .Eq) (liftR2 X dN):=by
 intro pins s σ H x y v u Q I rx ry h;obtain ⟨d1,d2,M,QQ,rh,r1,r2,⟨f1,f2,h⟩,up⟩:=h;exact Cq (kR I rh f1 r1 rx) (kR I rh f2 r2 ry) f1 f2 (by lia) _ _ _ _ ⟨.bl _,H,I,rfl,up _ M h _ H rh Frm.refl rfl⟩
theorem cW(hu:X.A.units+64<cLine):eg X (compareOp .NotEq) (liftR2 X fZ):=by
 intro pins s σ H x y v u Q I rx ry h;obtain ⟨d1,d2,M,QQ,rh,r1,r2,⟨f1,f2,h⟩,up⟩:=h;exact wM (kR I rh f1 r1 rx) (kR I rh f2 r2 ry) f1 f2 (by lia) _ _ _ _ ⟨.bl _,H,I,rfl,up _ M h _ H rh Frm.refl rfl⟩
open Classical in
noncomputable def oE(h:Heap)(x:D)(u:Value):Bool:=if q:∃d,Hr h d u then bq q.choose x else false
theorem vW{h:Heap}{x d:D}{u:Value}(r:Hr h d u):oE h x u=bq d x:=by
 have q:∃d,Hr h d u:=⟨d,r⟩;unfold oE;rw [dif_pos q,v8 q.choose_spec r]
theorem ip{h:Heap}{x:D}:∀{ds:List D} {us:List Value},Hrs h ds us->us.any (oE h x)=ds.any fun d=>bq d x
 |[],_,r=>by cases r;rfl
 |d::ds,_,r=>by
  obtain ⟨v,r',rfl,a,b⟩:=r;rw [List.any_cons,List.any_cons,vW a,ip b]
theorem hZ{A:Around}{n:Nat}{x:D}{w:Value}(rx:Hr s.heap x w)(fx:cB n x=true)(hu:A.units+n<cLine):∀{ds:List D} {us:List Value},Hrs s.heap ds us->cG n ds=true->∀u∈us,SeqAt.EqAt A s u w (oE s.heap x u)
 |[],_,r,_,u,hu=>by cases r;cases hu
 |d::ds,_,r,f,u,h=>by
  obtain ⟨v,r',rfl,a,b⟩:=r;rw [cG,Bool.and_eq_true] at f;rcases List.mem_cons.mp h with rfl|h
  ·rw [vW a];exact zf n a rx f.1 fx hu
  ·exact hZ rx fx hu b f.2 u h
def nu(M:Mem)(x y:D):Option Bool:=match bR M y with
 |some xs=>if cB 60 (dv M x)=true/\cG 60 xs=true then some (xs.any fun d=>bq d (dv M x)) else none
 |none=>match y with
  |.ref a=>match z9 M a x with
   |some o=>some o.isSome
   |none=>none
  |_=>none
def zw:iW:=fun x y M Q=>match nu M x y with
 |some k=>Q (.bl k) M
 |none=>False
def kc:iW:=fun x y M Q=>match nu M x y with
 |some k=>Q (.bl (!k)) M
 |none=>False
theorem pk(hu:X.A.units+64<cLine):eg X (compareOp .In) (liftR2 X zw):=by
 intro pins s σ H x y v u Q I rx ry h;obtain ⟨d1,d2,M,QQ,rh,r1,r2,h,up⟩:=h;unfold zw at h
 split at h
 ·rename_i k e
  have fin:=up _ M h _ H rh Frm.refl rfl;unfold nu at e
  split at e
  ·rename_i xs ex
   split at e
   ·rename_i f
    cases e;obtain ⟨p,vs,rfl,hq,r⟩:=gX rh r2 ex;cases ry;have hx:=kR I rh f.1 r1 rx;rcases hq with hq|hq
    ·obtain ⟨its,rv,pl,_⟩:=I.list hq
     have hs:=fI I f.2 r rv;refine SeqAt.in_listAt (oE s.heap (dv M d1)) pl.isList (fun w hw=>hZ hx f.1 (by show X.A.units+1+60<cLine;lia) hs f.2 w (by simpa using hw)) ⟨.bl _,H,I,rfl,?_⟩
     rw [show its.toArray.any (oE s.heap (dv M d1))=its.any (oE s.heap (dv M d1)) by simp,ip hs]
     exact fin
    ·obtain ⟨its,rv,pl,_⟩:=I.tuple hq
     have hs:=fI I f.2 r rv;refine SeqAt.in_tupleAt (oE s.heap (dv M d1)) pl (fun w hw=>hZ hx f.1 (by show X.A.units+1+60<cLine;lia) hs f.2 w (by simpa using hw)) ⟨.bl _,H,I,rfl,?_⟩
     rw [show its.toArray.any (oE s.heap (dv M d1))=its.any (oE s.heap (dv M d1)) by simp,ip hs]
     exact fin
   ·cases e
  ·split at e
   ·split at e
    ·rename_i o eo
     cases e;cases r2;cases ry;rcases lE rh r1 eo with ⟨rfl,g⟩|⟨d,w,rfl,g,_⟩
     ·exact C5 (by lia) I g rx fun s' I'=>⟨.bl _,H,I',rfl,fin⟩
     ·exact C5 (by lia) I g rx fun s' I'=>⟨.bl _,H,I',rfl,fin⟩
    ·cases e
   ·cases e
 ·exact h.elim
theorem sj(hu:X.A.units+64<cLine):eg X (compareOp .NotIn) (liftR2 X kc):=by
 intro pins s σ H x y v u Q I rx ry h;obtain ⟨d1,d2,M,QQ,rh,r1,r2,h,up⟩:=h;unfold kc at h
 split at h
 ·rename_i k e
  have fin:=up _ M h _ H rh Frm.refl rfl;unfold nu at e
  split at e
  ·rename_i xs ex
   split at e
   ·rename_i f
    cases e;obtain ⟨p,vs,rfl,hq,r⟩:=gX rh r2 ex;cases ry;have hx:=kR I rh f.1 r1 rx;rcases hq with hq|hq
    ·obtain ⟨its,rv,pl,_⟩:=I.list hq
     have hs:=fI I f.2 r rv;refine SeqAt.notIn_listAt (oE s.heap (dv M d1)) pl.isList (fun w hw=>hZ hx f.1 (by show X.A.units+1+60<cLine;lia) hs f.2 w (by simpa using hw)) ⟨.bl _,H,I,rfl,?_⟩
     rw [show its.toArray.any (oE s.heap (dv M d1))=its.any (oE s.heap (dv M d1)) by simp,ip hs]
     exact fin
    ·obtain ⟨its,rv,pl,_⟩:=I.tuple hq
     have hs:=fI I f.2 r rv;refine SeqAt.notIn_tupleAt (oE s.heap (dv M d1)) pl (fun w hw=>hZ hx f.1 (by show X.A.units+1+60<cLine;lia) hs f.2 w (by simpa using hw)) ⟨.bl _,H,I,rfl,?_⟩
     rw [show its.toArray.any (oE s.heap (dv M d1))=its.any (oE s.heap (dv M d1)) by simp,ip hs]
     exact fin
   ·cases e
  ·split at e
   ·split at e
    ·rename_i o eo
     cases e;cases r2;cases ry;rcases lE rh r1 eo with ⟨rfl,g⟩|⟨d,w,rfl,g,_⟩
     ·exact rC (by lia) I g rx fun s' I'=>⟨.bl _,H,I',rfl,fin⟩
     ·exact rC (by lia) I g rx fun s' I'=>⟨.bl _,H,I',rfl,fin⟩
    ·cases e
   ·cases e
 ·exact h.elim
end
end L3
namespace L3
open PySem L2
structure DEnds where
 nx:Dl->Mem->Prop
 rt:DK
 bk:Dl->Mem->Prop:=fun _ _=>False
 ct:Dl->Mem->Prop:=fun _ _=>False
abbrev aZ:=DEnds->Dl->Mem->Prop
def UpN(X:Cx)(B:Bd)(M:Mem)(H:Hp)(QQ:Dl->Mem->Prop)(Q:L2.St->Hp->Prop):Prop:=∀δ M',QQ δ M'->∀σ H',Frm M H M' H'->SR X B δ M' σ H'->Q σ H'
theorem UpN.go{X:Cx}{B:Bd}{M M1:Mem}{H H1:Hp}{QQ:Dl->Mem->Prop}{Q:L2.St->Hp->Prop}(u:UpN X B M H QQ Q)(i:Frm M H M1 H1):UpN X B M1 H1 QQ Q:=fun δ M q σ H' a b=>u δ M q σ H' (i.trans a) b
structure UpD(X:Cx)(B:Bd)(M:Mem)(H:Hp)(DD:DEnds)(D:Ends):Prop where
 nx:UpN X B M H DD.nx D.nx
 rt:Up X.K M H DD.rt D.rt
 bk:UpN X B M H DD.bk D.bk
 ct:UpN X B M H DD.ct D.ct
theorem UpD.go{X:Cx}{B:Bd}{M M1:Mem}{H H1:Hp}{DD:DEnds}{D:Ends}(u:UpD X B M H DD D)(i:Frm M H M1 H1):UpD X B M1 H1 DD D:=⟨u.nx.go i,u.rt.go i,u.bk.go i,u.ct.go i⟩
inductive liftS(X:Cx)(B:Bd)(T:aZ)(D:Ends)(σ:St)(H:Hp):Prop
 |mk (δ:Dl) (M:Mem) (DD:DEnds) (s:SR X B δ M σ H) (h:T DD δ M) (u:UpD X B M H DD D):liftS X B T D σ H
def DS(X:Cx)(B:Bd)(st:Stmt)(T:aZ):Prop:=PS X st (liftS X B T)
def xK(X:Cx)(B:Bd)(st:List Stmt)(T:aZ):Prop:=qC X st (liftS X B T)
section
variable {X:Cx}{B:Bd}{st:Stmt}{rest:List Stmt}{t u:aZ}{e:Expr}{te:cj}{pos:Pos}
def bg:aZ:=fun D δ M=>D.nx δ M
def aC(t u:aZ):aZ:=fun D δ M=>t { D with nx:=u D } δ M
theorem ba:xK X B [] bg:=nE yB fun D σ H ⟨δ,M,DD,s,h,up⟩=>up.nx δ M h σ H Frm.refl s
theorem aj(h1:DS X B st t)(h2:xK X B rest u):xK X B (st::rest) (aC t u):=by
 refine nE (tF h1 h2) ?_
 rintro D σ H ⟨δ,M,DD,s,h,up⟩
 exact ⟨δ,M,{ DD with nx:=u DD },s,h,⟨fun δ' M' q σ' H' i s'=>⟨δ',M',DD,s',q,up.go i⟩,up.rt,up.bk,up.ct⟩⟩
theorem av(h1:DS X B st t):xK X B [st] t:=qY h1
def cD(te:cj):aZ:=fun D δ M=>te δ M fun _ M1=>D.nx δ M1
theorem dz(he:DE X B e te)(hs:swapsWith e none pos.line X.env=pure false:=by rfl):DS X B (.Expr e pos) (cD te):=by
 refine eN (xN he hs) ?_
 rintro D σ H ⟨δ,M,DD,s,h,up⟩
 exact ⟨δ,M,_,s,h,fun d M' q v H' rh i r=>up.nx δ M' q σ H' i (s.go rh i)⟩
def bC(te:cj):aZ:=fun D δ M=>te δ M D.rt
theorem a_(he:DE X B e te):DS X B (.Return (some e) pos) (bC te):=by
 refine eN (AA he) ?_
 rintro D σ H ⟨δ,M,DD,s,h,up⟩
 exact ⟨δ,M,_,s,h,up.rt⟩
def bz(c:gr)(t u:aZ):aZ:=fun D δ M=>c δ M fun b M1=>if b=true then t D δ M1 else u D δ M1
theorem bG{c:Expr}{a b:List Stmt}{tc:gr}(hc:DT X B c tc)(ha:xK X B a t)(hb:xK X B b u):DS X B (.If c a b pos) (bz tc t u):=by
 refine eN (B_ hc ha hb) ?_
 rintro D σ H ⟨δ,M,DD,s,h,up⟩
 refine ⟨δ,M,_,s,h,fun c M' q H' rh i=>?_⟩;cases c with
 |true=>rw [if_pos rfl] at q ⊢;exact ⟨δ,M',DD,s.go rh i,q,up.go i⟩
 |false=>rw [if_neg Bool.false_ne_true] at q ⊢;exact ⟨δ,M',DD,s.go rh i,q,up.go i⟩
abbrev jI:=D->Dl->Mem->(Dl->Mem->Prop)->Prop
abbrev n_:=List D->Dl->Mem->(Dl->Mem->Prop)->Prop
inductive liftG(X:Cx)(B:Bd)(g:jI)(v:V)(σ:St)(H:Hp)(Q:St->Hp->Prop):Prop
 |mk (d:L3.D) (δ:Dl) (M:Mem) (QQ:Dl->Mem->Prop) (s:SR X B δ M σ H) (r:Rp X.K H d v) (h:g d δ M QQ) (u:UpN X B M H QQ Q):liftG X B g v σ H Q
inductive liftGs(X:Cx)(B:Bd)(g:n_)(vs:List V)(σ:St)(H:Hp)(Q:St->Hp->Prop):Prop
 |mk (ds:List L3.D) (δ:Dl) (M:Mem) (QQ:Dl->Mem->Prop) (s:SR X B δ M σ H) (r:Rps X.K H ds vs) (h:g ds δ M QQ) (u:UpN X B M H QQ Q):liftGs X B g vs σ H Q
def DG(X:Cx)(B:Bd)(tg:Expr)(g:jI):Prop:=PG X tg (liftG X B g)
def DGs(X:Cx)(B:Bd)(tgs:List Expr)(g:n_):Prop:=zX X tgs (liftGs X B g)
theorem jm{tg:Expr}{t t':TG}(h:PG X tg t)(w:∀v σ H Q,t' v σ H Q->t v σ H Q):PG X tg t':=fun pins s σ H v u Q I r q=>h pins s σ H v u Q I r (w v σ H Q q)
theorem nb{tg:List Expr}{t t':zy}(h:zX X tg t)(w:∀v σ H Q,t' v σ H Q->t v σ H Q):zX X tg t':=fun pins s σ H v u Q I r q=>h pins s σ H v u Q I r (w v σ H Q q)
theorem SR.set{δ:Dl}{M:Mem}{σ:L2.St}{H:Hp}{i:Nat}{d:D}{v:V}(s:SR X B δ M σ H)(r:Rp X.K H d v):SR X B (δ.set i (some d)) M (σ.set i (some v)) H:=⟨s.i0,s.rh,s.rs.set r⟩
def am(i:Nat):jI:=fun d δ M Q=>Q (δ.set i (some d)) M
theorem aL{i:Nat}{x:Str}(hN:X.N.Nodup)(hi:X.N[i]?=some x)(hx:wT X.env.scope x)(hf:X.fn x=true\/X.env.scope.names.lookup x=some .local:=by first|exact .inl rfl|exact .inr rfl|assumption):DG X B (.Name x pos) (am i):=by
 refine jm (yZ hN hi hx hf) ?_
 rintro v σ H Q ⟨d,δ,M,QQ,s,r,h,u⟩
 exact u _ M h _ H Frm.refl (s.set r)
def dj:n_:=fun ds δ M Q=>match ds with
 |[]=>Q δ M
 |_=>False
def bp(t:jI)(u:n_):n_:=fun ds δ M Q=>match ds with
 |d::r=>t d δ M fun δ' M'=>u r δ' M' Q
 |[]=>False
theorem cy:DGs X B [] dj:=by
 refine nb xG ?_
 rintro v σ H Q ⟨ds,δ,M,QQ,s,r,h,u⟩
 cases ds with
 |nil=>exact ⟨r,u δ M h σ H Frm.refl s⟩
 |cons _ _=>exact (show False from h).elim
theorem aN{e:Expr}{es:List Expr}{t:jI}{u:n_}(h1:DG X B e t)(h2:DGs X B es u)
  (hs:(assignEach (e::es) X.env).map (·.2)=assign e X.env::(assignEach es X.env).map (·.2):=by rfl):DGs X B (e::es) (bp t u):=by
 refine nb (v5 h1 h2 hs) ?_
 rintro v σ H Q ⟨ds,δ,M,QQ,s,r,h,up⟩
 cases ds with
 |nil=>exact (show False from h).elim
 |cons d ds=>
  obtain ⟨v1,vr,rfl,r1,r2⟩:=r;refine ⟨v1,vr,rfl,d,δ,M,_,s,r1,h,fun δ' M' q σ' H' i s'=>?_⟩;exact ⟨ds,δ',M',QQ,s',r2.mf s.rh i,q,up.go i⟩
def dl(n:Nat)(t:n_):jI:=fun d δ M Q=>match d with
 |.tup xs=>xs.length=n/\t xs δ M Q
 |_=>False
theorem de{es:List Expr}{k:Nat}{t:n_}{n:Nat}(hc:X.calm=true)(h:DGs X B es t)
  (hn:(assignEach es X.env).length=n:=by rfl) (hst:(assignEach es X.env).findIdx? (·.1)=none:=by rfl):DG X B (.Tuple es k pos) (dl n t):=by
 refine jm (zQ hc h hn hst) ?_
 rintro v σ H Q ⟨d,δ,M,QQ,s,r,h,up⟩
 cases d with
 |tup xs=>
  obtain ⟨p,vs,rfl,ht,r⟩:=r;exact ⟨p,vs,rfl,ht.sq,by rw [<- r.length];exact h.1,xs,δ,M,QQ,s,r,h.2,up⟩
 |_=>exact (show False from h).elim
def aK(te:cj)(g:jI):aZ:=fun D δ M=>te δ M fun x M1=>g x δ M1 D.nx
theorem cU{tg e:Expr}{te:cj}{g:jI}(he:DE X B e te)(hg:DG X B tg g)(hs:swapsWithSole [tg] e pos.line X.env=pure false:=by rfl)(hw:swappedStores [tg] e X.env=pure none:=by rfl)
  (h1:(assignEach [tg] X.env).map (·.2)=[assign tg X.env]:=by rfl):DS X B (.Assign [tg] e pos) (aK te g):=by
 refine eN (AF he hg hs hw h1) ?_
 rintro D σ H ⟨δ,M,DD,s,h,up⟩
 refine ⟨δ,M,_,s,h,fun d M' q v H' rh i r=>?_⟩;exact ⟨d,δ,M',DD.nx,s.go rh i,r,q,up.nx.go i⟩
theorem aH{i:Nat}{x:Str}{e:Expr}{te:cj}{pos':Pos}(hN:X.N.Nodup)(hi:X.N[i]?=some x)(hx:wT X.env.scope x)(he:DE X B e te)(hs:swapsWith e (some (.Name x pos')) pos.line X.env=pure false:=by rfl)(hf:X.fn x=true\/X.env.scope.names.lookup x=some .local:=by first|exact .inl rfl|exact .inr rfl|assumption):
  DS X B (.Assign [.Name x pos'] e pos) (aK te (am i)):=by
 refine eN (uJ hN hi hx he hs hf) ?_
 rintro D σ H ⟨δ,M,DD,s,h,up⟩
 refine ⟨δ,M,_,s,h,fun d M' q v H' rh i r=>?_⟩;exact up.nx _ M' q _ H' i ((s.go rh i).set r)
def xT(o i v:D)(M:Mem)(Q:Mem->Prop):Prop:=match o with
 |.ref a=>match M a,i with
  |some (.lst xs),.int k=>match qh xs.length k with
   |some j=>Q (M.upd a (.lst (xs.set j v)))
   |none=>False
  |some (.dK kvs),y=>match qV y with
   |some k=>kvs.length<sizeLine/\Q (M.upd a (.dK (xU kvs k v)))
   |none=>False
  |some (.dT kvs),y=>match zI y with
   |some k=>kvs.length<sizeLine/\Q (M.upd a (.dT (xU kvs k v)))
   |none=>False
  |_,_=>False
 |_=>False
inductive liftSet(X:Cx)(o i v:V)(H:Hp)(Q:Hp->Prop):Prop
 |mk (d1 d2 d3:L3.D) (M:Mem) (QQ:Mem->Prop) (rh:RepH X.K H M) (r1:Rp X.K H d1 o) (r2:Rp X.K H d2 i) (r3:Rp X.K H d3 v) (h:xT d1 d2 d3 M QQ) (u:∀M',QQ M'->∀H',RepH X.K H' M'->Frm M H M' H'->Q H'):liftSet X o i v H Q
theorem xC(hu:X.A.units+1<cLine):AK X (liftSet X):=by
 intro pins s σ H o i v ov iv u Q I ro ri rv h;obtain ⟨d1,d2,d3,M,QQ,rh,r1,r2,r3,h,up⟩:=h;unfold xT at h
 split at h
 ·rename_i a
  cases r1;cases ro
  split at h
  ·rename_i xs k hM
   cases r2;obtain ⟨vs,h1,h2⟩:=rh _ _ hM
   split at h
   ·rename_i j ej
    refine uA pins s σ H (.ref a) _ v _ iv u Q I rfl ri rv ⟨a,vs,k,j,rfl,rfl,h1,by rw [<- h2.length];exact ej,?_⟩
    have i2:Imm H (upd H a (.lst (vs.set j v))):=Imm.upd (by rw [h1];trivial)
    exact up _ h _ (rh.put (by rw [h1];trivial) ⟨_,upd_same,(h2.set r3 j).mono i2⟩) (Frm.put (.inr ⟨_,hM⟩))
   ·exact h.elim
  ·rename_i kvs hM
   obtain ⟨ws,h1,h2⟩:=rh _ _ hM
   split at h
   ·rename_i k ek
    have ev:=lA r2 ek;subst ev;have i2:Imm H (upd H a (.dK (gm ws k v))):=Imm.upd (by rw [h1];trivial)
    refine kS hu I (DPut.k h1 (by rw [<- h2.length];exact h.1)) ri rv fun s' I'=>⟨_,I',?_⟩
    exact up _ h.2 _ (rh.put (by rw [h1];trivial) ⟨_,upd_same,(h2.put k r3).mono i2⟩) (Frm.put (.inr ⟨_,hM⟩))
   ·exact h.elim
  ·rename_i kvs hM
   obtain ⟨ws,h1,h2⟩:=rh _ _ hM
   split at h
   ·rename_i k ek
    obtain ⟨b,rfl,hb⟩:=nz r2 ek;have i2:Imm H (upd H a (.dT (gm ws k v))):=Imm.upd (by rw [h1];trivial)
    refine kS hu I (DPut.t h1 hb (by rw [<- h2.length];exact h.1)) ri rv fun s' I'=>⟨_,I',?_⟩
    exact up _ h.2 _ (rh.put (by rw [h1];trivial) ⟨_,upd_same,(h2.put k r3).mono i2⟩) (Frm.put (.inr ⟨_,hM⟩))
   ·exact h.elim
  ·exact h.elim
 ·exact h.elim
def jb(to ti:cj):jI:=fun v δ M Q=>to δ M fun o M1=>ti δ M1 fun i M2=>xT o i v M2 fun M3=>Q δ M3
theorem iK{o i:Expr}{to ti:cj}(hu:X.A.units+1<cLine)(ho:DE X B o to)(hi:DE X B i ti)
  (ha:∀v,assign (.Subscript o i pos) X.env v=(do
   let ov <- holding [v] (eval o X.env)
   let iv <- holding [v,ov] (eval i X.env)
   standAt pos
   holding [v,ov,iv] (setItem ov iv v)
   release [v,ov,iv] []):=by intro _;rfl):DG X B (.Subscript o i pos) (jb to ti):=by
 refine jm (BF ho hi (xC hu) ha) ?_
 rintro v σ H Q ⟨d,δ,M,QQ,s,r,h,up⟩
 refine ⟨δ,M,_,s,h,fun x M1 h1 v1 H1 rh1 i1 r1=>?_⟩;refine ⟨δ,M1,_,s.go rh1 i1,h1,fun y M2 h2 v2 H2 rh2 i2 r2=>?_⟩;exact ⟨x,y,d,M2,_,rh2,r1.mf rh1 i2,r2,r.mf s.rh (i1.trans i2),h2,fun M3 h3 H3 rh3 i3=>up δ M3 h3 σ H3 ((i1.trans i2).trans i3) (s.go rh3 ((i1.trans i2).trans i3))⟩
end
end L3
namespace L3
open PySem L2
section
variable {X:Cx}{B:Bd}{o e value:Expr}{f:Str}{pos pos' tpos:Pos}{ta tv te:cj}{C:Addr}
structure BxF(g:jI)(tb:aZ)(D:DEnds)(ok:Mem->Prop):Type
structure DIt where
 items:List D
 src:List (Addr×List D)
def DIt.ok(I:DIt)(M:Mem):Prop:=∀p∈I.src,M p.1=some (.lst p.2)
abbrev tq:=Dl->Mem->(DIt->Mem->Prop)->Prop
def Ca(K:W.Frag)(H0:Hp)(it:DIt)(J:It):Prop:=∀(i:Nat) (H:Hp) (M:Mem),Imm H0 H->RepH K H M->it.ok M->
 (∀d,it.items[i]?=some d->J.go i H/\∀x H',J.yld i H x H'->Frm M H M H'/\RepH K H' M/\Rp K H' d x)/\(it.items.length<=i->J.stop i H)
inductive liftI(X:Cx)(B:Bd)(T:tq)(σ:St)(H:Hp)(R:It->Hp->Prop):Prop
 |mk (δ:Dl) (M:Mem) (RR:DIt->Mem->Prop) (s:SR X B δ M σ H) (h:T δ M RR) (u:∀it M',RR it M'->∀J H',RepH X.K H' M'->Frm M H M' H'->Ca X.K H' it J->R J H'):liftI X B T σ H R
def DI(X:Cx)(B:Bd)(tg iter:Expr)(T:tq):Prop:=PI X tg iter (liftI X B T)
theorem ik{tg iter:Expr}{t t':TI}(h:PI X tg iter t)(w:∀σ H Q,t' σ H Q->t σ H Q):PI X tg iter t':=fun pins s σ H Q I q=>h pins s σ H Q I (w σ H Q q)
def qg(g:jI)(tb:aZ)(DD:DEnds)(ok:Mem->Prop)(b:BxF g tb DD ok):List D->Dl->Mem->Prop
 |[],δ,M=>ok M/\DD.nx δ M
 |x::xs,δ,M=>ok M/\g x δ M fun δ2 M2=>tb { DD with nx:=qg g tb DD ok b xs,ct:=qg g tb DD ok b xs,bk:=DD.nx } δ2 M2
def fo(wi:tq)(g:jI)(tb:aZ):aZ:=fun D δ M=>wi δ M fun it M1=>qg g tb D it.ok ⟨⟩ it.items δ M1
theorem yg{g:jI}{tb:aZ}{DD:DEnds}{ok:Mem->Prop}{b:BxF g tb DD ok}{xs:List D}{δ:Dl}{M:Mem}(h:qg g tb DD ok b xs δ M):ok M:=by
 cases xs with
 |nil=>exact h.1
 |cons _ _=>exact h.1
theorem fu{tg iter:Expr}{body:List Stmt}{wi:tq}{g:jI}{tb:aZ}(hp:PassesOwn (model X.prog X.w) X.A X.env X.xe)(hc:X.calm=true)(hi:DI X B tg iter wi)(hg:DG X B tg g)(hb:xK X B body tb)
  (hs:∀x,foldedSetIterable iter X.env x=pure x:=by intro _;rfl):DS X B (.For tg iter body [] pos) (fo wi g tb):=by
 refine eN (zV hp hc hi hg hb hs) ?_
 rintro D σ H ⟨δ,M,DD,s,h,up⟩
 refine ⟨δ,M,_,s,h,fun it M1 h1 J H1 rh1 i1 hJ=>?_⟩;refine ⟨fun i m σ' H'=>m=it.items.length-i/\i<=it.items.length/\∃δ' M',SR X B δ' M' σ' H'/\Frm M1 H1 M' H'/\qg g tb DD it.ok ⟨⟩ (it.items.drop i) δ' M',⟨_,rfl,Nat.zero_le _,δ,M1,s.go rh1 i1,Frm.refl,h1⟩,?_⟩
 rintro i m σ2 H2 ⟨rfl,hi',δ2,M2,s2,i2,h2⟩
 have hok:=yg h2;obtain ⟨hgo,hstop⟩:=hJ i H2 M2 (i2.imm rh1) s2.rh hok
 by_cases hlt:i<it.items.length
 ·rw [List.drop_eq_getElem_cons hlt] at h2
  obtain ⟨go,hy⟩:=hgo _ (List.getElem?_eq_getElem hlt);refine .inr ⟨go,fun σ' H'=>∃δ' M',SR X B δ' M' σ' H'/\Frm M1 H1 M' H'/\qg g tb DD it.ok ⟨⟩ (it.items.drop (i+1)) δ' M',fun σ' H' z=>⟨it.items.length-(i+1),by omega,rfl,hlt,z⟩,fun x H3 hx=>?_⟩
  obtain ⟨i3,rh3,rx⟩:=hy x H3 hx;refine ⟨_,δ2,M2,_,s2.go rh3 i3,rx,h2.2,fun δ4 M4 h4 σ4 H4 i4 s4=>?_⟩;have i14:=(i2.trans i3).trans i4;refine ⟨δ4,M4,_,s4,h4,⟨?_,(up.go (i1.trans i14)).rt,(up.go (i1.trans i14)).nx,?_⟩⟩
  ·exact fun δ5 M5 q5 σ5 H5 i5 s5=>⟨δ5,M5,s5,i14.trans i5,q5⟩
  ·exact fun δ5 M5 q5 σ5 H5 i5 s5=>⟨δ5,M5,s5,i14.trans i5,q5⟩
 ·rw [List.drop_eq_nil_of_le (by omega)] at h2
  exact .inl ⟨hstop (by omega),up.nx _ _ h2.2 σ2 H2 (i1.trans i2) s2⟩
end
end L3
namespace L2
open PySem PySem.Spec PyProof.Rows
section
variable {X:Cx}{B:Bd}{tg:Expr}
def Dd(K:W.Frag)(tl:TE):TI:=fun σ H R=>tl σ H fun x H1=>∃a b xs,x=.ref a/\gO K b H1 a xs/\R (if b=true then Itl K a else Itt K a) H1
theorem xE{l:Expr}{tl:TE}(hl:PE X l tl):PI X tg l (Dd X.K tl):=by
 intro pins s σ H R I h;refine cL (hl pins s σ H _ I h) fun v s1 ⟨x,H1,I1,r1,q1⟩=>?_;obtain ⟨a,b,xs,e,hq,q⟩:=q1;subst e;cases r1;cases b with
 |true=>
  obtain ⟨its,rv,p,hz⟩:=I1.list (show SqL X.K H1 a xs from hq);refine wpAny_pyIter_list p.isList ?_;refine ⟨s1.heap.objs.size,[s1.heap.objs.size],_,_,H1,rfl,I1.kept (t':=s1.toks) fun b o e=>Heap.get?_push_of_some _ e,sQ a _,⟨_,Heap.get?_push_size _ rfl,rfl,rfl⟩,fun b hb=>?_,q⟩;have e:b=s1.heap.objs.size:=by simpa using hb
  subst e;exact I1.fpOk (Nat.le_refl _) (I1.hok.fresh (Nat.le_refl _))
 |false=>
  obtain ⟨its,rv,p,hz⟩:=I1.tuple (show iB X.K H1 a xs from hq);refine wpAny_pyIter_tuple (show s1.heap.IsTuple a its.toArray from p) ?_;refine ⟨s1.heap.objs.size,[s1.heap.objs.size],_,_,H1,rfl,I1.kept (t':=s1.toks) fun b o e=>Heap.get?_push_of_some _ e,pO a _,⟨_,Heap.get?_push_size _ rfl,rfl,rfl⟩,fun b hb=>?_,q⟩;have e:b=s1.heap.objs.size:=by simpa using hb
  subst e;exact I1.fpOk (Nat.le_refl _) (I1.hok.fresh (Nat.le_refl _))
def BY(K:W.Frag)(t:TA):TI:=fun σ H R=>t σ H fun vs H1=>∃b1 b2 l1 l2 xs ys,vs=[.ref l1,.ref l2]/\gO K b1 H1 l1 xs/\gO K b2 H1 l2 ys/\R (Itz K b1 b2 l1 l2) H1
theorem wW{a b:Expr}{elts:List Expr}{x1:Nat}{tp:Pos}{ta:TA}{p pos:Pos}(hg:Gl X "zip")(hm:X.mg "zip"=none)(ha:PA X [a,b] ta)
  (hs:starEach [a,b] X.env=[(false,eval a X.env),(false,eval b X.env)]:=by rfl) (hs2:starEach [b] X.env=[(false,eval b X.env)]:=by rfl):
  PI X (.Tuple elts x1 tp) (.Call (.Name "zip" p) [a,b] [] pos) (BY X.K ta):=by
 intro pins s σ H R I h;refine Call_ (gA I hg hm (by decide +kernel:bootBuiltins "zip"=some (.type "zip")) (PyProof.Rows.callWith_type1 (cL (ha pos pins s σ H _ I h) fun us s1 ⟨vs,H1,I1,r1,q1⟩=>?_) (by rw [hs,hs2]) (by rw [hs2];rfl)))
 obtain ⟨b1,b2,l1,l2,xs,ys,e,q1,q2,q⟩:=q1;subst e;obtain ⟨u1,u2,rfl,ru1,ru2⟩:=r1.two;cases ru1;cases ru2;obtain ⟨its1,rv1,sq1,z1⟩:=I1.src q1;obtain ⟨its2,rv2,sq2,z2⟩:=I1.src q2;refine vn sq1 sq2 fun h' hz hTI hTO h1 h2 hsz hk=>?_;have I2:Inv X pins σ H1 { s1 with heap:=h' }:=I1.kept (t':=s1.toks) hk;refine wpAny_pyIter_zip (s:={ s1 with heap:=h' }) hz ?_;have D:ZApart (s1.heap.objs.size+4) (s1.heap.objs.size+2) (s1.heap.objs.size+3) s1.heap.objs.size (s1.heap.objs.size+1):=by constructor<;>exact (show (_:Nat)≠(_:Nat) by lia)
 refine ⟨s1.heap.objs.size+4,[s1.heap.objs.size+4,s1.heap.objs.size+2,s1.heap.objs.size+3,s1.heap.objs.size,s1.heap.objs.size+1],_,_,H1,rfl,I2,t6 b1 b2 l1 l2 _ _ _ _ _ D,⟨hz,hTI,⟨_,_,hTO⟩,h1,h2⟩,fun b hb=>?_,q⟩;have hb':s1.heap.objs.size<=b:=by
  have hb2:b=s1.heap.objs.size+4\/b=s1.heap.objs.size+2\/b=s1.heap.objs.size+3\/b=s1.heap.objs.size\/b=s1.heap.objs.size+1:=by simpa using hb
  rcases hb2 with e|e|e|e|e<;>rw [e]<;>first|exact Nat.le_add_right _ _|exact Nat.le_refl _
 exact I1.fpOk (H':=H1) hb' (I1.hok.fresh hb')
def Br(K:W.Frag)(t:TA):TI:=fun σ H R=>t σ H fun vs H1=>∃b l xs,vs=[.ref l]/\gO K b H1 l xs/\R (Ite K b l) H1
theorem vz{a:Expr}{elts:List Expr}{x1:Nat}{tp:Pos}{ta:TA}{p pos:Pos}(hg:Gl X "enumerate")(hm:X.mg "enumerate"=none)(ha:PA X [a] ta)(hs:starEach [a] X.env=[(false,eval a X.env)]:=by rfl):
  PI X (.Tuple elts x1 tp) (.Call (.Name "enumerate" p) [a] [] pos) (Br X.K ta):=by
 intro pins s σ H R I h;refine Call_ (gA I hg hm (by decide +kernel:bootBuiltins "enumerate"=some (.type "enumerate")) (PyProof.Rows.callWith_type1 (cL (ha pos pins s σ H _ I h) fun us s1 ⟨vs,H1,I1,r1,q1⟩=>?_) hs rfl))
 obtain ⟨b,l,xs,e,q1,q⟩:=q1;subst e;obtain ⟨u1,rfl,ru1⟩:=r1.one;cases ru1;obtain ⟨its,rv,sq,z⟩:=I1.src q1;refine sJ sq fun h' he h1 hsz hk=>?_;have I2:Inv X pins σ H1 { s1 with heap:=h' }:=I1.kept (t':=s1.toks) hk;refine wpAny_pyIter_enum (s:={ s1 with heap:=h' }) he ?_;refine ⟨s1.heap.objs.size+1,[s1.heap.objs.size+1,s1.heap.objs.size],_,_,H1,rfl,I2,rY b l _ _ (show (_:Nat)≠(_:Nat) by lia),⟨⟨_,he⟩,h1⟩,fun c hc=>?_,q⟩
 have hc':s1.heap.objs.size<=c:=by
  have hc2:c=s1.heap.objs.size+1\/c=s1.heap.objs.size:=by simpa using hc
  rcases hc2 with e|e<;>rw [e]<;>first|exact Nat.le_add_right _ _|exact Nat.le_refl _
 exact I1.fpOk (H':=H1) hc' (I1.hok.fresh hc')
end
end L2
namespace L3
open PySem L2
section
variable {X:Cx}{B:Bd}{tg:Expr}{K:W.Frag}{H:Hp}{M:Mem}
def cT(d:D)(xs:List D):List (Addr×List D):=match d with
 |.ref a=>[(a,xs)]
 |_=>[]
theorem gz{d:D}{v:V}{xs:List D}(rh:RepH K H M)(r:Rp K H d v)(e:bR M d=some xs):∃p b,v=.ref p/\∀H' M',Imm H H'->RepH K H' M'->(∀q∈cT d xs,M' q.1=some (.lst q.2))->∃vs,gO K b H' p vs/\Rps K H' xs vs:=by
 cases d with
 |tup ys=>
  cases e;obtain ⟨p,vs,rfl,h,r⟩:=r;exact ⟨p,false,rfl,fun H' M' i _ _=>⟨vs,(h.mono i).sq,r.mono i⟩⟩
 |lst ys=>
  cases e;obtain ⟨p,vs,rfl,h,r⟩:=r;exact ⟨p,true,rfl,fun H' M' i _ _=>⟨vs,(h.mono i).sq,r.mono i⟩⟩
 |mt ys=>
  cases e;obtain ⟨p,vs,rfl,h,r⟩:=r;exact ⟨p,false,rfl,fun H' M' i _ _=>⟨vs,h.sq,r.mono i⟩⟩
 |ml ys=>
  cases e;obtain ⟨p,vs,rfl,h,r⟩:=r;exact ⟨p,true,rfl,fun H' M' i _ _=>⟨vs,(h.mono i).sq,r.mono i⟩⟩
 |ref a=>
  refine ⟨a,true,r,fun H' M' i rh' hs=>?_⟩;obtain ⟨vs,h1,h2⟩:=rh' _ _ (hs (a,xs) (by simp [cT]))
  exact ⟨vs,SqL.of h1,h2⟩
 |_=>cases e
theorem gG{d:D}{xs:List D}(e:bR M d=some xs):∀q∈cT d xs,M q.1=some (.lst q.2):=by
 cases d with
 |ref a=>
  intro q hq;have:q=(a,xs):=by simpa [cT] using hq
  subst this;simp only [bR] at e
  split at e
  ·rename_i ys h;cases e;exact h
  ·cases e
 |_=>intro q hq;simp [cT] at hq
def ft(te:cj):tq:=fun δ M R=>te δ M fun d M1=>match bR M1 d with
 |some xs=>R ⟨xs,cT d xs⟩ M1
 |none=>False
theorem fP{l:Expr}{tl:cj}(hl:DE X B l tl):DI X B tg l (ft tl):=by
 refine ik (xE hl) ?_
 rintro σ H R ⟨δ,M,RR,s,h,up⟩
 refine ⟨δ,M,_,s,h,fun d M1 h1 v H1 rh1 i1 r1=>?_⟩
 split at h1
 ·rename_i xs e
  obtain ⟨p,b,rfl,hsrc⟩:=gz rh1 r1 e;obtain ⟨vs,hq,_⟩:=hsrc H1 M1 Imm.refl rh1 (gG e);refine ⟨p,b,vs,rfl,hq,up _ M1 h1 _ H1 rh1 i1 fun i H2 M2 i2 rh2 ok2=>?_⟩;obtain ⟨vs2,hq2,r2⟩:=hsrc H2 M2 i2 rh2 ok2;have hl:=r2.length;cases b with
  |true=>
   refine ⟨fun d hd=>?_,fun hle=>⟨vs2,hq2,by rw [<- hl];exact hle⟩⟩
   obtain ⟨w,hw,rw'⟩:=r2.get hd;refine ⟨⟨vs2,w,hq2,hw⟩,?_⟩
   rintro x H3 ⟨rfl,hx⟩
   have:=hx vs2 hq2;rw [hw] at this;cases this;exact ⟨Frm.refl,rh2,rw'⟩
  |false=>
   refine ⟨fun d hd=>?_,fun hle=>⟨vs2,hq2,by rw [<- hl];exact hle⟩⟩
   obtain ⟨w,hw,rw'⟩:=r2.get hd;refine ⟨⟨vs2,w,hq2,hw⟩,?_⟩
   rintro x H3 ⟨rfl,hx⟩
   have:=hx vs2 hq2;rw [hw] at this;cases this;exact ⟨Frm.refl,rh2,rw'⟩
 ·exact h1.elim
def oN(lo:Int)(n:Nat):List D:=(List.range n).map fun (i:Nat)=>D.int (lo+i)
def mT(t:gv):tq:=fun δ M R=>t δ M fun ds M1=>match ds with
 |[.int j]=>-(2 ^ 62)<=j/\j<2 ^ 62/\R ⟨oN 0 j.toNat,[]⟩ M1
 |_=>False
theorem A3{lo:Int}{n:Nat}:Ca K H ⟨oN lo n,[]⟩ (Itr lo n):=fun i H2 M2 i2 rh2 _=>by
 have hlen:(oN lo n).length=n:=by simp [oN]
 refine ⟨fun d hd=>?_,fun hle=>by rw [hlen] at hle;exact hle⟩
 have hi:i<n:=by
  rcases Nat.lt_or_ge i n with h|h
  ·exact h
  ·rw [List.getElem?_eq_none (by rw [hlen];exact h)] at hd;cases hd
 have ed:d=.int (lo+i):=by
  simp only [oN,List.getElem?_map,List.getElem?_range hi] at hd;exact (Option.some.inj hd).symm
 subst ed;refine ⟨hi,?_⟩
 rintro x H3 ⟨rfl,rfl⟩
 exact ⟨Frm.refl,rh2,rfl⟩
theorem iG{a:Expr}{ta:gv}{p pos:Pos}(hg:Gl X "range")(hm:X.mg "range"=none)(ha:DA X B [a] ta)(hs:starEach [a] X.env=[(false,eval a X.env)]:=by rfl):DI X B tg (.Call (.Name "range" p) [a] [] pos) (mT ta):=by
 refine ik (sL hg hm ha hs) ?_
 rintro σ H R ⟨δ,M,RR,s,h,up⟩
 refine ⟨δ,M,_,s,h,fun ds M1 h1 vs H1 rh1 i1 r1=>?_⟩
 split at h1
 ·obtain ⟨v,rfl,rv⟩:=iP (ds:=[]) r1
  cases rv;exact ⟨_,rfl,h1.1,h1.2.1,up _ M1 h1.2.2 _ H1 rh1 i1 A3⟩
 ·exact h1.elim
def mD(xs:List D):List D:=(xs.zipIdx).map fun p=>D.tup [.int (p.2:Nat),p.1]
theorem rQ{xs:List D}{i:Nat}:(mD xs)[i]?=(xs[i]?).map fun d=>D.tup [.int (i:Nat),d]:=by
 simp [mD,List.getElem?_map,List.getElem?_zipIdx];cases xs[i]?<;>simp
def mC(t:gv):tq:=fun δ M R=>t δ M fun ds M1=>match ds with
 |[d]=>match bR M1 d with
  |some xs=>R ⟨mD xs,cT d xs⟩ M1
  |none=>False
 |_=>False
theorem qI{a:Expr}{elts:List Expr}{x1:Nat}{tp:Pos}{ta:gv}{p pos:Pos}(hg:Gl X "enumerate")(hm:X.mg "enumerate"=none)(ha:DA X B [a] ta)(hs:starEach [a] X.env=[(false,eval a X.env)]:=by rfl):
  DI X B (.Tuple elts x1 tp) (.Call (.Name "enumerate" p) [a] [] pos) (mC ta):=by
 refine ik (vz hg hm ha hs) ?_
 rintro σ H R ⟨δ,M,RR,s,h,up⟩
 refine ⟨δ,M,_,s,h,fun ds M1 h1 vs H1 rh1 i1 r1=>?_⟩
 split at h1
 ·obtain ⟨v,rfl,rv⟩:=iP (ds:=[]) r1
  split at h1
  ·rename_i xs e
   obtain ⟨p,b,rfl,hsrc⟩:=gz rh1 rv e;obtain ⟨vs,hq,_⟩:=hsrc H1 M1 Imm.refl rh1 (gG e);refine ⟨b,p,vs,rfl,hq,up _ M1 h1 _ H1 rh1 i1 fun i H2 M2 i2 rh2 ok2=>?_⟩;obtain ⟨vs2,hq2,r2⟩:=hsrc H2 M2 i2 rh2 ok2;have hl:=r2.length;refine ⟨fun d hd=>?_,fun hle=>⟨vs2,hq2,by rw [<- hl];simpa [mD] using hle⟩⟩
   rw [rQ] at hd;obtain ⟨d0,hd0,rfl⟩:=Option.map_eq_some_iff.mp hd;obtain ⟨w,hw,rw'⟩:=r2.get hd0;refine ⟨⟨vs2,w,hq2,hw⟩,?_⟩
   rintro x H3 ⟨T,x',hT,rfl,rfl,hx⟩
   have:=hx vs2 hq2;rw [hw] at this;cases this;have i3:Imm H2 (upd H2 T (.tup [.int i,w])):=Imm.new hT;exact ⟨Frm.new hT,rh2.new hT,T,_,rfl,upd_same,.cons rfl (.cons (rw'.mono i3) .nil)⟩
  ·exact h1.elim
 ·exact h1.elim
def oQ(xs ys:List D):List D:=(xs.zip ys).map fun p=>D.tup [p.1,p.2]
theorem vk{xs ys:List D}{i:Nat}{d:D}(h:(oQ xs ys)[i]?=some d):∃x y,xs[i]?=some x/\ys[i]?=some y/\d=.tup [x,y]:=by
 simp only [oQ,List.getElem?_map,Option.map_eq_some_iff] at h;obtain ⟨⟨x,y⟩,h1,rfl⟩:=h;rw [List.getElem?_zip_eq_some] at h1;exact ⟨x,y,h1.1,h1.2,rfl⟩
def D3(t:gv):tq:=fun δ M R=>t δ M fun ds M1=>match ds with
 |[d,e]=>match bR M1 d,bR M1 e with
  |some xs,some ys=>R ⟨oQ xs ys,cT d xs++cT e ys⟩ M1
  |_,_=>False
 |_=>False
theorem BD{a b:Expr}{elts:List Expr}{x1:Nat}{tp:Pos}{ta:gv}{p pos:Pos}(hg:Gl X "zip")(hm:X.mg "zip"=none)(ha:DA X B [a,b] ta)
  (hs:starEach [a,b] X.env=[(false,eval a X.env),(false,eval b X.env)]:=by rfl) (hs2:starEach [b] X.env=[(false,eval b X.env)]:=by rfl):
  DI X B (.Tuple elts x1 tp) (.Call (.Name "zip" p) [a,b] [] pos) (D3 ta):=by
 refine ik (wW hg hm ha hs hs2) ?_
 rintro σ H R ⟨δ,M,RR,s,h,up⟩
 refine ⟨δ,M,_,s,h,fun ds M1 h1 vs H1 rh1 i1 r1=>?_⟩
 split at h1
 ·obtain ⟨v,w,rfl,rv,rw'⟩:=ze r1
  split at h1
  ·rename_i xs ys e1 e2
   obtain ⟨p,b,rfl,hsrc⟩:=gz rh1 rv e1;obtain ⟨p',b',rfl,hsrc'⟩:=gz rh1 rw' e2;obtain ⟨vs,hq,_⟩:=hsrc H1 M1 Imm.refl rh1 (gG e1);obtain ⟨vs',hq',_⟩:=hsrc' H1 M1 Imm.refl rh1 (gG e2);refine ⟨b,b',p,p',vs,vs',rfl,hq,hq',up _ M1 h1 _ H1 rh1 i1 fun i H2 M2 i2 rh2 ok2=>?_⟩;obtain ⟨vs2,hq2,r2⟩:=hsrc H2 M2 i2 rh2 fun q hq=>ok2 q (List.mem_append_left _ hq);obtain ⟨vs2',hq2',r2'⟩:=hsrc' H2 M2 i2 rh2 fun q hq=>ok2 q (List.mem_append_right _ hq);have hl:=r2.length;have hl':=r2'.length;refine ⟨fun d hd=>?_,fun hle=>⟨vs2,vs2',hq2,hq2',?_⟩⟩
   ·obtain ⟨x,y,hx,hy,rfl⟩:=vk hd
    obtain ⟨w1,hw1,rw1⟩:=r2.get hx;obtain ⟨w2,hw2,rw2⟩:=r2'.get hy;refine ⟨⟨vs2,vs2',w1,w2,hq2,hq2',hw1,hw2⟩,?_⟩
    rintro x H3 ⟨T,x',y',hT,rfl,rfl,hx1,hx2⟩
    have q1:=hx1 vs2 hq2;have q2:=hx2 vs2' hq2';rw [hw1] at q1;rw [hw2] at q2;cases q1;cases q2;have i3:Imm H2 (upd H2 T (.tup [w1,w2])):=Imm.new hT;exact ⟨Frm.new hT,rh2.new hT,T,_,rfl,upd_same,.cons (rw1.mono i3) (.cons (rw2.mono i3) .nil)⟩
   ·have:(oQ xs ys).length=min xs.length ys.length:=by simp [oQ]
    rw [this] at hle;lia
  ·exact h1.elim
 ·exact h1.elim
end
end L3
namespace L3
open PySem L2
def BI:Bd:=⟨fun _ _=>True,fun _ _=>trivial⟩
section
variable {X:Cx}{B:Bd}{K:W.Frag}{H H':Hp}{M M':Mem}
inductive liftE0(K:W.Frag)(T:cj)(σ:L2.St)(H:Hp)(Q:VK):Prop
 |mk (δ:Dl) (M:Mem) (QQ:DK) (rh:RepH K H M) (rs:RepS K H δ σ) (h:T δ M QQ) (u:Up K M H QQ Q):liftE0 K T σ H Q
inductive liftT0(K:W.Frag)(T:gr)(σ:L2.St)(H:Hp)(Q:Bool->Hp->Prop):Prop
 |mk (δ:Dl) (M:Mem) (QQ:Bool->Mem->Prop) (rh:RepH K H M) (rs:RepS K H δ σ) (h:T δ M QQ) (u:UpT K M H QQ Q):liftT0 K T σ H Q
inductive liftG0(K:W.Frag)(g:jI)(v:V)(σ:L2.St)(H:Hp)(Q:L2.St->Hp->Prop):Prop
 |mk (d:D) (δ:Dl) (M:Mem) (QQ:Dl->Mem->Prop) (rh:RepH K H M) (rs:RepS K H δ σ) (r:Rp K H d v) (h:g d δ M QQ) (u:∀δ' M',QQ δ' M'->∀σ' H',Frm M H M' H'->RepH K H' M'->RepS K H' δ' σ'->Q σ' H'):liftG0 K g v σ H Q
theorem B1{e:Expr}{T:cj}(h:DE X BI e T):PE X e (liftE0 X.K T):=bP h fun σ H Q ⟨δ,M,QQ,rh,rs,h,u⟩=>⟨δ,M,QQ,⟨trivial,rh,rs⟩,h,u⟩
theorem Av{e:Expr}{g:jI}(h:DG X BI e g):PG X e (liftG0 X.K g):=jm h fun v σ H Q ⟨d,δ,M,QQ,rh,rs,r,h,u⟩=>⟨d,δ,M,QQ,⟨trivial,rh,rs⟩,r,h,fun δ' M' q σ' H' f s=>u δ' M' q σ' H' f s.rh s.rs⟩
theorem RepH.add{a:Addr}{o:MO}(r:RepH K H M)(n:RepO K H a o):RepH K H (M.upd a o):=fun b p e=>by
 by_cases hb:b=a
 ·subst hb;rw [Mem.upd_same] at e;cases e;exact n
 ·rw [ar hb] at e;exact r b p e
def gM(ls:List Str)(js:List Nat)(δ:Dl):Dl:=ls.map (fun _=>none)++js.map fun j=>(δ[j]?).join
theorem RepS.start{δ:Dl}{σ:L2.St}(r:RepS K H δ σ)(ls:List Str)(js:List Nat):RepS K H (gM ls js δ) (dU ls js σ):=by
 refine ⟨by simp [gM,dU],fun i d e=>?_⟩
 unfold gM at e;unfold dU
 by_cases hi:i<ls.length
 ·rw [List.getElem?_append_left (by simpa using hi),List.getElem?_map,List.getElem?_eq_getElem hi] at e
  cases e
 ·rw [List.getElem?_append_right (by simpa using hi),List.length_map,List.getElem?_map] at e
  rw [List.getElem?_append_right (by simpa using hi),List.length_map,List.getElem?_map]
  cases hj:js[i-ls.length]? with
  |none=>rw [hj] at e;cases e
  |some j=>
   rw [hj] at e;have q:(δ[j]?).join=some d:=by simpa using e
   have q2:δ[j]?=some (some d):=by
    cases z:δ[j]? with
    |none=>rw [z] at q;cases q
    |some o=>rw [z] at q;have q':o=some d:=q;rw [q']
   obtain ⟨v,h1,h2⟩:=r.get j d q2;exact ⟨v,by simp [h1],h2⟩
structure BxC(g:jI)(tt:gr)(te:cj)(ok:Mem->Prop)(Q:List D->Mem->Prop):Type
def g_(g:jI)(tt:gr)(te:cj)(ok:Mem->Prop)(Q:List D->Mem->Prop)(b:BxC g tt te ok Q):List D->List D->Dl->Mem->Prop
 |[],acc,_,M=>ok M/\Q acc M
 |x::xs,acc,δ,M=>ok M/\g x δ M fun δ2 M2=>tt δ2 M2 fun c M3=>if c=true then te δ2 M3 fun y M4=>acc.length<sizeLine/\g_ g tt te ok Q b xs (acc++[y]) δ2 M4 else g_ g tt te ok Q b xs acc δ2 M3
def dE(wi:tq)(ls:List Str)(js:List Nat)(g:jI)(tt:gr)(te:cj):cj:=fun δ M Q=>wi δ M fun it M1=>g_ g tt te it.ok (fun acc M'=>∀p,M' p=none->Q (.ref p) (M'.upd p (.lst acc))) ⟨⟩ it.items [] (gM ls js δ) M1
theorem vg{g:jI}{tt:gr}{te:cj}{ok:Mem->Prop}{xs acc:List D}{δ:Dl}{Q:List D->Mem->Prop}{b:BxC g tt te ok Q}(h:g_ g tt te ok Q b xs acc δ M):ok M:=by
 cases xs with
 |nil=>exact h.1
 |cons _ _=>exact h.1
variable {tg iter elt:Expr}{ifs:List Expr}{scope:Scope}{cl:List (Str×Addr)}{pos:Pos}{ls fs:List Str}{js:List Nat}{wi:tq}{g:jI}{tt:gr}{te:cj}
theorem si{σ:L2.St}{Q:VK}(h:liftE X B (dE wi ls js g tt te) σ H Q):zt (liftI X B wi) ls js (liftG0 X.K g) (liftT0 X.K tt) (liftE0 X.K te) σ H Q:=by
 obtain ⟨δ,M,QQ,s,h,u⟩:=h;refine ⟨δ,M,_,s,h,fun it M1 h1 J H1 rh1 f1 hJ p hp=>?_⟩;have hMp:M1 p=none:=rh1.fresh hp
 refine ⟨fun i m σ' H'=>m=it.items.length-i/\i<=it.items.length/\∃δ' M' acc ys,RepH X.K H' M'/\RepS X.K H' δ' σ'/\H' p=some (.lst ys)/\Rps X.K H' acc ys/\M' p=none/\Frm M1 H1 M' H'/\
   g_ g tt te it.ok (fun acc M'=>∀p,M' p=none->QQ (.ref p) (M'.upd p (.lst acc))) ⟨⟩ (it.items.drop i) acc δ' M',
  ⟨_,rfl,Nat.zero_le _,gM ls js δ,M1,[],[],rh1.new hp,((s.rs.mono (f1.imm s.rh)).mono (Imm.new hp)).start ls js,upd_same,.nil,hMp,Frm.new hp,h1⟩,?_⟩
 rintro i m σ2 H2 ⟨rfl,hi,δ2,M2,acc,ys,rh2,rs2,hp2,ra2,hm2,f2,h2⟩
 have hok:=vg h2;obtain ⟨hgo,hstop⟩:=hJ i H2 M2 (f2.imm rh1) rh2 hok
 by_cases hlt:i<it.items.length
 ·rw [List.drop_eq_getElem_cons hlt] at h2
  obtain ⟨go,hy⟩:=hgo _ (List.getElem?_eq_getElem hlt)
  refine .inr ⟨go,fun σ' H'=>∃δ' M' acc ys,RepH X.K H' M'/\RepS X.K H' δ' σ'/\H' p=some (.lst ys)/\Rps X.K H' acc ys/\M' p=none/\Frm M1 H1 M' H'/\
   g_ g tt te it.ok (fun acc M'=>∀p,M' p=none->QQ (.ref p) (M'.upd p (.lst acc))) ⟨⟩ (it.items.drop (i+1)) acc δ' M',fun σ' H' z=>⟨it.items.length-(i+1),by omega,rfl,hlt,z⟩,fun x H3 hx=>?_⟩
  obtain ⟨f3,rh3,rx⟩:=hy x H3 hx;refine ⟨_,δ2,M2,_,rh3,rs2.mono (f3.imm rh2),rx,h2.2,fun δ4 M4 h4 σ4 H4 f4 rh4 rs4=>?_⟩;refine ⟨δ4,M4,_,rh4,rs4,h4,fun c M5 h5 H5 rh5 f5=>?_⟩;have f35:=(f3.trans f4).trans f5;obtain ⟨hp5,hm5⟩:=f35.keep p _ hp2 hm2;cases c with
  |false=>
   try dsimp only
   rw [if_neg Bool.false_ne_true] at h5 ⊢;exact ⟨δ4,M5,acc,ys,rh5,rs4.mono (f5.imm rh4),hp5,ra2.mf rh2 f35,hm5,f2.trans f35,h5⟩
  |true=>
   try dsimp only
   rw [if_pos rfl] at h5 ⊢;refine ⟨δ4,M5,_,rh5,rs4.mono (f5.imm rh4),h5,fun y M6 h6 v6 H6 rh6 f6 r6=>?_⟩;obtain ⟨hp6,hm6⟩:=f6.keep p _ hp5 hm5;have f26:=f35.trans f6;have ra6:=ra2.mf rh2 f26;refine ⟨ys,hp6,by rw [<- ra6.length];exact h6.1,?_⟩
   have im:Imm H6 (upd H6 p (.lst (ys++[v6]))):=Imm.upd (by rw [hp6];trivial)
   refine ⟨δ4,M6,acc++[y],ys++[v6],rh6.keep im fun b o hb=>bf (Mem.ne hb hm6),((rs4.mono (f5.imm rh4)).mono (f6.imm rh5)).mono im,upd_same,(ra6.append (.cons r6 .nil)).mono im,hm6,?_,h6.2⟩;refine ⟨fun b w e n=>?_⟩;obtain ⟨e2,n2⟩:=(f2.trans f26).keep b w e n;exact ⟨by rw [bf (bO e hp)];exact e2,n2⟩
 ·rw [List.drop_eq_nil_of_le (by omega)] at h2
  refine .inl ⟨hstop (by omega),u _ _ (h2.2 p hm2) _ H2 (rh2.add ⟨ys,hp2,ra2⟩) ?_ rfl⟩
  refine ⟨fun b w e n=>?_⟩;obtain ⟨e1,n1⟩:=f1.keep b w e n;obtain ⟨e2,n2⟩:=f2.keep b w e1 n1;exact ⟨e2,by rw [ar (bO e1 hp)];exact n2⟩
def DTs(X:Cx)(B:Bd)(ifs:List Expr)(T:gr):Prop:=BH X ifs (liftT X B T)
def kz:gr:=fun _ M Q=>Q true M
theorem jk:DTs X B [] kz:=fun pins s σ H Q I zz=>by obtain ⟨δ,M,QQ,sr,h,u⟩:=zz;exact wj pins s σ H Q I (u true M h H sr.rh Frm.refl)
theorem qj{c:Expr}{t:gr}(h:DT X B c t):DTs X B [c] t:=yF h
theorem yh{es:List Expr}{T:gr}(h:DTs X BI es T):BH X es (liftT0 X.K T):=fun pins s σ H Q I zz=>by obtain ⟨δ,M,QQ,rh,rs,hT,u⟩:=zz;exact h pins s σ H Q I ⟨δ,M,QQ,⟨trivial,rh,rs⟩,hT,u⟩
theorem f_(hc:X.calm=true)(co:CompOk X scope cl ls fs js)(hi:DI X B tg iter wi)
  (hY:∀(C:Addr) (s₀:Shared) (H₀:Hp) (fp:List Addr) (pl:List (Addr×Obj)),DG (cV X (ls++fs) scope cl C s₀ H₀ fp pl) BI tg g/\DTs (cV X (ls++fs) scope cl C s₀ H₀ fp pl) BI ifs tt/\DE (cV X (ls++fs) scope cl C s₀ H₀ fp pl) BI elt te)
  (hs:∀x,foldedSetIterable iter X.env x=pure x:=by intro _;rfl):DE X B (.ListComp elt [⟨tg,iter,ifs,0⟩] scope pos) (dE wi ls js g tt te):=
 bP (xW (g:=liftG0 X.K g) (tt:=liftT0 X.K tt) (te:=liftE0 X.K te) hc co hi (fun C s₀ H₀ fp pl=>⟨Av (hY C s₀ H₀ fp pl).1,yh (hY C s₀ H₀ fp pl).2.1,B1 (hY C s₀ H₀ fp pl).2.2⟩) hs) fun _ _ _ h=>si h
end
end L3
namespace L3
open PySem L2
abbrev DX:=Addr->Mem->Prop
abbrev Sd:=List D->Mem->DK->DX->Prop
def cQ(P:Program)(w:World):ku:=fun outer H s E e s'=>∃C,oH P w C outer H s E e s'
def UpX(K:W.Frag)(M:Mem)(H:Hp)(EE:DX)(E:XK):Prop:=∀C M',EE C M'->∀H',RepH K H' M'->Frm M H M' H'->E (.ref C) none H'
def BJ(K:W.Frag)(B:Bd)(EE:DX)(E:XK):Prop:=∀C M',EE C M'->∀H',RepH K H' M'->B.p M' H'->E (.ref C) none H'
theorem UpX.go{K:W.Frag}{M M1:Mem}{H H1:Hp}{EE:DX}{E:XK}(u:UpX K M H EE E)(i:Frm M H M1 H1):UpX K M1 H1 EE E:=fun C M' q H' a b=>u C M' q H' a (i.trans b)
def aR(K:W.Frag)(n:Nat)(T:Sd):Sp:=fun vs H Q E=>vs.length=n/\∃ds M QQ EE,RepH K H M/\Rps K H ds vs/\T ds M QQ EE/\Up K M H QQ Q/\UpX K M H EE E
def startN(N:List Str)(ds:List D):Dl:=ds.map some++List.replicate (N.length-ds.length) none
theorem RepS.startN{K:W.Frag}{H:Hp}{ds:List D}{vs:List V}(N:List Str)(r:Rps K H ds vs):RepS K H (L3.startN N ds) (L2.start N vs):=by
 have hl:=r.length;refine ⟨by simp [L3.startN,L2.start,hl],fun i d e=>?_⟩
 unfold L3.startN at e;unfold L2.start
 by_cases hi:i<ds.length
 ·rw [List.getElem?_append_left (by simpa using hi),List.getElem?_map,List.getElem?_eq_getElem hi] at e
  have e':ds[i]=d:=by simpa using e
  obtain ⟨v,h1,h2⟩:=r.get (i:=i) (d:=d) (by rw [List.getElem?_eq_getElem hi,e'])
  refine ⟨v,?_,h2⟩;rw [List.getElem?_append_left (by simp;lia),List.getElem?_map,h1]
  rfl
 ·rw [List.getElem?_append_right (by simpa using hi),List.getElem?_replicate] at e
  split at e<;>cases e
section
variable {P:Program}{w:World}{K:W.Frag}{mg:Str->Option Value}{base:Heap}{f:Addr}{fd:FuncData}
def drp(Q:DK)(d:D)(M':Mem):Prop:=∃M'',(∀b o,M'' b=some o->M' b=some o)/\Q d M''
def bV(EE:DX)(C:Addr)(M':Mem):Prop:=∃M'',(∀b o,M'' b=some o->M' b=some o)/\EE C M''
theorem br{Q:DK}{d:D}{M':Mem}(h:Q d M'):drp Q d M':=⟨M',fun _ _ e=>e,h⟩
theorem jn{EE:DX}{C:Addr}{M':Mem}(h:EE C M'):bV EE C M':=⟨M',fun _ _ e=>e,h⟩
theorem Frm.less{M M' M'':Mem}{H H':Hp}(f:Frm M H M' H')(s:∀b o,M'' b=some o->M' b=some o):Frm M H M'' H':=⟨fun b u e n=>by
 obtain ⟨e',n'⟩:=f.keep b u e n;refine ⟨e',?_⟩;cases q:M'' b with
 |none=>rfl
 |some o=>rw [s b o q] at n';cases n'⟩
theorem Up.drp{M:Mem}{H:Hp}{Q:DK}{QV:VK}(u:Up K M H Q QV):Up K M H (L3.drp Q) QV:=fun d M' ⟨M'',s,q⟩ v H' rh f r=>u d M'' q v H' (fun b o e=>rh b o (s b o e)) (f.less s) r
theorem UpX.drp{M:Mem}{H:Hp}{EE:DX}{E:XK}(u:UpX K M H EE E):UpX K M H (bV EE) E:=fun C M' ⟨M'',s,q⟩ H' rh f=>u C M'' q H' (fun b o e=>rh b o (s b o e)) (f.less s)
def ck(N:List Str)(T:DX->aZ):Sd:=fun ds M Q EE=>T (bV EE) { nx:=fun _ M'=>drp Q .non M',rt:=drp Q } (startN N ds) M
theorem jc{x qual:Str}{st:Stmt}{N ps:List Str}{k:Nat}{T:DX->aZ}(F:Fun K x qual st f fd)(S:FnScope N ps (aV st))
  (hb:∀(cdv:Value) (A:Around) (outer:List Env) (s:Shared) (H:Hp) (E:XK) (B:Bd) (EE:DX),Room k (A.deeper (PyProof.Rows.envOfC qual (aV st) s.heap.objs.size f cdv))->BJ K B EE E->
   xK (fb (cQ P w) P w K mg base N qual (aV st) f cdv A outer s H E) B (eJ st) (T EE)):
  FnOk P w K mg base (cQ P w) (k+1) f fd ps (aR K ps.length (ck N T)):=by
 obtain ⟨oc,od,kV,doc,pm,an,cdv,ct,osl,rfl,lk,hcd⟩:=F.ex;refine De lk hcd S (fun vs H Q E h=>h.1) fun A outer s H vs Q E hr hsp=>?_;obtain ⟨hl,ds,M,QQ,EE,rh,r,hT,u,ux⟩:=hsp;refine ⟨_,hb cdv A outer s H E (Bd.of M H) (bV EE) hr ux.drp,startN N ds,M,{ nx:=fun _ M'=>drp QQ .non M',rt:=drp QQ },⟨Frm.refl,rh,.startN N r⟩,hT,⟨?_,u.drp,?_,?_⟩⟩
 ·exact fun δ M' q σ H' f s'=>u.drp _ M' q _ H' s'.rh f rfl
 ·exact fun δ M' q=>(show False from q).elim
 ·exact fun δ M' q=>(show False from q).elim
theorem fX{ps:List Str}{k n:Nat}{CX:ku}:FnOk P w K mg base CX k f fd ps (aR K n fun _ _ _ _=>False):=
 ⟨fun vs H Q E h=>(by obtain ⟨_,_,_,_,_,_,_,h,_⟩:=h;exact h.elim),fun A outer s H args us vs Q E _ _ _ _ h=>(by obtain ⟨_,_,_,_,_,_,_,h,_⟩:=h;exact h.elim)⟩
theorem aQ{N:List Str}{qual:Str}{scope:Scope}{cd:Value}{A:Around}{outer:List Env}{s0:Shared}{H0:Hp}{E:XK}:gF (cQ P w) (fb (cQ P w) P w K mg base N qual scope f cd A outer s0 H0 E) E:=by
 intro pins σ H s e s' I ⟨C,hx⟩;have I':Inv (fb (oH P w C) P w K mg base N qual scope f cd A outer s0 H0 E) pins σ H s:=I.wish _;have:=Dc pins σ H s e s' I' hx;exact wpAny_mono this (fun _ _ z=>⟨C,z⟩) fun _ _ z=>⟨C,z⟩
theorem pI{X:Cx}:gF (cQ P w) X E0:=fun pins σ H s e s' I ⟨C,hx⟩=>by
 obtain ⟨_,_,_,_,_,_,_,_,_,_,_,_,hE⟩:=hx;exact (show False from hE).elim
end
def Sub(M1 M:Mem):Prop:=∀b o,M1 b=some o->M b=some o
def Dis(M1 M M':Mem):Prop:=∀b o,M b=some o->M1 b=none->M' b=none
def plus(M' M1 M:Mem):Mem:=fun b=>match M' b with
 |some o=>some o
 |none=>match M1 b with
  |some _=>none
  |none=>M b
theorem lh{M' M:Mem}:plus M' M M=M':=by
 funext b;simp only [plus];cases h:M' b with
 |some o=>rfl
 |none=>cases h2:M b<;>rfl
structure BxQ(EE:DX)(Q:DK):Type
structure calls(T:Sd)(EE:DX)(ds:List D)(M:Mem)(Q:DK)(_:BxQ EE Q):Prop where
 go:∃M1,Sub M1 M/\T ds M1 (fun d M'=>Dis M1 M M'->Q d (plus M' M1 M)) (fun C M'=>Dis M1 M M'->EE C (plus M' M1 M))
section
variable {X:Cx}{B:Bd}{K:W.Frag}{H H':Hp}{M M1 M':Mem}
theorem RepH.sub(r:RepH K H M)(s:Sub M1 M):RepH K H M1:=fun b o e=>r b o (s b o e)
theorem RepH.dis(r:RepH K H M)(f:Frm M1 H M' H'):Dis M1 M M':=fun b o e n=>by
 obtain ⟨u,q⟩:=(r b o e).obj;exact (f.keep b u q n).2
theorem RepH.plus(r:RepH K H M)(s:Sub M1 M)(r':RepH K H' M')(f:Frm M1 H M' H'):RepH K H' (plus M' M1 M):=fun b o e=>by
 simp only [L3.plus] at e
 split at e
 ·rename_i o' q;cases e;exact r' b _ q
 ·split at e
  ·cases e
  ·rename_i q n
   obtain ⟨u,hu⟩:=(r b o e).obj;exact (r b o e).keep (f.imm (r.sub s)) ((f.keep b u hu n).1.trans hu.symm)
theorem Frm.plus(s:Sub M1 M)(f:Frm M1 H M' H'):Frm M H (plus M' M1 M) H':=⟨fun b u e n=>by
 have n1:M1 b=none:=by
  cases q:M1 b with
  |none=>rfl
  |some o=>rw [s b o q] at n;cases n
 obtain ⟨e',n'⟩:=f.keep b u e n1;exact ⟨e',by simp only [L3.plus,n',n1,n]⟩⟩
theorem kb{T:Sd}{EE:DX}{ds:List D}{vs:List V}{Q:DK}{n:Nat}{QV:VK}{E:XK}{b:BxQ EE Q}(h:calls T EE ds M Q b)(rh:RepH K H M)(r:Rps K H ds vs)(hl:vs.length=n)(u:Up K M H Q QV)(ux:UpX K M H EE E):aR K n T vs H QV E:=by
 obtain ⟨M1,s,h⟩:=h.go;refine ⟨hl,ds,M1,_,_,rh.sub s,r,h,fun d M' q v H' rh' f r'=>?_,fun C M' q H' rh' f=>?_⟩
 ·exact u d _ (q (rh.dis f)) v H' (rh.plus s rh' f) (f.plus s) r'
 ·exact ux C _ (q (rh.dis f)) H' (rh.plus s rh' f) (f.plus s)
theorem aT{T:Sd}{EE:DX}{ds:List D}{Q:DK}{b:BxQ EE Q}(hm:∀Q' E',(∀d M,Q d M->Q' d M)->(∀C M,EE C M->E' C M)->T ds M Q' E'):calls T EE ds M Q b:=
 ⟨M,fun _ _ e=>e,hm _ _ (fun d M' q _=>by rw [lh];exact q) fun C M' q _=>by rw [lh];exact q⟩
variable {CX:ku}{k n:Nat}{f C:Addr}{fd:FuncData}{ps:List Str}{T:Sd}{EE:DX}{E:XK}{x m:Str}{p pos apos:Pos}{e o:Expr}{es:List Expr}{ta:cj}{t:gv}
def ax(T:Sd)(EE:DX)(n:Nat)(t:gv):cj:=fun δ M Q=>t δ M fun ds M1=>ds.length=n/\calls T EE ds M1 Q ⟨⟩
theorem SR.ux{δ:Dl}{σ:L2.St}(s:SR X B δ M σ H)(ux:BJ X.K B EE E):UpX X.K M H EE E:=fun C M' q H' a b=>ux C M' q H' a (B.go s.i0 b)
theorem aw(F:FnOk X.prog X.w X.K X.mg X.base CX k f fd ps (aR X.K n T))(hr:Room k X.A)(hg:Gl X x)(hm:X.mg x=some (.ref f))(hk:W.keepIn X.K (.ref f)=true)(hb:Binds X.K fd ps [])(hx:gF CX X E)(ux:BJ X.K B EE E)
  (ha:DA X B (e::es) t) (hdb:(x==("__debug__":Str))=false:=by decide) (he:starEach (e::es) X.env=(false,eval e X.env)::starEach es X.env:=by rfl) (hpl:(backTo pos (starEach es X.env)).any (·.1)=false:=by rfl):
  DE X B (.Call (.Name x p) (e::es) [] pos) (ax T EE n t):=by
 refine bP (zd F hr hg hm hk hb .nil hx ha hdb he hpl) ?_
 rintro σ H Q ⟨δ,M,QQ,s,h,u⟩
 refine ⟨δ,M,_,s,h,fun ds M1 h1 vs H1 rh1 i1 r1=>?_⟩
 try dsimp only
 rw [List.append_nil];exact kb h1.2 rh1 r1 (by rw [<- r1.length];exact h1.1) (u.go i1) ((s.ux ux).go i1)
end
end L3
namespace L3
open PySem L2
section
variable {X:Cx}{B:Bd}{K:W.Frag}{H H':Hp}{M M1 M':Mem}{o e:Expr}{es:List Expr}{to:cj}{t:gv}{name:Str}{apos cpos:Pos}{Ty id:String}
abbrev wg:=D->List D->Mem->DK->Prop
inductive liftM(X:Cx)(r:wg)(x:V)(xs:List V)(H:Hp)(Q:VK):Prop
 |mk (d:D) (ds:List D) (M:Mem) (QQ:DK) (rh:RepH X.K H M) (rx:Rp X.K H d x) (rs:Rps X.K H ds xs) (h:r d ds M QQ) (u:Up X.K M H QQ Q):liftM X r x xs H Q
def iA(Ty:String)(r:wg)(to:cj)(t:gv):cj:=fun δ M Q=>to δ M fun x M1=>dy M1 x=some Ty/\t δ M1 fun ds M2=>r x ds M2 Q
theorem vc{d:D}{v:V}(rh:RepH K H M)(r:Rp K H d v)(e:dy M d=some Ty)(h:Ty="list"\/Ty="str"\/Ty="int"\/Ty="dict"):tyV K Ty v H:=by
 cases d with
 |non=>cases e;rcases h with h|h|h|h<;>exact absurd h (by decide)
 |bl b=>cases e;rcases h with h|h|h|h<;>exact absurd h (by decide)
 |int i=>cases r;cases e;rfl
 |str x=>cases r;cases e;rfl
 |tup xs=>cases e;rcases h with h|h|h|h<;>exact absurd h (by decide)
 |lst xs=>
  cases e;obtain ⟨p,vs,rfl,hf,r⟩:=r;exact .inl ⟨rfl,vs,hf.sq⟩
 |ref a=>
  cases r;simp only [dy] at e
  split at e
  ·rename_i q;cases e;obtain ⟨ws,h1,h2⟩:=rh _ _ q;exact .inl ⟨rfl,ws,SqL.of h1⟩
  ·rename_i q;cases e;obtain ⟨ws,h1,h2⟩:=rh _ _ q;exact .inr (.inr (.inl ⟨rfl,.inl ⟨ws,h1⟩⟩))
  ·rename_i q;cases e;obtain ⟨ws,h1,h2⟩:=rh _ _ q;exact .inr (.inr (.inl ⟨rfl,.inr ⟨ws,h1⟩⟩))
  ·cases e
 |_=>cases e
theorem fD{r:wg}(hT:Ty="list"\/Ty="str"\/Ty="int"\/Ty="dict")(pa:PlainAttrs Ty)(slot:Slot Ty name id)(hty:typeOf (.builtin id)=pure (.type "method_descriptor"))(hm:wd X id (liftM X r))(ho:DE X B o to)(ha:DA X B (e::es) t)
  (hbase:attributeBase o name X.env (eval o X.env)=eval o X.env:=by rfl)
  (hfew:((backTo cpos (starEach (e::es) X.env)).all (fun x=>!x.1)&&(backToKw cpos (keywordEach [] X.env)).all (fun x=>x.1.isSome)
   && decide ((e::es).length+([]:List Keyword).length+(if ([]:List Keyword).isEmpty then 0 else 1)<30))=true:=by rfl)
  (hline:(apos.endLine==cpos.line)=true:=by rfl) (hs:starEach (e::es) X.env=(false,eval e X.env)::starEach es X.env:=by rfl) (hplain:(backTo cpos (starEach es X.env)).any (·.1)=false:=by rfl):
  DE X B (.Call (.Attribute o name apos) (e::es) [] cpos) (iA Ty r to t):=by
 refine bP (CT pa slot hty hm ho ha hbase hfew hline hs hplain) ?_
 rintro σ H Q ⟨δ,M,QQ,s,h,u⟩
 refine ⟨δ,M,_,s,h,fun x M1 h1 v H1 rh1 i1 r1=>⟨vc rh1 r1 h1.1 hT,δ,M1,_,s.go rh1 i1,h1.2,fun ds M2 h2 vs H2 rh2 i2 r2=>?_⟩⟩;exact ⟨x,ds,M2,QQ,rh2,r1.mf rh1 i2,r2,h2,u.go (i1.trans i2)⟩
theorem A6{r:wg}(hT:Ty="list"\/Ty="str"\/Ty="int"\/Ty="dict")(pa:PlainAttrs Ty)(slot:Slot Ty name id)(hty:typeOf (.builtin id)=pure (.type "method_descriptor"))(hm:wd X id (liftM X r))(ho:DE X B o to)
  (hbase:attributeBase o name X.env (eval o X.env)=eval o X.env:=by rfl) (hline:(apos.endLine==cpos.line)=true:=by rfl):DE X B (.Call (.Attribute o name apos) [] [] cpos) (iA Ty r to ai):=by
 refine bP (A1 pa slot hty hm ho hbase hline) ?_
 rintro σ H Q ⟨δ,M,QQ,s,h,u⟩
 refine ⟨δ,M,_,s,h,fun x M1 h1 v H1 rh1 i1 r1=>⟨vc rh1 r1 h1.1 hT,?_⟩⟩;exact ⟨x,[],M1,QQ,rh1,r1,.nil,h1.2,u.go i1⟩
def bZ:wg:=fun x ds M Q=>match x,ds with
 |.ref a,[y]=>match M a with
  |some (.lst xs)=>xs.length<sizeLine/\Q .non (M.upd a (.lst (xs++[y])))
  |_=>False
 |_,_=>False
theorem dg:wd X "list.append" (liftM X bZ):=by
 intro pins s σ H x vs v us Q I rx rv h;obtain ⟨d,ds,M,QQ,rh,r,rs,h,up⟩:=h;unfold bZ at h
 split at h
 ·rename_i a y
  cases r;obtain ⟨w,rfl,rw'⟩:=iP (ds:=[]) rs
  split at h
  ·rename_i xs hM
   obtain ⟨ws,h1,h2⟩:=rh _ _ hM;have im:Imm H (upd H a (.lst (ws++[w]))):=Imm.upd (by rw [h1];trivial)
   exact rM pins s σ H _ _ v us Q I rx rv ⟨a,ws,w,rfl,rfl,h1,by rw [<- h2.length];exact h.1,up _ _ h.2 _ _ (rh.put (by rw [h1];trivial) ⟨_,upd_same,(h2.append (.cons rw' .nil)).mono im⟩) (Frm.put (.inr ⟨_,hM⟩)) rfl⟩
  ·exact h.elim
 ·exact h.elim
def ub:V->List V->Hp->VK->Prop:=fun x vs H Q=>∃l b xs zs,x=.ref l/\vs=[.ref b]/\H l=some (.lst xs)/\Rd H b (.lst zs)/\xs.length+zs.length<=sizeLine/\Q .non (upd H l (.lst (xs++zs)))
theorem qc:BW X "list.extend" ub:=by
 intro pins s σ H x vs v us Q I rx rv h;obtain ⟨l,b,xs,zs,rfl,rfl,hH,hB,hz,q⟩:=h;cases rx;obtain ⟨u,rfl,ru⟩:=rv.one;cases ru;obtain ⟨z,its,n,r,hl,e⟩:=I.lstM hH;obtain ⟨z2,its2,n2,r2,e2⟩:=hB.ok I.hok;have hl2:=r2.length;have hsz:its.toArray.size+its2.toArray.size<=sizeLine:=by rw [List.size_toArray,List.size_toArray];lia
 have hlong:¬(!its.toArray.isEmpty&&Builtin.List.listTooLong (its.toArray.size+its2.toArray.size))=true:=by
  rw [uE hsz,Bool.and_false];exact Bool.false_ne_true
 refine call_meets F.slot_list_extend ⟨_,e,rfl⟩ F.entry_list_extend (F.args_list_extend_2 _ _)
  (AutoSeq1.list_extend_list_list_0 l its.toArray n b its2.toArray n2 hlong (by rw [List.size_toArray];lia) (by lia)) ⟨e,e2,?_⟩
 refine ⟨.non,_,I.lset (its':=its++its2) hH e (by simp) (r.append r2) ?_,rfl,q⟩
 rw [List.length_append];lia
def gg:wg:=fun x ds M Q=>match x,ds with
 |.ref a,[y]=>match M a,fH M y with
  |some (.lst xs),some ys=>xs.length+ys.length<=sizeLine/\Q .non (M.upd a (.lst (xs++ys)))
  |_,_=>False
 |_,_=>False
theorem jD:wd X "list.extend" (liftM X gg):=by
 intro pins s σ H x vs v us Q I rx rv h;obtain ⟨d,ds,M,QQ,rh,r,rs,h,up⟩:=h;unfold gg at h
 split at h
 ·rename_i a y
  cases r;obtain ⟨w,rfl,rw'⟩:=iP (ds:=[]) rs
  split at h
  ·rename_i xs ys hM hy
   obtain ⟨ws,h1,h2⟩:=rh _ _ hM;obtain ⟨p,zs,rfl,hq,r2⟩:=dW rh rw' hy;have l1:=h2.length;have l2:=r2.length;have im:Imm H (upd H a (.lst (ws++zs))):=Imm.upd (by rw [h1];trivial)
   exact qc pins s σ H _ _ v us Q I rx rv ⟨a,p,ws,zs,rfl,rfl,h1,hq,by lia,up _ _ h.2 _ _ (rh.put (by rw [h1];trivial) ⟨_,upd_same,(h2.append r2).mono im⟩) (Frm.put (.inr ⟨_,hM⟩)) rfl⟩
  ·exact h.elim
 ·exact h.elim
def ya:wg:=fun x ds M Q=>match x,ds with
 |.ref a,[]=>match M a with
  |some (.lst xs)=>match xs[xs.length-1]? with
   |some y=>Q y (M.upd a (.lst xs.dropLast))
   |none=>False
  |_=>False
 |.ref a,[.int i]=>match M a with
  |some (.lst xs)=>match qh xs.length i with
   |some k=>match xs[k]? with
    |some y=>Q y (M.upd a (.lst (xs.eraseIdx k)))
    |none=>False
   |none=>False
  |_=>False
 |_,_=>False
theorem yc:wd X "list.pop" (liftM X ya):=by
 intro pins s σ H x vs v us Q I rx rv h;obtain ⟨d,ds,M,QQ,rh,r,rs,h,up⟩:=h;unfold ya at h
 split at h
 ·rename_i a
  cases r;cases rs
  split at h
  ·rename_i xs hM
   split at h
   ·rename_i y ey
    obtain ⟨ws,h1,h2⟩:=rh _ _ hM;obtain ⟨w,hw,rw'⟩:=h2.get ey;have im:Imm H (upd H a (.lst ws.dropLast)):=Imm.upd (by rw [h1];trivial)
    exact B5 pins s σ H _ _ v us Q I rx rv ⟨a,ws,w,rfl,rfl,h1,by rw [<- h2.length];exact hw,up _ _ h _ _ (rh.put (by rw [h1];trivial) ⟨_,upd_same,h2.dropLast.mono im⟩) (Frm.put (.inr ⟨_,hM⟩)) (rw'.mono im)⟩
   ·exact h.elim
  ·exact h.elim
 ·rename_i a i
  cases r;obtain ⟨w0,rfl,rw0⟩:=iP (ds:=[]) rs;cases rw0
  split at h
  ·rename_i xs hM
   split at h
   ·rename_i k ek
    split at h
    ·rename_i y ey
     obtain ⟨ws,h1,h2⟩:=rh _ _ hM;obtain ⟨w,hw,rw'⟩:=h2.get ey;obtain ⟨j1,j2,j3,j4⟩:=mq ek;have hz:ws.length<=sizeLine:=(I.lstM h1).1;have hs:sizeLine=16777216:=rfl;have hl:=h2.length;have im:Imm H (upd H a (.lst (ws.eraseIdx k))):=Imm.upd (by rw [h1];trivial)
     exact tS pins s σ H _ _ v us Q I rx rv ⟨a,ws,i,k,w,rfl,rfl,h1,by lia,by lia,by rw [<- hl];exact j1,hw,up _ _ h _ _ (rh.put (by rw [h1];trivial) ⟨_,upd_same,(h2.eraseIdx k).mono im⟩) (Frm.put (.inr ⟨_,hM⟩)) (rw'.mono im)⟩
    ·exact h.elim
   ·exact h.elim
  ·exact h.elim
 ·exact h.elim
def hV:wg:=fun x ds M Q=>match x,ds with
 |.ref a,[]=>match M a with
  |some (.lst xs)=>Q .non (M.upd a (.lst xs.reverse))
  |_=>False
 |_,_=>False
theorem o3:wd X "list.reverse" (liftM X hV):=by
 intro pins s σ H x vs v us Q I rx rv h;obtain ⟨d,ds,M,QQ,rh,r,rs,h,up⟩:=h;unfold hV at h
 split at h
 ·rename_i a
  cases r;cases rs
  split at h
  ·rename_i xs hM
   obtain ⟨ws,h1,h2⟩:=rh _ _ hM;have im:Imm H (upd H a (.lst ws.reverse)):=Imm.upd (by rw [h1];trivial)
   exact qa pins s σ H _ _ v us Q I rx rv ⟨a,ws,rfl,rfl,h1,up _ _ h _ _ (rh.put (by rw [h1];trivial) ⟨_,upd_same,h2.reverse.mono im⟩) (Frm.put (.inr ⟨_,hM⟩)) rfl⟩
  ·exact h.elim
 ·exact h.elim
def A9:List D->Option (List Str)
 |[]=>some []
 |.str x::ds=>match A9 ds with
  |some xs=>some (x::xs)
  |none=>none
 |_=>none
end
section
variable {P:Program}{w:World}{K:W.Frag}{mg:Str->Option Value}{base:Heap}{N:List Str}{qual:Str}{scope:Scope}{f C:Addr}{cd:Value}{A:Around}{outer:List Env}{s0:Shared}{H0:Hp}{E:XK}{B:Bd}
theorem ye{X:Cx}{st:Stmt}{t:TS}{E':Value->Shared->Prop}(h:PS X st t)(k:∀e s,X.xe e s->E' e s):PS (X.wish E') st t:=fun pins s σ H D I q=>
 wpAny_mono (h pins s σ H D (I.unwish) q) (fun f s' z=>by
  cases f with
  |next=>obtain ⟨σ',H',I,q⟩:=z;exact ⟨σ',H',I.wish _,q⟩
  |brk=>obtain ⟨σ',H',I,q⟩:=z;exact ⟨σ',H',I.wish _,q⟩
  |cont=>obtain ⟨σ',H',I,q⟩:=z;exact ⟨σ',H',I.wish _,q⟩
  |ret u=>obtain ⟨v,σ',H',I,r,q⟩:=z;exact ⟨v,σ',H',I.wish _,r,q⟩) k
def gI(C:Addr)(EE:DX):aZ:=fun _ _ M=>EE C M
theorem gZ{x msg:Str}{np cpos pos apos:Pos}{jj}{EE:DX}(X:ExcAt K C)(hm:mg x=some (.ref C))(ux:BJ K B EE E)(hg:Gl (fb (cQ P w) P w K mg base N qual scope f cd A outer s0 H0 E) x)
  (hd:(x==("__debug__":Str))=false:=by decide)
  (hs:starEach [.Constant (.str msg) jj apos] (fb (cQ P w) P w K mg base N qual scope f cd A outer s0 H0 E).env=[(false,eval (.Constant (.str msg) jj apos) (fb (cQ P w) P w K mg base N qual scope f cd A outer s0 H0 E).env)]:=by rfl):
  DS (fb (cQ P w) P w K mg base N qual scope f cd A outer s0 H0 E) B (.Raise (some (.Call (.Name x np) [.Constant (.str msg) jj apos] [] cpos)) none pos) (gI C EE):=by
 have h1:PS (fb (oH P w C) P w K mg base N qual scope f cd A outer s0 H0 E) (.Raise (some (.Call (.Name x np) [.Constant (.str msg) jj apos] [] cpos)) none pos) (pW E C):=u6 X hm hg hd hs;have h2:PS (fb (cQ P w) P w K mg base N qual scope f cd A outer s0 H0 E) (.Raise (some (.Call (.Name x np) [.Constant (.str msg) jj apos] [] cpos)) none pos) (pW E C):=
  ye h1 fun e s h=>wpAny_mono h (fun _ _ z=>⟨C,z⟩) fun _ _ z=>⟨C,z⟩
 refine eN h2 ?_
 rintro D σ H ⟨δ,M,DD,s,h,up⟩
 exact ux C M h H s.rh s.i0
end
section
variable {X:Cx}{B:Bd}
theorem wy{P:Program}{w:World}{K:W.Frag}{mg:Str->Option Value}{base:Heap}{k:Nat}{f C:Addr}{fd:FuncData}{ps:List Str}{sp:Sp}(F:FnOk P w K mg base (cQ P w) k f fd ps sp):
  FnOk P w K mg base (oH P w C) k f fd ps (fun vs H Q E=>sp vs H Q fun Cv a H'=>Cv=.ref C/\E Cv a H'):=
 ⟨fun vs H Q E h=>F.len _ _ _ _ h,fun A outer s H args us vs Q E hr he hb hv hs=>codeAny_mono (F.run A outer s H args us vs Q _ hr he hb hv hs) fun r s' h=>by
  cases r with
  |ok fl=>cases fl<;>exact h
  |error e=>
   obtain ⟨C',ea,H',B,a0,e1,e2,e3,e4,e5,e6,e7,e8,e9,e10⟩:=h;have eC:C'=C:=by injection e9
   subst eC;exact ⟨ea,H',B,a0,e1,e2,e3,e4,e5,e6,e7,e8,e10⟩⟩
end
end L3
namespace L2
open PySem PySem.Spec PyProof.Rows
theorem dD{scope:Scope}{env:Env}{x:Str}{k:NameKind}(h:(relabel scope env).names.lookup x=some k):∃k',(x,k')∈scope.names/\(k=k'\/(k'=.free/\k=.cell)):=by
 have hm:=PySem.mem_of_lookup h;obtain ⟨⟨n,kk⟩,h1,h2⟩:=List.mem_map.mp hm
 by_cases hc:(kk==NameKind.free&&env.scope.kind==.function&&env.kindOf n==some .cell)=true
 ·have h2':(n,NameKind.cell)=(x,k):=by rw [<- h2];show _=(if _ then _ else _);rw [if_pos hc]
  cases h2';have hf:kk=.free:=by
   simp only [Bool.and_eq_true] at hc;exact beq_iff_eq.mp hc.1.1
  exact ⟨kk,h1,.inr ⟨hf,rfl⟩⟩
 ·have h2':(n,kk)=(x,k):=by rw [<- h2];show _=(if _ then _ else _);rw [if_neg hc]
  cases h2';exact ⟨_,h1,.inl rfl⟩
theorem iY{x:Str}:∀{fs:List Str} {cs:List Addr},fs.length=cs.length->x∈fs->∃c,(fs.zip cs).lookup x=some c
 |[],_,_,h=>by cases h
 |_::_,[],h,_=>by simp at h
 |y::fs,c::cs,hl,h=>by
  rw [List.zip_cons_cons,List.lookup_cons];cases e:x==y with
  |true=>exact ⟨c,rfl⟩
  |false=>
   have ne:¬x=y:=fun z=>by rw [z] at e;simp at e
   rcases List.mem_cons.mp h with z|z
   ·exact absurd z ne
   ·exact iY (by simpa using hl) z
theorem ib{X:Cx}{scope:Scope}{ls:List Str}(hk:scope.kind=.function)(hn:∀y∈scope.names,y.2≠.cell/\y.2≠.free)(hl:∀x∈scope.names,x.2=.local->scope.names.lookup x.1=some .local):CompOk X scope [] ls [] [] where
 kind:=hk
 nocell:=fun y hy=>(hn y hy).1
 locs:=hl
 clos:=closureFor_none fun x hx=>(hn x hx).2
 cells:=fun x c h=>by cases h
 has:=fun x h=>by
  rcases h with h|h
  ·obtain ⟨k',h1,h2|⟨h2,_⟩⟩:=dD h
   ·exact absurd h2.symm (hn _ h1).1
   ·exact absurd h2 (hn _ h1).2
  ·obtain ⟨k',h1,h2|⟨h2,_⟩⟩:=dD h
   ·exact absurd h2.symm (hn _ h1).2
   ·exact absurd h2 (hn _ h1).2
 frees:=.nil
theorem xH{X:Cx}{scope:Scope}{ls fs:List Str}{cs:List Addr}{js:List Nat}(hk:scope.kind=.function)(hn:∀y∈scope.names,y.2≠.cell/\(y.2=.free->y.1∈fs))(hl:∀x∈scope.names,x.2=.local->scope.names.lookup x.1=some .local)
  (hlen:fs.length=cs.length) (hcl:closureFor scope X.env=pure (fs.zip cs)) (hc:∀p∈fs.zip cs,X.env.cells.lookup p.1=some p.2) (hf:Frees X scope fs js):CompOk X scope (fs.zip cs) ls fs js where
 kind:=hk
 nocell:=fun y hy=>(hn y hy).1
 locs:=hl
 clos:=hcl
 cells:=fun y d h=>hc (y,d) (PySem.mem_of_lookup h)
 has:=fun y h=>by
  have hy:y∈fs:=by
   rcases h with h|h
   ·obtain ⟨k',h1,h2|⟨h2,_⟩⟩:=dD h
    ·exact absurd h2.symm (hn _ h1).1
    ·exact (hn _ h1).2 h2
   ·obtain ⟨k',h1,h2|⟨h2,_⟩⟩:=dD h
    ·exact (hn _ h1).2 h2.symm
    ·exact (hn _ h1).2 h2
  exact iY hlen hy
 frees:=hf
theorem memZ{α:Type}{C:α->Prop}:∀p∈([]:List α),C p:=fun _ h=>by cases h
theorem memC{α:Type}{C:α->Prop}{a:α}{l:List α}(ha:C a)(hl:∀p∈l,C p):∀p∈a::l,C p:=fun p hp=>by
 rcases List.mem_cons.mp hp with rfl|z
 ·exact ha
 ·exact hl p z
end L2
namespace L3
open PySem L2
section
variable {X:Cx}{B:Bd}{pos:Pos}
theorem ap(i:Nat){x:Str}{pos:Pos}(hN:X.N[i]?=some x:=by rfl)(hv:Cj X.env.scope x:=by first|exact Or.inl rfl|exact Or.inr (Or.inl rfl)|exact Or.inr (Or.inr rfl))(hd:(x==("__debug__":Str))=false:=by decide)
  (hcd:(x==("__classdict__":Str))=false:=by decide):DE X B (.Name x pos) (ae i):=AQ hN hv hd hcd
def we:DX:=fun _ _=>False
theorem uxN{K:W.Frag}{E:XK}:BJ K B we E:=fun _ _ z=>z.elim
theorem jK:bootBuiltins "list"=some (.type "list"):=by decide +kernel
theorem dI:bootBuiltins "tuple"=some (.type "tuple"):=by decide +kernel
theorem xM:bootBuiltins "all"=some (.builtin "all"):=by decide +kernel
theorem aF:bootBuiltins "isinstance"=some (.builtin "isinstance"):=by decide +kernel
theorem kj:bootBuiltins "bool"=some (.type "bool"):=by decide +kernel
theorem qS:bootBuiltins "int"=some (.type "int"):=by decide +kernel
theorem jq:bootBuiltins "str"=some (.type "str"):=by decide +kernel
theorem wH:bootBuiltins "min"=some (.builtin "min"):=by decide +kernel
theorem bS:bootBuiltins "len"=some (.builtin "len"):=by decide +kernel
theorem eL{x:Str}{T:String}(hg:Gl X x)(hm:X.mg x=none)(hv:bootBuiltins x=some (.type T))(hn:x≠"__name__":=by decide)(hd:(x==("__debug__":Str))=false:=by decide):DE X B (.Name x pos) (dC (.ty T)):=
 sv (yR (v:=.ty T) hg hm hv rfl hn hd) fun _=>rfl
def zM(t:cj):cj:=fun δ M Q=>t δ M fun x M1=>match x with
 |.int i=>Q (.int (-i)) M1
 |_=>False
theorem ug{a:Expr}{ta:cj}(ha:DE X B a ta):DE X B (.UnaryOp .USub a pos) (zM ta):=by
 refine bP (D5 AD ha) ?_
 rintro σ H Q ⟨δ,M,QQ,s,h,u⟩
 refine ⟨δ,M,_,s,h,fun d M' q v H' rh i r=>?_⟩;cases d with
 |int j=>exact ⟨j,r,u _ M' q _ H' rh i rfl⟩
 |_=>exact (show False from q).elim
theorem uu{a b c:Expr}{ta tb tc:cj}{op op':CmpOp}{r r':iW}(ho:eg X (compareOp op) (liftR2 X r))(ho':eg X (compareOp op') (liftR2 X r'))(ha:DE X B a ta)(hb:DE X B b tb)(hc:DE X B c tc)(hm:lastMarks [op,op'] [b,c]=false:=by with_unfolding_all rfl):
  DE X B (.Compare a [op,op'] [b,c] pos) (oZ r r' ta tb tc):=by
 refine bP (tB ho ho' ha hb hc hm) ?_
 rintro σ H Q ⟨δ,M,QQ,s,h,u⟩
 refine ⟨δ,M,_,s,h,fun x M1 h1 v1 H1 rh1 i1 r1=>?_⟩;refine ⟨δ,M1,_,s.go rh1 i1,h1,fun y M2 h2 v2 H2 rh2 i2 r2=>?_⟩;refine ⟨x,y,M2,_,rh2,r1.mf rh1 i2,r2,h2,fun z M3 h3 v3 H3 rh3 i3 r3=>?_⟩;cases z with
 |bl k=>
  cases r3;cases k with
  |true=>
   refine ⟨true,rfl,?_⟩;rw [if_pos rfl];refine ⟨δ,M3,_,s.go rh3 ((i1.trans i2).trans i3),h3,fun w M4 h4 v4 H4 rh4 i4 r4=>?_⟩;exact ⟨y,w,M4,QQ,rh4,(r2.mf rh2 (i3.trans i4)),r4,h4,u.go (((i1.trans i2).trans i3).trans i4)⟩
  |false=>
   refine ⟨false,rfl,?_⟩;rw [if_neg Bool.false_ne_true];exact u _ M3 h3 _ H3 rh3 ((i1.trans i2).trans i3) rfl
 |_=>exact (show False from h3).elim
def frzs:List D->Mem->(List D->Mem->Prop)->Prop
 |[],M,Q=>Q [] M
 |d::ds,M,Q=>match d with
  |.ref a=>match M a with
   |some (.lst xs)=>frzs ds (M.del a) fun es M'=>Q (.lst xs::es) M'
   |_=>frzs ds M fun es M'=>Q (d::es) M'
  |_=>frzs ds M fun es M'=>Q (d::es) M'
theorem gY{pins:List (Addr×Obj)}{σ:L2.St}{s:Shared}:∀{ds:List D} {vs:List V} {M:Mem} {H:Hp} {Q:List D->Mem->Prop},Inv X pins σ H s->RepH X.K H M->Rps X.K H ds vs->frzs ds M Q->
  ∃H' es M',Inv X pins σ H' s/\RepH X.K H' M'/\Frm M H M' H'/\Rps X.K H' es vs/\Q es M'
 |[],vs,M,H,Q,I,rh,r,h=>⟨H,[],M,I,rh,Frm.refl,r,h⟩
 |d::ds,vs,M,H,Q,I,rh,r,h=>by
  obtain ⟨v,vs',rfl,a,b⟩:=r;unfold frzs at h
  split at h
  ·rename_i a'
   cases a
   split at h
   ·rename_i xs e
    obtain ⟨ws,h1,h2⟩:=rh _ _ e;obtain ⟨o,I2⟩:=Inv.freeze I h1;have im:Imm H (upd H a' (.frz o (.lst ws))):=Imm.upd (by rw [h1];trivial)
    obtain ⟨H',es,M',I',rh',f,r',q⟩:=gY I2 (rh.freeze h1) (b.mono im) h;refine ⟨H',_,M',I',rh',(Frm.del ⟨_,e⟩).trans f,.cons ?_ r',q⟩;have z:Rp X.K (upd H a' (.frz o (.lst ws))) (.lst xs) (.ref a'):=⟨a',ws,rfl,⟨o,upd_same⟩,h2.mono im⟩;exact z.mf (rh.freeze h1) f
   ·obtain ⟨H',es,M',I',rh',f,r',q⟩:=gY I rh b h
    exact ⟨H',_,M',I',rh',f,.cons (d:=.ref a') rfl r',q⟩
  ·obtain ⟨H',es,M',I',rh',f,r',q⟩:=gY I rh b h
   exact ⟨H',_,M',I',rh',f,.cons (a.mf rh f) r',q⟩
def v7(d:D)(M:Mem)(Q:DK):Prop:=match d with
 |.tup ds=>frzs ds M fun es M'=>Q (.tup es) M'
 |d=>Q d M
def uB(t:cj):cj:=fun δ M Q=>t δ M fun d M'=>v7 d M' Q
theorem xV{e:Expr}{te:cj}(h:DE X B e te):DE X B e (uB te):=by
 intro pins s σ H Q I hq;obtain ⟨δ,M,QQ,sr,hT,u⟩:=hq;refine cL (h pins s σ H (fun v H'=>∃d M',RepH X.K H' M'/\Frm M H M' H'/\Rp X.K H' d v/\v7 d M' QQ) I ⟨δ,M,_,sr,hT,fun d M' q v H' rh i r=>⟨d,M',rh,i,r,q⟩⟩) ?_
 rintro w s' ⟨v,H',I',rv,d,M',rh,i,r,q⟩
 unfold v7 at q
 split at q
 ·obtain ⟨p,vs,rfl,ht,r⟩:=r
  obtain ⟨H2,es,M2,I2,rh2,f2,r2,q2⟩:=gY I' rh r q;exact ⟨.ref p,H2,I2,rv,u _ _ q2 _ H2 rh2 (i.trans f2) ⟨p,vs,rfl,ht.mono (f2.imm rh),r2⟩⟩
 ·exact ⟨v,H',I',rv,u _ _ q v H' rh i r⟩
theorem zU{P:Program}{w:World}{K:W.Frag}{mg:Str->Option Value}{base:Heap}{k n:Nat}{f:Addr}{fd:FuncData}{ps:List Str}{T:Sd}(F:FnOk P w K mg base (cQ P w) k f fd ps (aR K n T)):
  FnOk P w K mg base CX0 k f fd ps (fun vs H Q _=>aR K n T vs H Q E0):=
 ⟨fun vs H Q E h=>F.len _ _ _ _ h,fun A outer s H args us vs Q E hr he hb hv hs=>codeAny_mono (F.run A outer s H args us vs Q E0 hr he hb hv hs) fun r s' h=>by
  cases r with
  |ok fl=>cases fl<;>exact h
  |error e=>
   obtain ⟨C',ea,H',B,a0,e1,e2,e3,e4,e5,e6,e7,e8,e9⟩:=h;exact (show False from e9).elim⟩
theorem yM{K:W.Frag}{T:Sd}{H:Hp}{a:Addr}{ns:List Int}{Q:VK}(hO:vF H)(hS:SqL K H a (ns.map V.int))(h:T [.ml (ns.map D.int)] (fun _=>none) (fun d _=>d=.bl true) we)(k:∀H',Q (.bl true) H'):aR K 1 T [.ref a] H Q E0:=by
 refine ⟨rfl,[.ml (ns.map D.int)],fun _=>none,_,_,fun b o e=>(by cases e),.cons ⟨a,_,rfl,?_,oD rfl⟩ .nil,h,fun d M' q v H' rh f r=>?_,fun _ _ z=>z.elim⟩
 ·rcases hS with (z|z)|z
  ·rcases hO a with e|⟨o,xs,e⟩
   ·rw [e] at z;cases z
   ·rw [e] at z;cases z
  ·exact .inl z
  ·exact .inr z
 ·subst q;cases r;exact k H'
end
theorem ja{K:W.Frag}{h h':Heap}{N:Addr}(X:K.In h)(X':K.In h')(e:W.nsOkIn K N=true):h'.nsMap N=h.nsMap N:=by
 unfold W.nsOkIn at e
 split at e
 ·rename_i ho
  funext x;unfold Heap.nsMap;rw [X _ _ ho,X' _ _ ho]
 ·cases e
theorem p_{K:W.Frag}{h:Heap}{C:Addr}(X:K.In h)(q:W.excIn K C [.type "ValueError",.type "Exception",.type "BaseException",.type "object"] "ValueError.__new__"=true):ExcAt K C:=by
 unfold W.excIn at q
 split at q
 ·rename_i dd cd sl ho
  split at q
  ·rename_i C' bm k0 k1 k2 k3 n k5 hm hs
   simp only [Bool.and_eq_true,beq_iff_eq,Bool.not_eq_true'] at q;obtain ⟨⟨⟨⟨⟨rfl,rfl⟩,hdel⟩,ht⟩,hok⟩,hni⟩:=q;obtain ⟨nm,bs,mro,ns,qn,hd,sn,sub,ab,col,del⟩:=cd;dsimp only at hm hdel hok hni;subst hm hdel;have hsl:sl=#[k0,k1,k2,k3,some (.builtin "ValueError.__new__"),k5]:=by
    obtain ⟨l⟩:=sl;simp only at hs;rw [hs]
   subst hsl;refine ⟨⟨nm,qn,ns,bs,bm,_,hd,sn,sub,ab,col,dd,k0,k1,k2,k3,k5,"ValueError.__new__","ValueError.__init__","ValueError",h.nsMap ns,fun h' X'=>⟨X' _ _ ho,?_,W.tail_of_in X' ht⟩,W.nsMap_none_of_in X hok hni,PySem.F.excBase_ValueError,by decide,(W.tail_of_in X ht).hasType (by decide)⟩⟩
   rw [<- ja X X' hok];exact .of_isNs (W.isNs_of_in X' hok)
  ·cases q
 ·cases q
end L3
namespace L2
open PySem
end L2
namespace L3
open PySem L2
def wa:Expr->Bool
 |.Starred ..=>false
 |_=>true
theorem sf{e:Expr}{es:List Expr}{env:Env}(h:wa e=true):starEach (e::es) env=(false,eval e env)::starEach es env:=by
 cases e<;>first|rfl|exact Bool.noConfusion h
section
variable {X:Cx}{B:Bd}
theorem bW{e:Expr}{es:List Expr}{te:cj}{t:gv}(ha:DE X B e te)(hr:DA X B es t)(hp:wa e=true:=by rfl):DA X B (e::es) (ac te t):=aa ha hr (sf hp)
end
end L3
namespace L3
open PySem L2
section
variable {X:Cx}{B:Bd}
end
end L3
namespace L3
open PySem L2
section
variable {X:Cx}{B:Bd}
end
end L3
namespace L3
open PySem L2
section
variable {X:Cx}{B:Bd}
end
end L3
namespace LS
open PySem
end LS
namespace LS
open PySem
section
variable {prog:Program}{w:World}{K:Type}[DecidableEq K]{A:Around}{E:Value->Shared->Prop}{s:Shared}
variable {knd:KeyKind prog w K}
end
end LS
namespace LS
open PySem
section
variable {prog:Program}{w:World}{K:Type}[DecidableEq K]{A:Around}{E:Value->Shared->Prop}{s:Shared}{knd:KeyKind prog w K}
end
end LS
namespace LS
open PySem
section
variable {M:Model}{A:Around}{E:Value->Shared->Prop}
end
end LS
namespace LS
open PySem
section
variable {prog:Program}{w:World}{A:Around}{E:Value->Shared->Prop}{s:Shared}{I a:Addr}{f:Value}{i n ep:Nat}{es:Array (Int×Value)}{t:SetTable}
end
end LS
namespace LS
open PySem
section
variable {prog:Program}{w:World}{A:Around}{E:Value->Shared->Prop}{s:Shared}{I a:Addr}{ep:Nat}{es:Array (Int×Value)}{t:SetTable}
end
end LS
namespace LS
open PySem PySem.W PySem.Calls PyProof.Rows PyProof.V PySem.Spec
section
variable {prog:Program}{w:World}{A:Around}{E:Value->Shared->Prop}{s:Shared}{a:Addr}{ep:Nat}{es:Array (Int×Value)}{t:SetTable}
end
end LS
namespace LS
open PySem
section
variable {prog:Program}{w:World}{A:Around}{E:Value->Shared->Prop}{s:Shared}{a:Addr}
end
end LS
namespace LS
open PySem
structure Ord(K:Type) where
 lt:K->K->Bool
 anti:∀x y,lt x y=false->lt y x=false->x=y
 tr:∀x y z,lt y x=false->lt z y=false->lt z x=false
 asym:∀x y,lt x y=true->lt y x=false
section
variable {K:Type}[DecidableEq K](o:Ord K)
abbrev Ay(l:List K):Prop:=l.Pairwise fun a b=>o.lt b a=false
def ins(x:K):List K->List K
 |[]=>[x]
 |y::r=>if o.lt y x=true then y::ins x r else x::y::r
def wA:List K->List K
 |[]=>[]
 |x::r=>ins o x (wA r)
theorem kt(x:K):∀l:List K,(ins o x l).Perm (x::l)
 |[]=>List.Perm.refl _
 |y::r=>by
  unfold ins
  by_cases h:o.lt y x=true
  ·rw [if_pos h];exact (List.Perm.cons y (kt x r)).trans (List.Perm.swap ..)
  ·rw [if_neg h]
theorem fS:∀l:List K,(wA o l).Perm l
 |[]=>List.Perm.refl _
 |x::r=>(kt o x _).trans (List.Perm.cons x (fS r))
theorem qp(x:K):∀l:List K,Ay o l->Ay o (ins o x l)
 |[],_=>by simp [ins,Ay]
 |y::r,h=>by
  unfold ins;have hc:=List.pairwise_cons.mp h
  by_cases c:o.lt y x=true
  ·rw [if_pos c]
   refine List.pairwise_cons.mpr ⟨fun z hz=>?_,qp x r hc.2⟩;rcases List.mem_cons.mp ((kt o x r).mem_iff.mp hz) with rfl|q
   ·exact o.asym _ _ c
   ·exact hc.1 z q
  ·rw [if_neg c]
   have c':o.lt y x=false:=by simpa using c
   refine List.pairwise_cons.mpr ⟨fun z hz=>?_,h⟩;rcases List.mem_cons.mp hz with rfl|q
   ·exact c'
   ·exact o.tr _ _ _ c' (hc.1 z q)
theorem m4:∀l:List K,Ay o (wA o l)
 |[]=>List.Pairwise.nil
 |x::r=>qp o x _ (m4 r)
theorem uh:∀(a b:List K),Ay o a->Ay o b->a.Perm b->a=b
 |[],b,_,_,p=>by rw [p.symm.eq_nil]
 |x::a,b,ha,hb,p=>by
  cases b with
  |nil=>have:=p.eq_nil;cases this
  |cons y b=>
   have pa:=List.pairwise_cons.mp ha;have pb:=List.pairwise_cons.mp hb;have e:x=y:=by
    rcases List.mem_cons.mp (p.mem_iff.mp (List.mem_cons_self ..)) with e|hx
    ·exact e
    ·rcases List.mem_cons.mp (p.symm.mem_iff.mp (List.mem_cons_self ..)) with e|hy
     ·exact e.symm
     ·exact o.anti _ _ (pb.1 x hx) (pa.1 y hy)
   subst e;rw [uh a b pa.2 pb.2 (List.Perm.cons_inv p)]
theorem vf{a l:List K}(ha:Ay o a)(p:a.Perm l):a=wA o l:=uh o _ _ ha (m4 o l) (p.trans (fS o l).symm)
end
end LS
namespace L3
open PySem L2 LS
section
variable {X:Cx}{B:Bd}
theorem jV:bootBuiltins "sorted"=some (.builtin "sorted"):=by decide +kernel
end
end L3
namespace LS
open PySem
section
variable {prog:Program}{w:World}{A:Around}{E:Value->Shared->Prop}{s:Shared}{a:Addr}
end
end LS
namespace L3
open PySem L2 LS
def eh:List D->Option (List Int)
 |[]=>some []
 |.int i::ds=>match eh ds with
  |some is=>some (i::is)
  |none=>none
 |_=>none
theorem kg:∀ns:List Int,eh (ns.map D.int)=some ns
 |[]=>rfl
 |x::ns=>by rw [List.map_cons,eh,kg ns]
theorem og{K:W.Frag}{H:Hp}:∀{ds:List D} {vs:List V} {xs:List Int},Rps K H ds vs->eh ds=some xs->vs=xs.map V.int
 |[],vs,xs,r,e=>by cases e;exact r
 |d::ds,vs,xs,r,e=>by
  obtain ⟨v,r',rfl,a,b⟩:=r;cases d with
  |int c=>
   simp only [eh] at e
   split at e
   ·rename_i xs' e2
    cases e;cases a;rw [og b e2];rfl
   ·cases e
  |_=>simp [eh] at e
theorem mI:∀{ss:List Int} {us:List Value},Vals (ss.map V.int) us->PyProof.Rows.IntsAre us ss
 |[],_,.nil=>.nil
 |_::_,_,.cons r t=>by obtain ⟨u,rfl⟩:=r;exact .cons _ _ (mI t)
section
variable {X:Cx}{B:Bd}
end
end L3
namespace L2
open PySem
section
variable {X:Cx}
end
end L2
namespace L3
open PySem L2 LS
section
variable {X:Cx}{B:Bd}
end
end L3
namespace L3
open PySem L2 LS
section
variable {X:Cx}{B:Bd}{name:Str}{a:Addr}{tab:List (Str×D)}
end
end L3
namespace LS
open PySem
section
variable {prog:Program}{w:World}{K:Type}[DecidableEq K]{A:Around}{E:Value->Shared->Prop}{s:Shared}{knd:KeyKind prog w K}
end
end LS
namespace LS
open PySem
section
variable {prog:Program}{w:World}{K:Type}[DecidableEq K]{A:Around}{E:Value->Shared->Prop}{s:Shared}{knd:KeyKind prog w K}
end
end LS
namespace L2
open PySem PySem.Spec
section
variable {X:Cx}{tg:Expr}
end
end L2
namespace L3
open PySem L2 LS
section
variable {X:Cx}{B:Bd}{tg:Expr}{K:W.Frag}{H:Hp}{M:Mem}
end
end L3
namespace L3
open PySem L2
section
variable {X:Cx}{B:Bd}{pos:Pos}
end
end L3
namespace L3
open PySem L2
section
variable {X:Cx}{B:Bd}
end
end L3
namespace L3
open PySem L2 LS
section
variable {X:Cx}{B:Bd}
end
end L3
namespace LS
open PySem PySem.W PySem.Calls PyProof.Rows PyProof.V PySem.Spec
section
variable {prog:Program}{w:World}{K:Type}[DecidableEq K]{knd:KeyKind prog w K}{A:Around}{E:Value->Shared->Prop}{s:Shared}{v d:Addr}{ep:Nat}{kvs:List (K×Value)}
end
end LS
namespace L3
open PySem L2 LS
section
variable {X:Cx}{B:Bd}{pos:Pos}
end
end L3
namespace LX
open PySem PySem.W PySem.Spec PySem.Calls PyProof.Rows Builtin Builtin.ObjectAttr Builtin.Getset_descriptor
section
variable {K:Frag}{prog:Program}{w:World}{A:Around}{E:Value->Shared->Prop}{s:Shared}
theorem qd{M:Model}{h:Heap}(X:K.In h){x C:Addr}{name:Str}{a g:Value}(ha:findIn K (.ref C) name=some (some a))(hg:specialIn K a "__get__"=some (some g))(ht:takesIn K a=some true):
  Looks M h (Builtin.ObjectAttr.find (.ref x) (.ref C) name) (.bind g a):=by
 have L1:=looks_findIn (M:=M) X ha;have L2:Looks M h (Builtin.ObjectAttr.getOf (some a)) (some g):=looks_specialIn X hg;have L3:=looks_takesIn (M:=M) X ht;refine L1.andThen (L2.andThen ?_);exact (show Looks M h (Builtin.ObjectAttr.dataDescriptor? (some a) (some g)) (some (g,a)) from L3.andThen .now).andThen (Looks.tag .now)
theorem pc{x C:Addr}{R:Result->Shared->Prop}{tp:Value}(X:K.In s.heap)(L0:∀M:Model,Looks M s.heap (typeOf (.ref x)) (.ref C))(hm:mroIn K C (.type "object")=some true)
  (h:R (.ok (.ret (.ref C))) s):codeAny (model prog w) A (.call (.builtin "getset_descriptor.__get__") ⟨[.builtin "object.__class__",.ref x,tp],[]⟩) R s:=by
 obtain ⟨hh,g,dr,t,os⟩:=s;have L0:=L0 (model prog w);have L1:=looks_mroIn (M:=model prog w) X hm;refine codeAny_call_builtin KF.slot_gs.plain KF.entry_gs (KF.slot_gs.check _ _ _ _ _ _ _ _ KF.type_class (KF.args_gs _ _ _) ?_);unfold Builtin.«getset_descriptor.__get__» descrGet;rw [dga_obj];refine wpAny_bind (wpAny_pure ?_);unfold descrGetter descrCheckInstance descrNameAndClass isInstance;simp only [KF.owner_class]
 repeat lk
 refine ⟨Code.quiet_builtin _ (by decide +kernel),codeAny_builtin KF.entry_class ?_⟩
 unfold Builtin.«object.__class__» shownTypeOf
 repeat lk
 exact h
theorem ud{M:Model}{A:Around}{E:Value->Shared->Prop}{s:Shared}{x:Addr}{v:Value}{Q:Unit->Shared->Prop}(L:Looks M s.heap (isInstance (.ref x) (.type "BaseException")) true)(hQ:Q () s):
  wpAny M A (checkBuiltinCall "BaseException.__getattribute__" ⟨[.ref x,v],[]⟩) Q E s:=by
 have hsplit:splitId "BaseException.__getattribute__"=some ("BaseException","__getattribute__"):=by decide +kernel
 have hkind:(Manifest.find? "BaseException").bind (·.attrs.lookup "__getattribute__")=some .slot:=by decide +kernel
 have hk:builtinKind "BaseException.__getattribute__"=(Manifest.find? "BaseException").bind (·.attrs.lookup "__getattribute__"):=by simp only [builtinKind,hsplit]
 have ha:argsOk "BaseException.__getattribute__" ⟨[.ref x,v],[]⟩:=F.args_bexc_ga _ _;simp only [checkBuiltinCall,hk,hkind,hsplit];refine wpAny_bind (L.at ?_);simp only [Bool.not_true,Bool.false_eq_true,if_false];cases hsig:Manifest.signature? "BaseException.__getattribute__" with
 |none=>exact wpAny_pure hQ
 |some sig=>
  simp only [argsOk,hsig] at ha;have h2:Bind.checkArgs "BaseException.__getattribute__" sig ⟨[.ref x,v],[]⟩=pure ():=ha;show wpAny M A (Bind.checkArgs "BaseException.__getattribute__" sig ⟨[.ref x,v],[]⟩) Q E s;rw [h2];exact wpAny_pure hQ
theorem slot_ga:Slot "ValueError" "__getattribute__" "BaseException.__getattribute__":=F.excAttr_ValueError.ga
theorem rW{x D:Addr}{ox:Obj}(hga:findIn K (.ref D) "__getattribute__"=some (some (.builtin "BaseException.__getattribute__")))(hgh:findIn K (.ref D) "__getattr__"=some none)
  (ha:findIn K (.ref D) "__class__"=some (some (.builtin "object.__class__")))
  (hn:specialIn K (.builtin "object.__class__") "__get__"=some (some (.builtin "getset_descriptor.__get__"))) (htk:takesIn K (.builtin "object.__class__")=some true) (hm:mroIn K D (.type "object")=some true)
  (hbe:mroIn K D (.type "BaseException")=some true)
  {Q:Option Value->Shared->Prop} (X:K.In s.heap) (I:s.heap.get? x=some ox/\ox.cls=.ref D) (h:Q (some (.ref D)) { s with toks:=s.toks+1 }):wpAny (model prog w) A (getAttr? (.ref x) "__class__") Q E s:=by
 obtain ⟨hh,g,d,t,os⟩:=s;have L00:∀M:Model,Looks M hh (typeOf (.ref x)) (.ref D):=fun M=>I.2▸(Looks.ld I.1).andThen .now;have L0:=L00 (model prog w);have L1:=looks_findIn (M:=model prog w) X hga;have L2:=looks_findIn (M:=model prog w) X hgh;have L3:=qd (M:=model prog w) (x:=x) X ha hn htk;have L4:Looks (model prog w) hh (isInstance (.ref x) (.type "BaseException")) true:=L0.andThen (looks_mroIn (M:=model prog w) X hbe);unfold getAttr? getAttrBy? getAttrBy;refine wpAny_bind (wpAny_mkText (wpAny_bind (wpAny_attempt (wpAny_holding (wpAny_bind (L0.at (wpAny_bind (L1.at ?_))))))));show wpAny _ _ (getAttrByItsOwn _ _ _ _ _ _) _ _ _;unfold getAttrByItsOwn hookBefore;refine wpAny_bind (L2.at ?_);refine wpAny_bind (wpAny_attempt (wpAny_holding ?_));show wpAny _ _ (boundAndCalled _ _ _) _ _ _;unfold boundAndCalled;rw [slot_ga.bind];refine wpAny_bind (wpAny_pure ?_);refine wpAny_call ?_;refine codeAny_call_builtin slot_ga.plain F.entry_bexc_ga (ud L4 ?_);unfold Builtin.«object.__getattribute__» slotArgs;refine wpAny_bind (wpAny_pure (wpAny_bind (wpAny_pure (wpAny_bind (L0.at (wpAny_bind (L3.at ?_)))))));show wpAny _ _ (Builtin.ObjectAttr.bindTo _ _ _ _) _ _ _;refine wpAny_bind (wpAny_holding (wpAny_call (pc (s:=⟨hh,g,d,t+1,os⟩) X L00 hm ?_)));refine wpAny_pure ?_;exact handed_on rfl (wpAny_pure h)
end
end LX
namespace LX
open PySem PySem.W PySem.Spec PySem.Calls PyProof.Rows
structure XC(K:Frag)(C:Addr):Prop where
 ga:findIn K (.ref C) "__getattribute__"=some (some (.builtin "BaseException.__getattribute__"))
 gh:findIn K (.ref C) "__getattr__"=some none
 dct:hasDictIn K C=true
 cl:findIn K (.ref C) "__class__"=some (some (.builtin "object.__class__"))
 sp:specialIn K (.builtin "object.__class__") "__get__"=some (some (.builtin "getset_descriptor.__get__"))
 tk:takesIn K (.builtin "object.__class__")=some true
 ob:mroIn K C (.type "object")=some true
 be:mroIn K C (.type "BaseException")=some true
theorem t7{K:Frag}{x D:Addr}{ox:Obj}(Z:XC K D):KitX K (.ref x) (.ref D) (fun h=>h.get? x=some ox/\ox.cls=.ref D) where
 ty:=fun _ _ _ I=>I.2▸(Looks.ld I.1).andThen .now
 it:=fun _ _ X _=>by
  obtain ⟨cdD,hcD,_⟩:=any_some Z.dct;unfold clsIn at hcD
  split at hcD
  ·rename_i c' d' cd' sl' ho
   intro A' Q' E' s' k q;unfold isType loadHead;exact wpAny_bind (wpAny_loadPart (k _ _ (X _ _ ho)) (wpAny_pure q))
  ·cases hcD
 ne:=fun h tp dd its n sl X htp=>by
  obtain ⟨cdD,hcD,_⟩:=any_some Z.dct;refine Bool.eq_false_iff.mpr fun q=>?_;have e:D=tp:=Value.ref.inj (beq_iff_eq.mp q);subst e;unfold clsIn at hcD
  split at hcD
  ·rename_i c' d' cd' sl' ho
   have z:=(X _ _ ho).symm.trans htp;cases z
  ·cases hcD
 ca:=fun X I k=>rW Z.ga Z.gh Z.cl Z.sp Z.tk Z.ob Z.be X I k
theorem tU{K:Frag}{M:Model}{A:Around}{E:Value->Shared->Prop}{s:Shared}{e C S:Addr}{oe:Obj}{Q:Bool->Shared->Prop}(X:K.In s.heap)(h1:instIn K (.ref S) (.type "tuple")=some false)(h2:(clsIn K S).isSome=true)
  (h3:mroIn K S (.type "BaseException")=some true) (h4:mroIn K C (.ref S)=some true) (he:s.heap.get? e=some oe) (hcls:oe.cls=.ref C) (hq:Q true s):wpAny M A (excMatches (.ref e) (.ref S)) Q E s:=by
 have L1:=looks_instIn (M:=M) X h1;have L3:=looks_mroIn (M:=M) X h3;have L4:=looks_mroIn (M:=M) X h4;have L2:Looks M s.heap (isType (.ref S)) true:=by
  unfold clsIn at h2
  split at h2
  ·rename_i c' d' cd' sl' ho
   intro A' Q' E' s' k q;unfold isType loadHead;exact wpAny_bind (wpAny_loadPart (k _ _ (X _ _ ho)) (wpAny_pure q))
  ·cases h2
 have L5:Looks M s.heap (typeOf (.ref e)) (.ref C):=hcls▸(Looks.ld he).andThen .now;obtain ⟨hh,g,d,t,os⟩:=s;unfold excMatches isExcClass;refine wpAny_bind (L1.at ?_);simp only [Bool.false_eq_true,if_false];refine wpAny_bind (wpAny_pure ?_);rw [List.forIn_cons];refine wpAny_bind (wpAny_bind (wpAny_bind (wpAny_bind (L2.at ?_))));simp only [if_true];refine L3.at ?_;simp only [Bool.not_true,Bool.false_eq_true,if_false];refine wpAny_pure ?_
 try dsimp only
 rw [List.forIn_nil];refine wpAny_pure (wpAny_bind (L5.at ?_));rw [List.forIn_cons];refine wpAny_bind (wpAny_bind (wpAny_bind (L4.at ?_)));simp only [if_true];refine wpAny_pure ?_
 try dsimp only
 exact wpAny_pure (wpAny_pure hq)
end LX
namespace L2
open PySem PySem.Spec PyProof.Rows
section
variable {X:Cx}{pins:List (Addr×Obj)}{σ:St}{H:Hp}{s:Shared}{e:Value}
theorem Inv.track{a:Addr}{o:Obj}(I:Inv X pins σ H s)(ho:s.heap.get? a=some o)(hn:H a=none)(hf:∀u,X.s₀.heap.get? a≠some u)(hL:a≠X.env.locals)(hc:∀x c,X.env.cells.lookup x=some c->c≠a)(hp:∀p∈X.pn++pins,p.1≠a):Inv X pins σ (upd H a (.frz o (.own 0))) s:=by
 have ne:∀{b:Addr},b≠a->upd H a (.frz o (.own 0)) b=H b:=fun h=>by simp [upd,h]
 refine ⟨I.ok,I.os,I.bare,⟨fun b u q n=>I.base.keep b u q n,fun b u q n=>I.base.slot b u q n,fun b u q n hx=>?_,I.base.there,fun b xs q=>?_,fun b ob u q=>?_,fun b ps q=>?_⟩,I.loc,I.cell,?_,fun x c q=>?_,fun p q=>?_,fun b ob q=>?_,I.len⟩
 ·by_cases hb:b=a
  ·subst hb;exact absurd q (hf u)
  ·rw [ne hb];exact I.base.free b u q n hx
 ·have z:=I.base.tups b xs q
  rw [ne (fun hb=>by rw [hb,hn] at z;cases z)];exact z
 ·have z:=I.base.frzs b ob u q
  rw [ne (fun hb=>by rw [hb,hn] at z;cases z)];exact z
 ·obtain ⟨m,z⟩:=I.base.tbls b ps q
  exact ⟨m,by rw [ne (fun hb=>by rw [hb,hn] at z;cases z)];exact z⟩
 ·rw [ne (Ne.symm hL)];exact I.free
 ·rw [ne (hc x c q)];exact I.freeC x c q
 ·obtain ⟨z1,z2,z3⟩:=I.pin p q
  exact ⟨z1,by rw [ne (hp p q)];exact z2,z3⟩
 ·by_cases hb:b=a
  ·subst hb
   have:ob=.frz o (.own 0):=by
    have:upd H b (.frz o (.own 0)) b=some (.frz o (.own 0)):=by simp [upd]
    rw [this] at q;cases q;rfl
   subst this;exact ⟨ho,o,ho⟩
  ·rw [ne hb] at q
   exact (I.hok b ob q).stay (fun c w' _ q'=>q') (fun c q'=>by rw [ne (fun hb=>by rw [hb,hn] at q';cases q')];exact q') fun c xs q'=>by rw [ne (fun hb=>by rw [hb,hn] at q';cases q')];exact q'
theorem r_{M:Model}{A:Around}{E:Value->Shared->Prop}{i:Nat}{x:Str}{pos:Pos}{Q:Unit->Shared->Prop}(I:Inv X pins σ H s)(hN:X.N.Nodup)(hi:X.N[i]?=some x)(hk:X.env.kindOf x=some .local)
  (h:∀s',Inv X pins (σ.set i none) H s'->Q () s'):wpAny M A (do bindName X.env x .none;unbindBehindTheSuite X.env x pos) Q E s:=by
 obtain ⟨m,hn,hl⟩:=id I.loc;have hcls:(X.env.scope.kind==.class||(X.env.scope.kind==.module&&X.env.locals != X.env.globals))=false:=by rw [I.ok.kind];rfl
 have hiσ:i<σ.length:=by rw [I.len];exact (List.getElem?_eq_some_iff.mp hi).1
 have cne:=I.cne;refine wpAny_nameGoes_keeps hk hn hcls (fun h' v hn' hs=>?_);obtain ⟨oL,_,_,hoL,_⟩:=id hn;have tracked:HOk X.prog X.w H h':=fun b ob e=>by
  refine (I.hok b ob e).stay (fun c w' hc q=>(hs.2 c ?_).trans q) (fun _ q=>q) fun _ _ q=>q
  rintro rfl
  have hfree:=I.free;rcases hc with rfl|hc
  ·rw [hfree] at e;cases e
  ·rw [hfree] at hc;cases hc
 refine h _ ⟨I.ok,I.os,I.bare,⟨fun b o e n hb hx=>?_,fun b o e n hb hx=>?_,I.base.free,fun b o e hx=>?_,I.base.tups,I.base.frzs,I.base.tbls⟩,⟨_,hn',fun j y v' e1 e2 e3=>?_⟩,fun y c e=>?_,I.free,I.freeC,fun p hp=>?_,tracked,by simpa using I.len⟩
 ·exact (hs.2 b (Nat.ne_of_lt (Nat.lt_of_lt_of_le (Heap.lt_size e) I.ok.above))).trans (I.base.keep b o e n hb hx)
 ·obtain ⟨sl,e1⟩:=I.base.slot b o e n hb hx
  exact ⟨sl,(hs.2 b (Nat.ne_of_lt (Nat.lt_of_lt_of_le (Heap.lt_size e) I.ok.above))).trans e1⟩
 ·obtain ⟨o',e1⟩:=I.base.there b o e hx
  exact ⟨o',(hs.2 b (Nat.ne_of_lt (Nat.lt_of_lt_of_le (Heap.lt_size e) I.ok.above))).trans e1⟩
 ·by_cases hj:j=i
  ·subst hj
   rw [List.getElem?_set_self hiσ] at e2;cases e2
  ·rw [List.getElem?_set_ne (Ne.symm hj)] at e2
   obtain ⟨u',r',q⟩:=hl j y v' e1 e2 e3;refine ⟨u',r',?_⟩;rcases q with ⟨k,e⟩|⟨k,c,e,z⟩
   ·refine .inl ⟨k,?_⟩
    have:y≠x:=fun e=>hj (jG hN e1 (e▸hi));simp [this,e]
   ·exact .inr ⟨k,c,e,z.sameBut hs (cne y c e)⟩
 ·obtain ⟨w',z⟩:=I.cell y c e
  exact ⟨w',z.sameBut hs (cne y c e)⟩
 ·obtain ⟨e,n,ne,nf,d⟩:=I.pin p hp
  exact ⟨(hs.2 p.1 ne).trans e,n,ne,nf,d⟩
def ExcH(H:Hp)(C ea:Addr):Prop:=∃o,H ea=some (.frz o (.own 0))/\o.cls=.ref C
structure XS(K:W.Frag)(C S:Addr):Prop where
 tu:W.instIn K (.ref S) (.type "tuple")=some false
 cl:(W.clsIn K S).isSome=true
 be:W.mroIn K S (.type "BaseException")=some true
 mr:W.mroIn K C (.ref S)=some true
def zN(C:Addr)(sp:Sp)(ta:TA)(i j:Nat)(ts:Addr->TS):TS:=fun D σ H=>ta σ H fun vs H1=>sp vs H1 (fun v H2=>D.nx (σ.set i (some v)) H2)
 (fun _ _ H2=>∀ea H3,(∀b,b≠ea->H3 b=H2 b)->H2 ea=none->ExcH H3 C ea->ts ea { nx:=fun σ' H'=>D.nx (σ'.set j none) H',rt:=fun _ _=>False } (σ.set j (some (.ref ea))) H3)
theorem vG{C S f:Addr}{k:Nat}{fd:FuncData}{ps:List Str}{sp:Sp}{x cx y n:Str}{i j:Nat}{p cp ep np hpos pos yp:Pos}{e:Expr}{es:List Expr}{ta:TA}{b₀:Stmt}{suite:List Stmt}{ts:Addr->TS}
  (hst:X.stack=X.env::X.outer) (hfL:X.env.frame=some X.env.locals) (hex:X.ex=[]) (F:FnOk X.prog X.w X.K X.mg X.base (oH X.prog X.w C) k f fd ps sp) (hr:Room k X.A) (hg:Gl X x) (hm:X.mg x=some (.ref f)) (hk:W.keepIn X.K (.ref f)=true) (hb:Binds X.K fd ps [])
  (ha:PA X.nox (e::es) ta) (ES:XS X.K C S) (hgC:Gl X cx) (hmC:X.mg cx=some (.ref S)) (hsu:∀ea:Addr,qC (X.marked (.ref ea)) (b₀::suite) (ts ea))
  (hN:X.N.Nodup) (hi:X.N[i]?=some y) (hy:wT X.env.scope y) (hj:X.N[j]?=some n) (hn:X.env.kindOf n=some .local)
  (hdb:(x==("__debug__":Str))=false:=by decide) (hdC:(cx==("__debug__":Str))=false:=by decide) (he:starEach (e::es) X.env=(false,eval e X.env)::starEach es X.env:=by rfl) (hpl:(backTo cp (starEach es X.env)).any (·.1)=false:=by rfl)
  (hsw:swapsWith (.Call (.Name x p) (e::es) [] cp) (some (.Name y yp)) ep.line X.env=pure false:=by rfl)
  (hf:X.fn y=true\/X.env.scope.names.lookup y=some .local:=by first|exact .inl rfl|exact .inr rfl|assumption) (hfn:X.fn n=true\/X.env.scope.names.lookup n=some .local:=by first|exact .inl rfl|exact .inr rfl|assumption):
  PS X (.Try [.Assign [.Name y yp] (.Call (.Name x p) (e::es) [] cp) ep] [.ExceptHandler (some (.Name cx np)) (some n) (b₀::suite) hpos] [] [] pos) (zN C sp ta i j ts):=by
 intro pins s σ H D I h;refine wpAny_Try_except (wpAny_execs_cons (wpAny_Assign_Name ?_ hsw));refine wpAny_Call_Name_kw (gi I hg hm ?_ hdb);refine W.callWith_K (h₀:=X.base) I.ok.mod.kin hk (wpAny_mono (ha cp pins s σ H _ (I.wish _) h) (fun us s1 ⟨vs,H1,I1',r,q⟩=>?_) fun _ _ z=>False.elim z) he hpl;have I1:Inv X pins σ H1 s1:=I1'.unwish;refine ⟨I1.kIn,?_⟩;have hl:us.length=ps.length:=by rw [<- r.length];exact F.len _ _ _ _ q
 have hb1:=hb s1 us I1.kIn (by rw [List.append_nil];exact hl)
 rw [List.append_nil] at hb1;refine wpAny_call (codeAny_mono (F.run X.A X.stack s1 H1 ⟨us,[]⟩ us vs _ _ hr I1.env0 hb1 r q) fun rr s' hq=>?_);cases rr with
 |ok fl=>
  cases fl with
  |ret u=>
   obtain ⟨x',H2,I2,r2,q2⟩:=I1.after hq;refine il I2 hN hi hy r2 (fun s2 I3=>?_) hf;exact wpAny_execs_nil (wpAny_execs_nil ⟨_,H2,I3,q2⟩)
  |next=>exact False.elim hq
  |brk=>exact False.elim hq
  |cont=>exact False.elim hq
 |error er=>
  obtain ⟨ea,H',B,a0,rfl,hos,hbare,un,hok,hfl,sT,sA,hE⟩:=hq;have nf:∀b∈gf X.stack,∀o,s1.heap.get? b=some o->∀vs,o.data≠.fields vs:=fun b hb' o q' vs=>by
   obtain ⟨_,o',ho',hd'⟩:=I1.stack.mem (show b∈_ from hb');rw [q'] at ho';cases ho';exact hd' vs
  have shift:∀h':Heap,B.StaysIn h'->s'.heap.UpToSlots h'->Inv X pins σ H' { s' with heap:=h' }:=fun h' k up=>
   I1.call' (s':={ s' with heap:=h' }) hos (pN un hfl.1 k up sA nf fun b hb'=>I1.stkFree b hb') (m8 hok hfl.1 k sT) hbare fun b z=>absurd (show b∈([]:List Addr) from z) (by simp)
  rw [hst] at hfl;have hfr:X.A.frames=some (X.env::X.outer):=by rw [<- hst];exact I1.ok.frames
  refine wpAny_looks_onW hfr hfL hfl fun h4 held4 up4=>?_;refine wpAny_landsW held4 fun h5 hfl5 up5=>?_;have I5:=(shift h5 hfl5.1 (up4.trans up5)).mark (.ref ea);obtain ⟨ob,hob,hobc⟩:=hfl5.there;refine wpAny_handleBy_cons (codeAny_handlers_test (gi I5 hgC hmC ?_ hdC)) (by intro q';cases q')
  refine LX.tU I5.kIn ES.tu ES.cl ES.be ES.mr hob hobc (codeAny_handlers_suite_as ?_);refine lands_againW hfl5 fun h6 hfl6 up6=>?_;have I6:=shift h6 hfl6.1 ((up4.trans up5).trans up6);obtain ⟨oe,ws,hoe,hoec,hoed,_⟩:=hfl6.first
  have hn':H' ea=none:=by
   cases q':H' ea with
   |none=>rfl
   |some u=>obtain ⟨o',z⟩:=sT ea u q';rw [hfl6.2.1] at z;cases z
  have new1:∀u,s1.heap.get? ea≠some u:=fun u q'=>by
   by_cases hb':ea∈gf X.stack
   ·obtain ⟨_,o',ho',hd'⟩:=I6.stack.mem (show ea∈_ from hb')
    rw [show ({ s' with heap:=h6 }:Shared).heap.get? ea=some oe from hoe] at ho';cases ho';exact hd' ws hoed
   ·obtain ⟨o',z⟩:=sA ea u q' hb'
    rw [hfl6.2.1] at z;cases z
  have I7:=I6.track (o:=oe) hoe hn' (fun u q'=>by
    obtain ⟨o',z⟩:=I1.base.there ea u q' (by rw [hex];simp)
    exact new1 _ z) (fun q'=>by
    obtain ⟨m,⟨oL,_,_,hoL,_⟩,_⟩:=I1.loc;exact new1 _ (q'▸hoL)) (fun y c q' z=>by
    obtain ⟨v,o',ho',_⟩:=I1.cell y c q';exact new1 _ (z▸ho')) (fun p' q' z=>by
    exact new1 _ (z▸(I1.pin p' q').1))
  refine il I7 hN hj (.inl hn) (show RelV (.ref ea) (.ref ea) from rfl) (fun s8 I8=>?_) hfn;have h8:=hE ea (upd H' ea (.frz oe (.own 0))) (fun b hb'=>by simp [upd,hb']) hn' ⟨oe,by simp [upd],hoec⟩
  refine wpAny_mono (hsu ea pins _ _ _ _ (I8.mark (.ref ea)) h8) (fun fl s9 q9=>?_) fun _ _ z=>False.elim z;cases fl with
  |next=>
   obtain ⟨σ',H9,I9,q9⟩:=q9;exact r_ (I9.unmark I.ok) hN hj hn fun s10 I10=>⟨_,H9,I10,q9⟩
  |ret u=>obtain ⟨_,_,_,_,_,z⟩:=q9;exact False.elim z
  |brk=>obtain ⟨_,_,_,z⟩:=q9;exact False.elim z
  |cont=>obtain ⟨_,_,_,z⟩:=q9;exact False.elim z
end
end L2
namespace L2
open PySem PySem.Spec PyProof.Rows
structure RoomN(k:Nat)(A:Around):Prop where
 dp:A.depth+3*k+5<recursionLimit
 un:A.units+16*k+200<cLine
 gd:A.guards=some []
theorem Room.n{k:Nat}{A:Around}(r:Room k A)(e:Option Value):RoomN k (A.mark e):=⟨r.dp,r.un,r.gd⟩
theorem RoomN.deeper{k:Nat}{A:Around}(r:RoomN (k+1) A)(env:Env):RoomN k (A.deeper env):=
 ⟨by have:=r.dp;show A.depth+1+3*k+5<_;lia,by have:=r.un;show A.units+3+16*k+200<_;lia,r.gd⟩
theorem RoomN.depth{k:Nat}{A:Around}(r:RoomN k A):A.depth<recursionLimit:=by have:=r.dp;lia
theorem RoomN.units{k:Nat}{A:Around}(r:RoomN k A):A.units+64<cLine:=by have:=r.un;lia
structure FnOkN(P:Program)(w:World)(K:W.Frag)(mg:Str->Option Value)(base:Heap)(CX:ku)(k:Nat)(f:Addr)(fd:FuncData)(ps:List Str)(sp:Sp):Prop where
 len:∀vs H Q E,sp vs H Q E->vs.length=ps.length
 run:∀(A:Around) (outer:List Env) (s:Shared) (H:Hp) (args:Args) (us:List Value) (vs:List V) (Q:VK) (E:XK),RoomN k A->Env0 P w K mg base A outer s H->BindsTo s fd args (ps.zip us)->Vals vs us->sp vs H Q E->
  codeAny (model P w) A (.call (.ref f) args) (CR CX outer P w H s Q E) s
def o5(CX:ku)(P:Program)(w:World)(K:W.Frag)(mg:Str->Option Value)(base:Heap)(N:List Str)(qual:Str)(scope:Scope)(f:Addr)(cd:Value)(A:Around)(outer:List Env)(s:Shared)(H:Hp)(E:XK):Cx where
 prog:=P
 w:=w
 K:=K
 mg:=mg
 base:=base
 A:=A.deeper (envOfC qual scope s.heap.objs.size f cd)
 N:=N
 s₀:=s
 H₀:=H
 env:=envOfC qual scope s.heap.objs.size f cd
 outer:=outer
 stack:=envOfC qual scope s.heap.objs.size f cd::outer
 ex:=[]
 calm:=false
 fn:=fun _=>true
 pn:=[]
 xe:=fun e s'=>wpAny (model P w) (A.deeper (envOfC qual scope s.heap.objs.size f cd)) (leaving (envOfC qual scope s.heap.objs.size f cd) e) (fun _ s''=>CX outer H s E e s'') (fun e' s''=>CX outer H s E e' s'') s'
theorem oK{CX:ku}{P:Program}{w:World}{K:W.Frag}{mg:Str->Option Value}{base:Heap}{N ps:List Str}{qual:Str}{scope:Scope}{f:Addr}{cd:Value}{A:Around}{outer:List Env}{s s1:Shared}{H:Hp}{E:XK}{us:List Value}{vs:List V}
  (S:FnScope N ps scope) (e0:Env0 P w K mg base A outer s H) (hl:vs.length=ps.length) (r:Vals vs us)
  (x:InCallC s s.heap.objs.size (bindL (envOfC qual scope s.heap.objs.size f cd).kindOf (ps.zip us) fun _=>none) (cellsFrom (s.heap.objs.size+1) scope.names []) (bindC (envOfC qual scope s.heap.objs.size f cd).kindOf (ps.zip us) fun _=>none) s1):
  Inv (o5 CX P w K mg base N qual scope f cd A outer s H E) [] (start N vs) H s1:=by
 have e1:Env0 P w K mg base { A with handled:=none } outer s H:=⟨e0.frames,e0.mod,e0.bs,e0.bsz,e0.funs,e0.frf,e0.hok,e0.bare⟩;have I:=k_ (CX:=CX) (E:=E) (A:={ A with handled:=none }) (qual:=qual) (f:=f) (cd:=cd) S rfl e1 hl r x;exact ⟨⟨I.ok.mod,I.ok.kind,I.ok.glob,I.ok.blt,I.ok.above,I.ok.inj,I.ok.has,I.ok.cab,fun z=>(Bool.noConfusion z),I.ok.frames,I.ok.stk,I.ok.exf,I.ok.bs,I.ok.bsz,I.ok.noex,I.ok.exfs,I.ok.funs,I.ok.frf⟩,I.os,I.bare,I.base,I.loc,I.cell,I.free,I.freeC,I.pin,I.hok,I.len⟩
theorem BE{CX:ku}{P:Program}{w:World}{K:W.Frag}{mg:Str->Option Value}{base:Heap}{k:Nat}{f:Addr}{name qual:Str}{params:Arguments}{body:List Stmt}{scope:Scope}{dV kV doc pm cdv ct oc:Value}{an od:Option Addr}
  {osl:Array (Option Value)} {N ps:List Str} {sp:Sp} (lk:K.lookup f=some ⟨oc,od,.func (W.fnOf name qual params body scope dV kV doc pm an cdv ct),osl⟩) (hcd:W.codeIn K cdv qual=true) (S:FnScope N ps scope)
  (len:∀vs H Q E,sp vs H Q E->vs.length=ps.length)
  (hbody:∀(A:Around) (outer:List Env) (s:Shared) (H:Hp) (vs:List V) (Q:VK) (E:XK),RoomN k (A.deeper (envOfC qual scope s.heap.objs.size f cdv))->sp vs H Q E->
   ∃t,qC (o5 CX P w K mg base N qual scope f cdv A outer s H E) body t/\t { nx:=fun _ H'=>Q .non H',rt:=Q } (start N vs) H):
  FnOkN P w K mg base CX (k+1) f (W.fnOf name qual params body scope dV kV doc pm an cdv ct) ps sp:=by
 refine ⟨len,fun A outer s H args us vs Q E hr e0 hb r hsp=>?_⟩;have hl:=len _ _ _ _ hsp;have KX:K.In s.heap:=e0.mod.kin.keeps fun b o e=>(e0.bs b o e).1;have lim:s.heap.NoLimit:=e0.mod.nolimit.keeps fun b o e=>(e0.bs b o e).1;have hkind:∀y∈ps.zip us,scope.names.lookup y.1=some .local\/(scope.names.lookup y.1=some .cell/\((cellsFrom (s.heap.objs.size+1) scope.names []).lookup y.1).isSome=true):=fun ⟨n,v⟩ hy=>by
  rcases S.par n (List.of_mem_zip hy).1 with q|q
  ·exact .inl q
  ·exact .inr ⟨q,W.cellsFrom_some _ _ _ (.inl q)⟩
 refine codeAny_call_function hr.depth (KX _ _ lk) rfl S.co S.gen rfl (W.codeRec_of KX hcd) (hb _ _ _ _ ?_);refine wpAny_newFunctionEnv_cells S.kind hkind fun env he s1 x=>?_;subst he;refine ⟨lim.keeps x.toInCall.keep,codeAny_func ?_⟩;obtain ⟨t,ht,hq⟩:=hbody A outer s H vs Q E (hr.deeper _) hsp;have I:Inv (o5 CX P w K mg base N qual scope f cdv A outer s H E) [] (start N vs) H s1:=oK S e0 hl r x;refine wpAny_mono (ht [] s1 (start N vs) H _ I hq) (fun fl s' hs=>?_) fun e s' hs=>hs;have fin:∀{σ':St} {H':Hp} {v:V} {u:Value},Inv (o5 CX P w K mg base N qual scope f cdv A outer s H E) [] σ' H' s'->RelV v u->Q v H'->CE outer P w H s Q u s':=
  fun {σ' H' v u} J rv q=>⟨v,H',J.os,J.bare,J.base,J.hok,rv,q⟩
 cases fl with
 |ret u=>
  obtain ⟨v,σ',H',J,rv,q⟩:=hs;exact fin J rv q
 |next=>
  obtain ⟨σ',H',J,q⟩:=hs;exact fin (v:=V.non) (u:=Value.none) J rfl q
 |brk=>
  obtain ⟨_,_,_,q⟩:=hs;exact False.elim q
 |cont=>
  obtain ⟨_,_,_,q⟩:=hs;exact False.elim q
theorem uO{X:Cx}{CX:ku}{k:Nat}{f:Addr}{fd:FuncData}{ps:List Str}{sp:Sp}{E:XK}{x:Str}{p pos:Pos}{e:Expr}{es:List Expr}{t:TA}(F:FnOkN X.prog X.w X.K X.mg X.base CX k f fd ps sp)(hr:RoomN k X.A)(hg:Gl X x)(hm:X.mg x=some (.ref f))(hk:W.keepIn X.K (.ref f)=true)(hb:Binds X.K fd ps [])(hx:gF CX X E)
  (ha:PA X (e::es) t) (hdb:(x==("__debug__":Str))=false:=by decide) (he:starEach (e::es) X.env=(false,eval e X.env)::starEach es X.env:=by rfl) (hpl:(backTo pos (starEach es X.env)).any (·.1)=false:=by rfl):
  PE X (.Call (.Name x p) (e::es) [] pos) (zm sp [] E t):=by
 intro pins s σ H Q I h;refine wpAny_Call_Name_kw (gi I hg hm ?_ hdb);refine W.callWith_K (h₀:=X.base) I.ok.mod.kin hk (cL (ha pos pins s σ H _ I h) fun us s1 ⟨vs,H1,I1,r,q⟩=>⟨I1.kIn,?_⟩) he hpl;have q:sp (vs++[]) H1 Q E:=q;rw [List.append_nil] at q;have hl:us.length=ps.length:=by rw [<- r.length];exact F.len _ _ _ _ q
 have hb1:=hb s1 us I1.kIn (by rw [List.append_nil];exact hl)
 rw [List.append_nil] at hb1;refine wpAny_call (codeAny_mono (F.run X.A X.stack s1 H1 ⟨us,[]⟩ us vs _ _ hr I1.env0 hb1 r q) fun rr s' hq=>?_);cases rr with
 |ok fl=>
  cases fl with
  |ret u=>exact I1.after hq
  |next=>exact False.elim hq
  |brk=>exact False.elim hq
  |cont=>exact False.elim hq
 |error er=>exact hx pins σ H1 s1 er s' I1 hq
end L2
namespace L2
open PySem
theorem lx{X:Cx}:dq X (.builtin "isinstance") (fun xs H Q=>∃ea C c cv b,xs=[.ref ea,c]/\ExcH H C ea/\LX.XC X.K C/\(∀u,RelV c u->u=cv)/\W.kitOne X.K (.ref C) cv=some b/\Q (.bl b) H):=by
 intro pins s σ H xs us Q I r h;obtain ⟨ea,C,c,cv,b,rfl,⟨o,ho,hc⟩,Z,hv,e,q⟩:=h;obtain ⟨u,w,rfl,rx,rc⟩:=r.two;obtain rfl:u=Value.ref ea:=rx;obtain rfl:=hv _ rc;obtain ⟨h1,_⟩:=(show ObjOk X.prog X.w H s.heap ea (.frz o (.own 0)) from I.hok ea _ ho);exact W.kia_one (LX.t7 Z) I.kIn ⟨h1,hc⟩ e (fun z=>nomatch z) fun tk=>⟨.bl b,H,I.tok tk,rfl,q⟩
end L2
namespace L3
open PySem L2
section
variable {X:Cx}{B:Bd}{K:W.Frag}{H H':Hp}{M M1 M':Mem}
theorem wc{C ea:Addr}(f:Frm M H M' H')(h:ExcH H C ea)(n:M ea=none):ExcH H' C ea:=let ⟨o,a,b⟩:=h;⟨o,(f.keep ea _ a n).1,b⟩
theorem ExcH.none{C ea:Addr}(h:ExcH H C ea)(r:RepH K H M):M ea=none:=by
 obtain ⟨o,a,_⟩:=h;cases q:M ea with
 |none=>rfl
 |some u=>
  have z:=r _ _ q;cases u with
  |lst xs=>obtain ⟨_,z,_⟩:=z;rw [a] at z;cases z
  |dK xs=>obtain ⟨_,z,_⟩:=z;rw [a] at z;cases z
  |dT xs=>obtain ⟨_,z,_⟩:=z;rw [a] at z;cases z
  |ins c xs=>obtain ⟨_,_,z,_⟩:=z;rw [a] at z;cases z
def iu(K:W.Frag)(C:Addr)(c:D)(b:Bool):Prop:=match c with
 |.ref D=>W.kitOne K (.ref C) (.ref D)=some b
 |.ty T=>W.kitOne K (.ref C) (.type T)=some b
 |_=>False
def j6(ea:Addr)(c:D)(b:Bool)(t:gv):cj:=fun δ M Q=>t δ M fun vs M1=>vs=[.ref ea,c]/\Q (.bl b) M1
theorem eD{x:Str}{e:Expr}{es:List Expr}{t:gv}{C ea:Addr}{c:D}{b:Bool}{p pos:Pos}(h0:∀M H,B.p M H->ExcH H C ea)(Z:LX.XC X.K C)(hc:iu X.K C c b)(hg:Gl X x)(hm:X.mg x=none)(hv:bootBuiltins x=some (.builtin "isinstance"))(ha:DA X B (e::es) t)(hn:x≠"__name__":=by decide)(hdb:(x==("__debug__":Str))=false:=by decide)
  (he:starEach (e::es) X.env=(false,eval e X.env)::starEach es X.env:=by rfl) (hpl:(backTo pos (starEach es X.env)).any (·.1)=false:=by rfl):DE X B (.Call (.Name x p) (e::es) [] pos) (j6 ea c b t):=by
 refine bP (nY lx hg hm hv ha hn hdb he hpl) ?_
 rintro σ H Q ⟨δ,M,QQ,s,h,u⟩
 refine ⟨δ,M,_,s,h,fun ds M1 h1 vs H1 rh1 i1 r1=>?_⟩;obtain ⟨rfl,h1⟩:=h1;obtain ⟨v,w,rfl,rv,rw'⟩:=ze r1;cases rv;have hE:ExcH H1 C ea:=h0 _ _ (B.go s.i0 i1);cases c with
 |ref a=>cases rw';exact ⟨ea,C,_,.ref a,b,rfl,hE,Z,fun u q=>q,hc,u _ M1 h1 _ H1 rh1 i1 rfl⟩
 |ty T=>cases rw';exact ⟨ea,C,_,.type T,b,rfl,hE,Z,fun u q=>q,hc,u _ M1 h1 _ H1 rh1 i1 rfl⟩
 |non=>exact hc.elim
 |bl _=>exact hc.elim
 |int _=>exact hc.elim
 |str _=>exact hc.elim
 |tup _=>exact hc.elim
 |lst _=>exact hc.elim
 |mt _=>exact hc.elim
 |ml _=>exact hc.elim
end
def g9(K:W.Frag)(C:Addr)(T:Addr->Sd):Sp:=fun vs H Q E=>∃ea,ExcH H C ea/\vs=[.ref ea]/\∃M QQ EE,RepH K H M/\T ea [.ref ea] M QQ EE/\Up K M H QQ Q/\UpX K M H EE E
section
variable {P:Program}{w:World}{K:W.Frag}{mg:Str->Option Value}{base:Heap}{f:Addr}{fd:FuncData}
theorem fnE{x qual:Str}{st:Stmt}{N ps:List Str}{k:Nat}{C:Addr}{T:Addr->DX->aZ}(F:Fun K x qual st f fd)(S:FnScope N ps (aV st))(hps:ps.length=1)
  (hb:∀(ea:Addr) (cdv:Value) (A:Around) (outer:List Env) (s:Shared) (H:Hp) (E:XK) (B:Bd) (EE:DX),RoomN k (A.deeper (PyProof.Rows.envOfC qual (aV st) s.heap.objs.size f cdv))->BJ K B EE E->(∀M' H',B.p M' H'->ExcH H' C ea)->
   xK (o5 (cQ P w) P w K mg base N qual (aV st) f cdv A outer s H E) B (eJ st) (T ea EE)):
  FnOkN P w K mg base (cQ P w) (k+1) f fd ps (g9 K C fun ea=>ck N (T ea)):=by
 obtain ⟨oc,od,kV,doc,pm,an,cdv,ct,osl,rfl,lk,hcd⟩:=F.ex;refine BE lk hcd S (fun vs H Q E h=>by obtain ⟨ea,_,rfl,_⟩:=h;exact hps.symm) fun A outer s H vs Q E hr hsp=>?_
 obtain ⟨ea,hE,rfl,M,QQ,EE,rh,hT,u,ux⟩:=hsp;refine ⟨_,hb ea cdv A outer s H E (Bd.of M H) (bV EE) hr ux.drp (fun M' H' f=>wc f hE (ExcH.none hE rh)),startN N [.ref ea],M,{ nx:=fun _ M'=>drp QQ .non M',rt:=drp QQ },⟨Frm.refl,rh,.startN N (.cons rfl .nil)⟩,hT,⟨?_,u.drp,?_,?_⟩⟩
 ·exact fun δ M' q σ H' f s'=>u.drp _ M' q _ H' s'.rh f rfl
 ·exact fun δ M' q=>(show False from q).elim
 ·exact fun δ M' q=>(show False from q).elim
end
section
variable {X:Cx}{B:Bd}{K:W.Frag}{H H':Hp}{M M1 M':Mem}
theorem mS{C ea:Addr}{T:Addr->Sd}{EE:DX}{Q:DK}{QV:VK}{E:XK}{b:BxQ EE Q}(hE:ExcH H C ea)(h:calls (T ea) EE [.ref ea] M Q b)(rh:RepH K H M)(u:Up K M H Q QV)(ux:UpX K M H EE E):g9 K C T [.ref ea] H QV E:=by
 obtain ⟨M1,s,h⟩:=h.go;refine ⟨ea,hE,rfl,M1,_,_,rh.sub s,h,fun d M' q v H' rh' f r'=>?_,fun C M' q H' rh' f=>?_⟩
 ·exact u d _ (q (rh.dis f)) v H' (rh.plus s rh' f) (f.plus s) r'
 ·exact ux C _ (q (rh.dis f)) H' (rh.plus s rh' f) (f.plus s)
theorem RepS.unset{δ:Dl}{σ:L2.St}{i:Nat}(r:RepS K H δ σ):RepS K H (δ.set i none) (σ.set i none):=by
 refine ⟨by simp [r.len],fun j e q=>?_⟩
 rw [List.getElem?_set] at q ⊢
 by_cases hij:i=j
 ·rw [if_pos hij] at q
  split at q<;>cases q
 ·rw [if_neg hij] at q ⊢
  exact r.get j e q
def pi(C:Addr)(T:Sd)(m:Nat)(ta:gv)(i j l:Nat)(Tk:Addr->Sd):aZ:=fun D δ M=>δ[j]?.isSome=true/\ta δ M fun ds M1=>ds.length=m/\
 calls T (fun C' M2=>C'=C/\∀ea,calls (Tk ea) (fun _ _=>False) [.ref ea] M2 (fun d M3=>D.nx (((δ.set j (some (.ref ea))).set l (some d)).set j none) M3) ⟨⟩) ds M1 (fun d M2=>D.nx (δ.set i (some d)) M2) ⟨⟩
theorem vi{C S f g:Addr}{k k2 m:Nat}{fd fg:FuncData}{ps pg:List Str}{T:Sd}{Tk:Addr->Sd}{x cx y n z gx:Str}{i j l:Nat}{p cp ep np hpos pos yp zp gp np2 gcp zep:Pos}{e:Expr}{es:List Expr}{ta:gv}
  (hst:X.stack=X.env::X.outer) (hfL:X.env.frame=some X.env.locals) (hex:X.ex=[]) (F:FnOk X.prog X.w X.K X.mg X.base (cQ X.prog X.w) k f fd ps (aR X.K m T)) (hr:Room k X.A) (hg:Gl X x) (hm:X.mg x=some (.ref f)) (hk:W.keepIn X.K (.ref f)=true) (hb:Binds X.K fd ps [])
  (ha:DA X.nox B (e::es) ta) (ES:XS X.K C S) (hgC:Gl X cx) (hmC:X.mg cx=some (.ref S))
  (G:FnOkN X.prog X.w X.K X.mg X.base (cQ X.prog X.w) k2 g fg pg (g9 X.K C Tk)) (hr2:Room k2 X.A) (hgg:Gl X gx) (hmg:X.mg gx=some (.ref g)) (hkg:W.keepIn X.K (.ref g)=true) (hbg:Binds X.K fg pg [])
  (hN:X.N.Nodup) (hi:X.N[i]?=some y) (hy:wT X.env.scope y) (hj:X.N[j]?=some n) (hn:X.env.kindOf n=some .local) (hl:X.N[l]?=some z) (hz:wT X.env.scope z)
  (hdb:(x==("__debug__":Str))=false:=by decide) (hdC:(cx==("__debug__":Str))=false:=by decide) (hdg:(gx==("__debug__":Str))=false:=by decide) (hdn:(n==("__debug__":Str))=false:=by decide) (hcn:(n==("__classdict__":Str))=false:=by decide)
  (he:starEach (e::es) X.env=(false,eval e X.env)::starEach es X.env:=by rfl) (hpl:(backTo cp (starEach es X.env)).any (·.1)=false:=by rfl)
  (hsw:swapsWith (.Call (.Name x p) (e::es) [] cp) (some (.Name y yp)) ep.line X.env=pure false:=by rfl) (hsw2:swapsWith (.Call (.Name gx gp) [.Name n np2] [] gcp) (some (.Name z zp)) zep.line X.env=pure false:=by rfl)
  (hf:X.fn y=true\/X.env.scope.names.lookup y=some .local:=by first|exact .inl rfl|exact .inr rfl|assumption) (hfn:X.fn n=true\/X.env.scope.names.lookup n=some .local:=by first|exact .inl rfl|exact .inr rfl|assumption) (hfz:X.fn z=true\/X.env.scope.names.lookup z=some .local:=by first|exact .inl rfl|exact .inr rfl|assumption):
  DS X B (.Try [.Assign [.Name y yp] (.Call (.Name x p) (e::es) [] cp) ep] [.ExceptHandler (some (.Name cx np)) (some n) [.Assign [.Name z zp] (.Call (.Name gx gp) [.Name n np2] [] gcp) zep] hpos] [] [] pos) (pi C T m ta i j l Tk):=by
 have hsu:∀ea:Addr,qC (X.marked (.ref ea)) [.Assign [.Name z zp] (.Call (.Name gx gp) [.Name n np2] [] gcp) zep] _:=fun ea=>
  qY (uJ (X:=X.marked (.ref ea)) hN hl hz (uO (X:=X.marked (.ref ea)) (E:=E0) G (hr2.n _) hgg hmg hkg hbg pI (my (t_ (X:=X.marked (.ref ea)) hj (.inl hn) hdn hcn) pL) hdg) hsw2 hfz)
 refine eN (vG (C:=C) hst hfL hex (wy F) hr hg hm hk hb ha ES hgC hmC hsu hN hi hy hj hn hdb hdC he hpl hsw hf hfn) ?_
 rintro D σ H ⟨δ,M,DD,s,⟨hjj,h⟩,up⟩
 refine ⟨δ,M,_,⟨s.i0,s.rh,s.rs⟩,h,fun ds M1 h1 vs H1 rh1 i1 r1=>?_⟩
 try dsimp only
 refine kb h1.2 rh1 r1 (by rw [<- r1.length];exact h1.1) (fun d M2 h2 v H2 rh2 i2 r2=>?_) fun C' M2 h2 H2 rh2 i2=>?_
 ·have s2:=s.go rh2 (i1.trans i2)
  exact up.nx _ _ h2 _ H2 (i1.trans i2) ⟨s2.i0,s2.rh,s2.rs.set r2⟩
 ·obtain ⟨rfl,h2⟩:=h2
  refine ⟨rfl,fun ea H3 h3 hn2 hE=>?_⟩;have fr:Frm M2 H2 M2 H3:=⟨fun b u q n=>⟨by rw [h3 b (fun z=>by rw [z,hn2] at q;cases q)];exact q,n⟩⟩
  have rh3:RepH X.K H3 M2:=fun b o q=>(rh2 b o q).keep (fr.imm rh2) (by
   obtain ⟨u,hu⟩:=(rh2 b o q).obj;rw [h3 b (fun z=>by rw [z,hn2] at hu;cases hu)])
  have s3:=s.go rh3 ((i1.trans i2).trans fr);have hj':j<σ.length:=by
   rw [<- s.rs.len];obtain ⟨o,ho⟩:=Option.isSome_iff_exists.mp hjj;exact (List.getElem?_eq_some_iff.mp ho).1
  show At j (σ.set j (some (V.ref ea))) H3 _;unfold At;refine ⟨.ref ea,by rw [List.getElem?_set_self hj'],?_⟩
  show g9 X.K C' Tk [V.ref ea] H3 _ E0;refine mS hE (h2 ea) rh3 (fun d M4 h4 v H4 rh4 i4 r4=>?_) (fun _ _ z=>z.elim);have f4:=((i1.trans i2).trans fr).trans i4;have s4:=s.go rh4 f4;exact up.nx _ _ h4 _ H4 f4 ⟨s4.i0,s4.rh,((s4.rs.set (d:=.ref ea) rfl).set r4).unset⟩
end
end L3
namespace L3
open PySem L2 LS
section
variable {X:Cx}{B:Bd}
def mj:wg:=fun x ds M Q=>match ds with
 |[.bl b]=>match fH M x with
  |some xs=>match gw xs with
   |some bs=>Q (.int ((bs.countP (·==b):Nat):Int)) M
   |none=>False
  |none=>False
 |_=>False
def lS:wg:=fun x ds M Q=>match ds with
 |[.bl b]=>match fH M x with
  |some xs=>match gw xs with
   |some bs=>bs.length<=1000/\match bs.findIdx? (·==b) with
    |some j=>Q (.int (j:Nat)) M
    |none=>False
   |none=>False
  |none=>False
 |_=>False
theorem jS{pins:List (Addr×Obj)}{σ:L2.St}{H:Hp}{s:Shared}{p:Addr}{vs:List V}(I:Inv X pins σ H s)(h:Rd H p (.lst vs)):∃(its:List Value) (o:Array (Option Value)) (n:Nat),Vals vs its/\s.heap.get? p=some { cls:=.type "list",dict:=none,data:=.seq its.toArray n,slots:=o }:=by
 obtain ⟨its,rr,⟨o,n,eo,hc,hdn,hdt⟩,_⟩:=I.list (.inl h);obtain ⟨oc,od,ot,os⟩:=o;simp only at hc hdn hdt;subst hc hdn hdt;exact ⟨its,os,n,rr,eo⟩
theorem lq:∀{bs:List Bool} {its:List Value},Vals (bs.map V.bl) its->its=bs.map Value.bool
 |[],_,h=>by cases h;rfl
 |b::bs,_,h=>by
  cases h with
  |cons a r=>cases (show _=Value.bool b from a);rw [lq r];rfl
theorem oC(bs:List Bool)(b:Bool):(bs.map Value.bool).countP (fun v=>match v with|.bool y=>y==b|_=>false)=bs.countP (·==b):=by
 rw [List.countP_map];rfl
theorem sN:wd X "list.count" (liftM X mj):=by
 intro pins s σ H x vs v us Q I rx rv h;obtain ⟨d,ds,M,QQ,rh,r,rs,h,up⟩:=h;unfold mj at h
 split at h
 ·rename_i b
  split at h
  ·rename_i xs ex
   split at h
   ·rename_i bs eb
    obtain ⟨w,rfl,rw'⟩:=iP (ds:=[]) rs;cases rw';obtain ⟨p,ws,rfl,hp,rr⟩:=dW rh r ex;have:=gk rr eb;subst this;cases rx;obtain ⟨u,rfl,ru⟩:=iT rv;cases ru;obtain ⟨its,os,n,rv2,eo⟩:=jS I hp;have:=lq rv2;subst this
    refine call_meets PySem.F.slot_list_count ⟨_,eo,rfl⟩ PySem.F.entry_list_count (PySem.F.args_list_count_2 _ _)
     (SeqAt.list_countAt p (bs.map Value.bool).toArray n none os (.bool b) (fun v=>match v with|.bool y=>y==b|_=>false)) ⟨eo,fun y hy=>?_,?_⟩
    ·obtain ⟨y',_,rfl⟩:=List.mem_map.mp (by simpa using hy:y∈bs.map Value.bool)
     exact SeqAt.EqAt.bool_bool y' b
    ·rw [List.toList_toArray,oC]
     exact ⟨.int _,H,I.tok _,⟨_,rfl⟩,up _ M h _ H rh Frm.refl rfl⟩
   ·exact h.elim
  ·exact h.elim
 ·exact h.elim
theorem sg:wd X "list.index" (liftM X lS):=by
 intro pins s σ H x vs v us Q I rx rv h;obtain ⟨d,ds,M,QQ,rh,r,rs,h,up⟩:=h;unfold lS at h
 split at h
 ·rename_i b
  split at h
  ·rename_i xs ex
   split at h
   ·rename_i bs eb
    obtain ⟨hl,h⟩:=h
    split at h
    ·rename_i j ej
     obtain ⟨w,rfl,rw'⟩:=iP (ds:=[]) rs;cases rw';obtain ⟨p,ws,rfl,hp,rr⟩:=dW rh r ex;have:=gk rr eb;subst this;cases rx;obtain ⟨u,rfl,ru⟩:=iT rv;cases ru;obtain ⟨its,os,n,rv2,eo⟩:=jS I hp;have:=lq rv2;subst this;rw [List.findIdx?_eq_some_iff_getElem] at ej;obtain ⟨hj,e1,e2⟩:=ej;have hjs:j<(bs.map Value.bool).toArray.size:=by simpa using hj
     refine call_meets PySem.F.slot_list_index ⟨_,eo,rfl⟩ PySem.F.entry_list_index (PySem.F.args_list_index_2 _ _)
      (SeqAt.list_indexAt p (bs.map Value.bool).toArray n none os (.bool b) (fun v=>match v with|.bool y=>y==b|_=>false) j hjs (by have:=hl;lia) ?_ fun m hm hmj=>?_) ⟨eo,fun y hy=>?_,?_⟩
     ·simpa using e1
     ·have:=e2 m hmj
      simpa using this
     ·obtain ⟨y',_,rfl⟩:=List.mem_map.mp (by simpa using hy:y∈bs.map Value.bool)
      exact SeqAt.EqAt.bool_bool y' b
     ·exact ⟨.int (j:Int),H,I.tok _,⟨_,rfl⟩,up _ M h _ H rh Frm.refl rfl⟩
    ·exact h.elim
   ·exact h.elim
  ·exact h.elim
 ·exact h.elim
end
end L3
namespace L3
open PySem L2
theorem jP:bootBuiltins "ValueError"=some (.type "ValueError"):=by decide +kernel
theorem mM{K:W.Frag}{C:Addr}(h:W.hasDictIn K C=true):(W.clsIn K C).isSome=true:=by
 obtain ⟨cd,hc,_⟩:=W.any_some h;rw [hc];rfl
theorem eP{K:W.Frag}{C D:Addr}{b:Bool}(hs:W.mroIn K C (.ref C)=some true)(hd:W.hasDictIn K D=true)(ht:W.typeIn K (.ref D)=some (.type "type"))(hm:W.mroIn K C (.ref D)=some b):iu K C (.ref D) b:=by
 show W.kitOne K (.ref C) (.ref D)=some b;unfold W.kitOne
 split
 ·rename_i q
  have e:C=D:=Value.ref.inj (beq_iff_eq.mp q);subst e;rw [hs] at hm;exact hm
 ·unfold W.kitCls
  simp only [mM hd,ht,beq_self_eq_true,Bool.and_self,if_true];exact hm
theorem AE{K:W.Frag}{C:Addr}{b:Bool}(hm:W.mroIn K C (.type "ValueError")=some b):iu K C (.ty "ValueError") b:=by
 show W.kitOne K (.ref C) (.type "ValueError")=some b;unfold W.kitOne;rw [if_neg (by intro q;cases beq_iff_eq.mp q)]
 unfold W.kitCls
 try dsimp only
 rw [if_pos (by decide +kernel)]
 exact hm
end L3
namespace L3
open PySem L2
section
variable {X:Cx}{B:Bd}
end
end L3
namespace L3
open PySem L2
section
variable {X:Cx}{B:Bd}
variable {C:Addr}{f:Str}{o value:Expr}{ta tv:cj}{pos tpos:Pos}
end
section
variable {X:Cx}{B:Bd}{CX:ku}{k n:Nat}{f C:Addr}{fd:FuncData}{ps:List Str}{T:Sd}{E:XK}{EE:DX}{x:Str}{p pos:Pos}
end
end L3
namespace L3
open PySem L2
section
variable {X:Cx}{B:Bd}{K:W.Frag}{H H':Hp}{M M1 M':Mem}{pos:Pos}
end
end L3
namespace L3
open PySem L2
section
variable {X:Cx}{B:Bd}
end
end L3
namespace LS
open PySem PySem.W PySem.Calls PyProof.Rows PyProof.V PySem.Spec
section
variable {prog:Program}{w:World}{A:Around}{E:Value->Shared->Prop}{s:Shared}{it d:Addr}{i n ep:Nat}{ok ov:Value}{od:Obj}{es:Array DictEntry}
end
end LS
namespace L2
open PySem PySem.Spec PyProof.Rows LS
theorem Dg{X:Cx}{pins:List (Addr×Obj)}{σ:St}{H:Hp}{s:Shared}{d:Addr}{od:Obj}{kvs:List (List di×V)}{es:Array DictEntry}{ep:Nat}(I:Inv X pins σ H s)(e:H d=some (.frz od (.dT kvs)))(hd:od.data=.dict es ep):
  s.heap.get? d=some od/\∃xs:List (List di×Addr×Value),KT H kvs xs/\es.toList=xs.map (entryOfKey (tupleKind (cu X.prog X.w))):=by
 obtain ⟨h1,_,_,xs,r,o,es',ep',h2,_,h4,h5,_⟩:=(show ObjOk X.prog X.w H s.heap d (.frz od (.dT kvs)) from I.hok d _ e);rw [h1] at h2;cases h2;rw [hd] at h4;cases h4;exact ⟨h1,xs,r,h5⟩
end L2
namespace L3
open PySem L2 LS
section
variable {X:Cx}{B:Bd}
end
end L3
namespace LS
open PySem PySem.W PySem.Calls PyProof.Rows PyProof.V PySem.Spec L2
section
variable {prog:Program}{w:World}{A:Around}{E:Value->Shared->Prop}{s:Shared}
end
end LS
namespace L2
open PySem PySem.Spec PyProof.Rows LS
section
variable {X:Cx}{pins:List (Addr×Obj)}{σ:St}{H:Hp}{s:Shared}
end
end L2
namespace L3
open PySem L2 LS
section
variable {X:Cx}{B:Bd}{K:W.Frag}{H:Hp}
end
end L3
namespace LS
open PySem PySem.W PySem.Calls PyProof.Rows PyProof.V PySem.Spec L2
end LS
namespace L3
open PySem L2 LS
section
variable {X:Cx}{B:Bd}
end
end L3
namespace L3
open PySem PySem.W PySem.Calls PyProof.Rows PyProof.V PySem.Spec L2
section
variable {X:Cx}{B:Bd}{pins:List (Addr×Obj)}{σ:L2.St}{H:Hp}{s:Shared}{M:Mem}
end
end L3
namespace L3
open PySem L2 LS
section
variable {X:Cx}{B:Bd}
end
end L3
namespace L2
open PySem PySem.Spec PyProof.Rows
section
variable {X:Cx}{e:Expr}{te:TE}{st:Expr}{ts:TO}{p2 pos:Pos}
end
end L2
namespace L3
open PySem L2
section
variable {X:Cx}{B:Bd}{K:W.Frag}{H:Hp}{M:Mem}{e:Expr}{te:cj}{st:Expr}{ts:wU}{pos p2:Pos}
end
end L3
namespace L2
open PySem PySem.Spec PyProof.Rows
abbrev bQ(h:Heap)(T:Addr)(a b c:Value):Prop:=h.get? T=some { cls:=.type "tuple",data:=.seq #[a,b,c] }
structure ZA3(z TI TO i1 i2 i3:Addr):Prop where
 TIz:TI≠z
 TOz:TO≠z
 i1z:i1≠z
 i2z:i2≠z
 i3z:i3≠z
 TITO:TI≠TO
 TIi1:TI≠i1
 TIi2:TI≠i2
 TIi3:TI≠i3
 TOi1:TO≠i1
 TOi2:TO≠i2
 TOi3:TO≠i3
 i12:i1≠i2
 i13:i1≠i3
 i23:i2≠i3
structure Of3(z TO i1 i2 i3 l:Addr):Prop where
 z:l≠z
 TO:l≠TO
 i1:l≠i1
 i2:l≠i2
 i3:l≠i3
section
variable {prog:Program}{w:World}{A:Around}{E:Value->Shared->Prop}{s:Shared}
theorem cI{T:Addr}{a b c x:Value}{k:Nat}{Q:Unit->Shared->Prop}(hT:bQ s.heap T a b c)
  (h:∀h',h'.get? T=some { cls:=.type "tuple",data:=.seq ((#[a,b,c]:Array Value).setIfInBounds k x) }->Heap.SameBut T s.heap h'->Q () { s with heap:=h' }):
  wpAny (model prog w) A (updateSeq T (·.setIfInBounds k x)) Q E s:=by
 refine wpAny_updateSeq hT rfl (h _ ?_ (Heap.SameBut.update ..));rw [Heap.get?_update_self _ hT rfl];simp [Obj.mapSeq]
theorem rL{b1 b2 b3:Bool}{z TI TO i1 i2 i3 l1 l2 l3:Addr}{n1 n2 n3:Nat}{xs ys us:Array Value}{x y u a b c:Value}{Q:Value->Shared->Prop}(D:ZA3 z TI TO i1 i2 i3)(O1:Of3 z TO i1 i2 i3 l1)(O2:Of3 z TO i1 i2 i3 l2)(O3:Of3 z TO i1 i2 i3 l3)
  (hz:IsZip s.heap z TI TO .none) (hTI:bQ s.heap TI (.ref i1) (.ref i2) (.ref i3)) (hTO:bQ s.heap TO a b c)
  (h1:SrcTn b1 i1 l1 n1 s.heap) (h2:SrcTn b2 i2 l2 n2 s.heap) (h3:SrcTn b3 i3 l3 n3 s.heap) (hl1:SrcSq b1 s.heap l1 xs) (hl2:SrcSq b2 s.heap l2 ys) (hl3:SrcSq b3 s.heap l3 us) (hx:xs[n1]?=some x) (hy:ys[n2]?=some y) (hu:us[n3]?=some u)
  (hQ:∀h',IsZip h' z TI TO (rawInt s.heap.objs.size)->bQ h' TO x y u->SrcTn b1 i1 l1 (n1+1) h'->SrcTn b2 i2 l2 (n2+1) h'->SrcTn b3 i3 l3 (n3+1) h'->bQ h' s.heap.objs.size x y u->h'.objs.size=s.heap.objs.size+1->
   (∀c o,c≠z->c≠TO->c≠i1->c≠i2->c≠i3->s.heap.get? c=some o->h'.get? c=some o)->Q (.ref s.heap.objs.size) { s with heap:=h' }):
  wpAny (model prog w) A (Builtin.«zip.__next__» ⟨[.ref z],[]⟩) (fun fin s'=>∃v,fin=.done (.ret v)/\Q v s') E s:=by
 show wpAny _ _ (field (.ref z) 2 >>= _) _ _ _;refine wpAny_bind (wpAny_field hz rfl (x:=.bool false) rfl ?_);show wpAny _ _ (field (.ref z) 3 >>= _) _ _ _;refine wpAny_bind (wpAny_field hz rfl (x:=.ref TI) rfl ?_);refine wpAny_bind (wpAny_seqItems hTI rfl ?_);show wpAny _ _ (Builtin.SmallTypes.ownedTupleIsFree (.ref z) >>= _) _ _ _;refine wpAny_bind ?_;unfold Builtin.SmallTypes.ownedTupleIsFree;refine wpAny_bind (wpAny_field hz rfl (x:=.none) rfl (wpAny_pure ?_));simp only [if_true];refine wpAny_bind (wpAny_rule ?_);refine wpAny_bind (wpAny_field hz rfl (x:=.ref TO) rfl ?_);refine wpAny_bind (wpAny_setField_rec hz (by simp) fun h₁ hz₁ hs₁=>?_)
 replace hz₁:IsZip h₁ z TI TO .ellipsis:=hz₁
 refine wpAny_bind ?_;simp only [List.zipIdx_cons,List.zipIdx_nil,List.forIn_cons,List.forIn_nil];refine wpAny_bind (wpAny_bind (wpAny_onRaise ?_));show wpAny _ _ (Builtin.SmallTypes.nextOf (.ref i1) >>= _) _ _ _;refine wpAny_bind (bK (h1.keep fun o e=>hs₁.extBut _ o D.i1z e) (hl1.keep fun o e=>hs₁.extBut _ o O1.z e) hx fun h₂ h1₂ hs₂=>wpAny_pure ?_);have k₂:∀c o,c≠z->c≠i1->s.heap.get? c=some o->h₂.get? c=some o:=fun c o c1 c2 e=>hs₂.extBut _ _ c2 (hs₁.extBut _ _ c1 e);have hTO₂:bQ h₂ TO a b c:=k₂ _ _ D.TOz D.TOi1 hTO;refine wpAny_bind (wpAny_seqItems hTO₂ rfl ?_);refine wpAny_bind (cI hTO₂ fun h₃ hTO₃ hs₃=>?_)
 replace hTO₃:bQ h₃ TO x b c:=hTO₃
 refine wpAny_bind (wpAny_letGo (wpAny_pure ?_));have k₃:∀c o,c≠z->c≠i1->c≠TO->s.heap.get? c=some o->h₃.get? c=some o:=fun c o c1 c2 c3 e=>hs₃.extBut _ _ c3 (k₂ c o c1 c2 e);refine wpAny_bind (wpAny_bind (wpAny_onRaise ?_));show wpAny _ _ (Builtin.SmallTypes.nextOf (.ref i2) >>= _) _ _ _;refine wpAny_bind (bK (h2.keep fun o e=>k₃ _ o D.i2z D.i12.symm D.TOi2.symm e) (hl2.keep fun o e=>k₃ _ o O2.z O2.i1 O2.TO e) hy fun h₄ h2₄ hs₄=>wpAny_pure ?_);have hTO₄:bQ h₄ TO x b c:=hs₄.extBut _ _ D.TOi2 hTO₃;refine wpAny_bind (wpAny_seqItems hTO₄ rfl ?_);refine wpAny_bind (cI hTO₄ fun h₅ hTO₅ hs₅=>?_)
 replace hTO₅:bQ h₅ TO x y c:=hTO₅
 refine wpAny_bind (wpAny_letGo (wpAny_pure ?_));have k₅:∀c o,c≠z->c≠i1->c≠TO->c≠i2->s.heap.get? c=some o->h₅.get? c=some o:=fun c o c1 c2 c3 c4 e=>hs₅.extBut _ _ c3 (hs₄.extBut _ _ c4 (k₃ c o c1 c2 c3 e));refine wpAny_bind (wpAny_bind (wpAny_onRaise ?_));show wpAny _ _ (Builtin.SmallTypes.nextOf (.ref i3) >>= _) _ _ _;refine wpAny_bind (bK (h3.keep fun o e=>k₅ _ o D.i3z D.i13.symm D.TOi3.symm D.i23.symm e) (hl3.keep fun o e=>k₅ _ o O3.z O3.i1 O3.TO O3.i2 e) hu fun h₆ h3₆ hs₆=>wpAny_pure ?_);have hTO₆:bQ h₆ TO x y c:=hs₆.extBut _ _ D.TOi3 hTO₅;refine wpAny_bind (wpAny_seqItems hTO₆ rfl ?_);refine wpAny_bind (cI hTO₆ fun h₇ hTO₇ hs₇=>?_)
 replace hTO₇:bQ h₇ TO x y u:=hTO₇
 refine wpAny_bind (wpAny_letGo (wpAny_pure (wpAny_pure ?_)));refine wpAny_bind (wpAny_seqItems hTO₇ rfl ?_);refine wpAny_bind (wpAny_newTuple ?_);have hsz:h₇.objs.size=s.heap.objs.size:=by rw [hs₇.1,hs₆.1,hs₅.1,hs₄.1,hs₃.1,hs₂.1,hs₁.1]
 have hz₇:IsZip h₇ z TI TO .ellipsis:=hs₇.extBut _ _ D.TOz.symm (hs₆.extBut _ _ D.i3z.symm (hs₅.extBut _ _ D.TOz.symm (hs₄.extBut _ _ D.i2z.symm (hs₃.extBut _ _ D.TOz.symm (hs₂.extBut _ _ D.i1z.symm hz₁)))));have k₇:∀c o,c≠z->c≠TO->c≠i1->c≠i2->c≠i3->s.heap.get? c=some o->h₇.get? c=some o:=fun c o c1 c2 c3 c4 c5 e=>hs₇.extBut _ _ c2 (hs₆.extBut _ _ c5 (k₅ c o c1 c3 c2 c4 e));have h1₇:SrcTn b1 i1 l1 (n1+1) h₇:=h1₂.keep fun o e=>hs₇.extBut _ o D.TOi1.symm (hs₆.extBut _ o D.i13 (hs₅.extBut _ o D.TOi1.symm (hs₄.extBut _ o D.i12 (hs₃.extBut _ o D.TOi1.symm e))));have h2₇:SrcTn b2 i2 l2 (n2+1) h₇:=h2₄.keep fun o e=>hs₇.extBut _ o D.TOi2.symm (hs₆.extBut _ o D.i23 (hs₅.extBut _ o D.TOi2.symm e));have h3₇:SrcTn b3 i3 l3 (n3+1) h₇:=h3₆.keep fun o e=>hs₇.extBut _ o D.TOi3.symm e;have hzlt:z<h₇.objs.size:=Heap.lt_size hz₇;show wpAny _ _ (Builtin.SmallTypes.ownedTupleHandOut (.ref z) (.ref h₇.objs.size) >>= _) _ _ _;refine wpAny_bind ?_;unfold Builtin.SmallTypes.ownedTupleHandOut;have hz₈:IsZip (h₇.push { cls:=.type "tuple",data:=.seq #[x,y,u] }) z TI TO .ellipsis:=Heap.get?_push_of_some _ hz₇;refine wpAny_bind (wpAny_setField_rec hz₈ (by simp) fun h₉ hz₉ hs₉=>?_)
 replace hz₉:IsZip h₉ z TI TO (rawInt h₇.objs.size):=hz₉
 refine wpAny_setField_rec hz₉ (by simp) fun hA hzA hsA=>?_
 replace hzA:IsZip hA z TI TO (rawInt h₇.objs.size):=hzA
 have up:∀c o,c≠z->h₇.get? c=some o->hA.get? c=some o:=fun c o c1 e=>hsA.extBut _ _ c1 (hs₉.extBut _ _ c1 (Heap.get?_push_of_some _ e));have hTA:bQ hA h₇.objs.size x y u:=hsA.extBut _ _ (Nat.ne_of_gt hzlt) (hs₉.extBut _ _ (Nat.ne_of_gt hzlt) (Heap.get?_push_size _ rfl));have hzs:hA.objs.size=h₇.objs.size+1:=by rw [hsA.1,hs₉.1,Heap.size_push]
 rw [hsz] at hzA hTA hzs;refine wpAny_pure ⟨_,rfl,?_⟩;show Q (.ref h₇.objs.size) _;rw [hsz];exact hQ hA hzA (up _ _ D.TOz hTO₇) (h1₇.keep fun o e=>up _ o D.i1z e) (h2₇.keep fun o e=>up _ o D.i2z e) (h3₇.keep fun o e=>up _ o D.i3z e) hTA hzs fun c o c1 c2 c3 c4 c5 e=>up c o c1 (k₇ c o c1 c2 c3 c4 c5 e)
theorem uK{b1 b2 b3:Bool}{z TI TO i1 i2 i3 l1 l2 l3:Addr}{n1 n2 n3:Nat}{xs ys us:Array Value}{a b c:Value}{Q:Fin->Shared->Prop}(hh:A.handled=none)(D:ZA3 z TI TO i1 i2 i3)(O1:Of3 z TO i1 i2 i3 l1)(O2:Of3 z TO i1 i2 i3 l2)(O3:Of3 z TO i1 i2 i3 l3)
  (hz:IsZip s.heap z TI TO .none) (hTI:bQ s.heap TI (.ref i1) (.ref i2) (.ref i3)) (hTO:bQ s.heap TO a b c)
  (h1:SrcTn b1 i1 l1 n1 s.heap) (h2:SrcTn b2 i2 l2 n2 s.heap) (h3:SrcTn b3 i3 l3 n3 s.heap) (hl1:SrcSq b1 s.heap l1 xs) (hl2:SrcSq b2 s.heap l2 ys) (hl3:SrcSq b3 s.heap l3 us) (hend:xs[n1]?=none\/ys[n2]?=none\/us[n3]?=none)
  (hE:∀h' e,(∀c o,c≠z->c≠TO->c≠i1->c≠i2->c≠i3->s.heap.get? c=some o->h'.get? c=some o)->(∃o,h'.get? e=some o/\o.cls=.type "StopIteration")->E (.ref e) { s with heap:=h' }):
  wpAny (model prog w) A (Builtin.«zip.__next__» ⟨[.ref z],[]⟩) Q E s:=by
 show wpAny _ _ (field (.ref z) 2 >>= _) _ _ _;refine wpAny_bind (wpAny_field hz rfl (x:=.bool false) rfl ?_);show wpAny _ _ (field (.ref z) 3 >>= _) _ _ _;refine wpAny_bind (wpAny_field hz rfl (x:=.ref TI) rfl ?_);refine wpAny_bind (wpAny_seqItems hTI rfl ?_);show wpAny _ _ (Builtin.SmallTypes.ownedTupleIsFree (.ref z) >>= _) _ _ _;refine wpAny_bind ?_;unfold Builtin.SmallTypes.ownedTupleIsFree;refine wpAny_bind (wpAny_field hz rfl (x:=.none) rfl (wpAny_pure ?_));simp only [if_true];refine wpAny_bind (wpAny_rule ?_);refine wpAny_bind (wpAny_field hz rfl (x:=.ref TO) rfl ?_);refine wpAny_bind (wpAny_setField_rec hz (by simp) fun h₁ hz₁ hs₁=>?_)
 replace hz₁:IsZip h₁ z TI TO .ellipsis:=hz₁
 refine wpAny_bind ?_;simp only [List.zipIdx_cons,List.zipIdx_nil,List.forIn_cons,List.forIn_nil];refine wpAny_bind (wpAny_bind (wpAny_onRaise ?_));show wpAny _ _ (Builtin.SmallTypes.nextOf (.ref i1) >>= _) _ _ _;cases hx:xs[n1]? with
 |none=>
  refine wpAny_bind (bY hh (h1.keep fun o e=>hs₁.extBut _ o D.i1z e) (hl1.keep fun o e=>hs₁.extBut _ o O1.z e) hx fun h₂ e hs₂ he=>?_);obtain ⟨oe,hoe,hce⟩:=he;have hz₂:IsZip h₂ z TI TO .ellipsis:=hs₂ _ _ D.i1z.symm hz₁;have hez:e≠z:=fun x=>by subst x;rw [hz₂] at hoe;cases hoe;simp at hce
  refine wpAny_setField_rec hz₂ (by simp) fun h₃ _ hs₃=>hE h₃ e (fun c o c1 _ c3 _ _ x=>hs₃.extBut _ _ c1 (hs₂ _ _ c3 (hs₁.extBut _ _ c1 x))) ⟨oe,hs₃.extBut _ _ hez hoe,hce⟩
 |some x=>
  refine wpAny_bind (bK (h1.keep fun o e=>hs₁.extBut _ o D.i1z e) (hl1.keep fun o e=>hs₁.extBut _ o O1.z e) hx fun h₂ h1₂ hs₂=>wpAny_pure ?_);have k₂:∀c o,c≠z->c≠i1->s.heap.get? c=some o->h₂.get? c=some o:=fun c o c1 c2 e=>hs₂.extBut _ _ c2 (hs₁.extBut _ _ c1 e);have hTO₂:bQ h₂ TO a b c:=k₂ _ _ D.TOz D.TOi1 hTO;refine wpAny_bind (wpAny_seqItems hTO₂ rfl ?_);refine wpAny_bind (cI hTO₂ fun h₃ hTO₃ hs₃=>?_)
  replace hTO₃:bQ h₃ TO x b c:=hTO₃
  refine wpAny_bind (wpAny_letGo (wpAny_pure ?_));have k₃:∀c o,c≠z->c≠i1->c≠TO->s.heap.get? c=some o->h₃.get? c=some o:=fun c o c1 c2 c3 e=>hs₃.extBut _ _ c3 (k₂ c o c1 c2 e);have hz₃:IsZip h₃ z TI TO .ellipsis:=hs₃.extBut _ _ D.TOz.symm (hs₂.extBut _ _ D.i1z.symm hz₁);refine wpAny_bind (wpAny_bind (wpAny_onRaise ?_));show wpAny _ _ (Builtin.SmallTypes.nextOf (.ref i2) >>= _) _ _ _;cases hy:ys[n2]? with
  |none=>
   refine wpAny_bind (bY hh (h2.keep fun o e=>k₃ _ o D.i2z D.i12.symm D.TOi2.symm e) (hl2.keep fun o e=>k₃ _ o O2.z O2.i1 O2.TO e) hy fun h₄ e hs₄ he=>?_);obtain ⟨oe,hoe,hce⟩:=he;have hz₄:IsZip h₄ z TI TO .ellipsis:=hs₄ _ _ D.i2z.symm hz₃;have hez:e≠z:=fun x=>by subst x;rw [hz₄] at hoe;cases hoe;simp at hce
   refine wpAny_setField_rec hz₄ (by simp) fun h₅ _ hs₅=>hE h₅ e (fun c o c1 c2 c3 c4 _ x=>hs₅.extBut _ _ c1 (hs₄ _ _ c4 (k₃ c o c1 c3 c2 x))) ⟨oe,hs₅.extBut _ _ hez hoe,hce⟩
  |some y=>
   have hu:us[n3]?=none:=by
    rcases hend with h|h|h
    ·rw [hx] at h;cases h
    ·rw [hy] at h;cases h
    ·exact h
   refine wpAny_bind (bK (h2.keep fun o e=>k₃ _ o D.i2z D.i12.symm D.TOi2.symm e) (hl2.keep fun o e=>k₃ _ o O2.z O2.i1 O2.TO e) hy fun h₄ h2₄ hs₄=>wpAny_pure ?_);have hTO₄:bQ h₄ TO x b c:=hs₄.extBut _ _ D.TOi2 hTO₃;refine wpAny_bind (wpAny_seqItems hTO₄ rfl ?_);refine wpAny_bind (cI hTO₄ fun h₅ hTO₅ hs₅=>?_);refine wpAny_bind (wpAny_letGo (wpAny_pure ?_));have k₅:∀c o,c≠z->c≠i1->c≠TO->c≠i2->s.heap.get? c=some o->h₅.get? c=some o:=fun c o c1 c2 c3 c4 e=>hs₅.extBut _ _ c3 (hs₄.extBut _ _ c4 (k₃ c o c1 c2 c3 e));have hz₅:IsZip h₅ z TI TO .ellipsis:=hs₅.extBut _ _ D.TOz.symm (hs₄.extBut _ _ D.i2z.symm hz₃);refine wpAny_bind (wpAny_bind (wpAny_onRaise ?_));show wpAny _ _ (Builtin.SmallTypes.nextOf (.ref i3) >>= _) _ _ _;refine wpAny_bind (bY hh (h3.keep fun o e=>k₅ _ o D.i3z D.i13.symm D.TOi3.symm D.i23.symm e) (hl3.keep fun o e=>k₅ _ o O3.z O3.i1 O3.TO O3.i2 e) hu fun h₆ e hs₆ he=>?_);obtain ⟨oe,hoe,hce⟩:=he;have hz₆:IsZip h₆ z TI TO .ellipsis:=hs₆ _ _ D.i3z.symm hz₅;have hez:e≠z:=fun x=>by subst x;rw [hz₆] at hoe;cases hoe;simp at hce
   refine wpAny_setField_rec hz₆ (by simp) fun h₇ _ hs₇=>hE h₇ e (fun c o c1 c2 c3 c4 c5 x=>hs₇.extBut _ _ c1 (hs₆ _ _ c5 (k₅ c o c1 c3 c2 c4 x))) ⟨oe,hs₇.extBut _ _ hez hoe,hce⟩
theorem iC{b1 b2 b3:Bool}{z TI TO i1 i2 i3 l1 l2 l3:Addr}{n1 n2 n3:Nat}{xs ys us:Array Value}{x y u a b c:Value}{Q:Option Value->Shared->Prop}(D:ZA3 z TI TO i1 i2 i3)(O1:Of3 z TO i1 i2 i3 l1)(O2:Of3 z TO i1 i2 i3 l2)(O3:Of3 z TO i1 i2 i3 l3)
  (hz:IsZip s.heap z TI TO .none) (hTI:bQ s.heap TI (.ref i1) (.ref i2) (.ref i3)) (hTO:bQ s.heap TO a b c)
  (h1:SrcTn b1 i1 l1 n1 s.heap) (h2:SrcTn b2 i2 l2 n2 s.heap) (h3:SrcTn b3 i3 l3 n3 s.heap) (hl1:SrcSq b1 s.heap l1 xs) (hl2:SrcSq b2 s.heap l2 ys) (hl3:SrcSq b3 s.heap l3 us) (hx:xs[n1]?=some x) (hy:ys[n2]?=some y) (hu:us[n3]?=some u)
  (hQ:∀h',IsZip h' z TI TO (rawInt s.heap.objs.size)->bQ h' TO x y u->SrcTn b1 i1 l1 (n1+1) h'->SrcTn b2 i2 l2 (n2+1) h'->SrcTn b3 i3 l3 (n3+1) h'->bQ h' s.heap.objs.size x y u->h'.objs.size=s.heap.objs.size+1->
   (∀c o,c≠z->c≠TO->c≠i1->c≠i2->c≠i3->s.heap.get? c=some o->h'.get? c=some o)->Q (some (.ref s.heap.objs.size)) { s with heap:=h' }):
  wpAny (model prog w) A (pyNext (.ref z)) Q E s:=by
 have hT:s.TypeIs (.ref z) "zip":=⟨_,hz,rfl⟩;unfold pyNext
 exact wpAny_bind (wpAny_attempt (wpAny_callSpecial?_slot (name:=Str.ofString "__next__") hT F.slot_zip_next
  (wpAny_call_entry F.slot_zip_next hT F.entry_zip_next (rL D O1 O2 O3 hz hTI hTO h1 h2 h3 hl1 hl2 hl3 hx hy hu fun h' a1 a2 a3 a4 a5 a6 a7 a8=>wpAny_pure (hQ h' a1 a2 a3 a4 a5 a6 a7 a8)) (F.args_zip_next_1 _))))
theorem j7{b1 b2 b3:Bool}{z TI TO i1 i2 i3 l1 l2 l3:Addr}{n1 n2 n3:Nat}{xs ys us:Array Value}{a b c:Value}{Q:Option Value->Shared->Prop}(hh:A.handled=none)(D:ZA3 z TI TO i1 i2 i3)(O1:Of3 z TO i1 i2 i3 l1)(O2:Of3 z TO i1 i2 i3 l2)(O3:Of3 z TO i1 i2 i3 l3)
  (hz:IsZip s.heap z TI TO .none) (hTI:bQ s.heap TI (.ref i1) (.ref i2) (.ref i3)) (hTO:bQ s.heap TO a b c)
  (h1:SrcTn b1 i1 l1 n1 s.heap) (h2:SrcTn b2 i2 l2 n2 s.heap) (h3:SrcTn b3 i3 l3 n3 s.heap) (hl1:SrcSq b1 s.heap l1 xs) (hl2:SrcSq b2 s.heap l2 ys) (hl3:SrcSq b3 s.heap l3 us) (hend:xs[n1]?=none\/ys[n2]?=none\/us[n3]?=none)
  (hQ:∀h',(∀c o,c≠z->c≠TO->c≠i1->c≠i2->c≠i3->s.heap.get? c=some o->h'.get? c=some o)->Q none { s with heap:=h' }):wpAny (model prog w) A (pyNext (.ref z)) Q E s:=by
 have hT:s.TypeIs (.ref z) "zip":=⟨_,hz,rfl⟩;unfold pyNext
 refine wpAny_bind (wpAny_attempt (wpAny_callSpecial?_slot (name:=Str.ofString "__next__") hT F.slot_zip_next
  (wpAny_call_entry F.slot_zip_next hT F.entry_zip_next (uK hh D O1 O2 O3 hz hTI hTO h1 h2 h3 hl1 hl2 hl3 hend fun h' e hk he=>?_) (F.args_zip_next_1 _))))
 obtain ⟨o,ho,hc⟩:=he;refine wpAny_bind (wpAny_isInstance (T:="StopIteration") (b:=true) ⟨o,ho,hc⟩ isSubtype_stop ?_);exact wpAny_pure (hQ _ hk)
end
theorem jM(a b c:Value):checkTypeCall "zip" ⟨[a,b,c],[]⟩=pure ():=by kernel_rfl
theorem kH(a b c:Value):checkBuiltinCall "zip.__new__" ⟨[.type "zip",a,b,c],[]⟩=pure ():=by kernel_rfl
theorem gB(a b c d:Value):argsOk "object.__init__" ⟨[a,b,c,d],[]⟩:=by
 unfold argsOk;rw [signature?_of (id:="object.__init__") (n:=['_','_','t','i','n','i','_','_']) (o:=['t','c','e','j','b','o']) (by kernel_rfl) F.owner_object];kernel_rfl
abbrev xL(c1 c2 c3:String)(h:Heap)(l1 l2 l3:Addr):Heap:=(zB c1 c2 h l1 l2).push { cls:=.type c3,data:=.fields #[.ref l3,.int 0 0] }
abbrev wC(c1 c2 c3:String)(h:Heap)(l1 l2 l3:Addr):Heap:=(xL c1 c2 c3 h l1 l2 l3).push { cls:=.type "tuple",data:=.seq #[.ref h.objs.size,.ref (B9 c1 h l1).objs.size,.ref (zB c1 c2 h l1 l2).objs.size] }
abbrev xy(c1 c2 c3:String)(h:Heap)(l1 l2 l3:Addr):Heap:=(wC c1 c2 c3 h l1 l2 l3).push { cls:=.type "tuple",data:=.seq #[.none,.none,.none] }
abbrev nA(c1 c2 c3:String)(h:Heap)(l1 l2 l3:Addr):Heap:=(xy c1 c2 c3 h l1 l2 l3).push { cls:=.type "zip",data:=.fields #[.none,.bool false,.bool false,.ref (xL c1 c2 c3 h l1 l2 l3).objs.size,.ref (wC c1 c2 c3 h l1 l2 l3).objs.size] }
theorem pP(b1 b2 b3:Bool)(l1 l2 l3:Addr)(xs ys us:Array Value):
  Meets (Builtin.«zip.__new__» ⟨[.type "zip",.ref l1,.ref l2,.ref l3],[]⟩) (fun _ R s=>SrcSq b1 s.heap l1 xs/\SrcSq b2 s.heap l2 ys/\SrcSq b3 s.heap l3 us/\
   R (.ok (.ret (.ref (xy (b0 b1) (b0 b2) (b0 b3) s.heap l1 l2 l3).objs.size))) { s with heap:=nA (b0 b1) (b0 b2) (b0 b3) s.heap l1 l2 l3 }):=
 .of_wp fun prog w A R s h=>by
  obtain ⟨hp,g,d,tk,os⟩:=s;obtain ⟨hl1,hl2,hl3,h⟩:=h;have hsub:=sub_zip;have hL1:SrcSq b1 (Shared.heap ⟨hp,g,d,tk,os⟩) l1 xs:=hl1;have hL2:SrcSq b2 (Shared.heap ⟨hp.push { cls:=.type (b0 b1),data:=.fields #[.ref l1,.int 0 0] },g,d,tk,os⟩) l2 ys:=SrcSq.keep hl2 fun o e=>Heap.get?_push_of_some _ e;have hL3:SrcSq b3 (Shared.heap ⟨(hp.push { cls:=.type (b0 b1),data:=.fields #[.ref l1,.int 0 0] }).push { cls:=.type (b0 b2),data:=.fields #[.ref l2,.int 0 0] },g,d,tk,os⟩) l3 us:=SrcSq.keep hl3 fun o e=>Heap.get?_push_of_some _ (Heap.get?_push_of_some _ e)
  wp_walk using cJ hL1,cJ hL2,cJ hL3
  exact ⟨_,rfl,h⟩
end L2
namespace L2
open PySem PySem.Spec PyProof.Rows
section
variable {prog:Program}{w:World}{A:Around}{E:Value->Shared->Prop}{s:Shared}
theorem sR{b1 b2 b3:Bool}{l1 l2 l3:Addr}{xs ys us:Array Value}{Q:Value->Shared->Prop}(hl1:SrcSq b1 s.heap l1 xs)(hl2:SrcSq b2 s.heap l2 ys)(hl3:SrcSq b3 s.heap l3 us)
  (h:∀h',IsZip h' (s.heap.objs.size+5) (s.heap.objs.size+3) (s.heap.objs.size+4) .none->bQ h' (s.heap.objs.size+3) (.ref s.heap.objs.size) (.ref (s.heap.objs.size+1)) (.ref (s.heap.objs.size+2))->
   bQ h' (s.heap.objs.size+4) .none .none .none->SrcTn b1 s.heap.objs.size l1 0 h'->SrcTn b2 (s.heap.objs.size+1) l2 0 h'->SrcTn b3 (s.heap.objs.size+2) l3 0 h'->h'.objs.size=s.heap.objs.size+6->
   (∀c o,s.heap.get? c=some o->h'.get? c=some o)->Q (.ref (s.heap.objs.size+5)) { s with heap:=h' }):
  wpAny (model prog w) A (call (.type "zip") [.ref l1,.ref l2,.ref l3]) Q E s:=by
 refine callType_new F.called_zip (by decide) (jM _ _ _) (kH _ _ _) (fun obj=>gB obj _ _ _) F.entry_zip_new (pP b1 b2 b3 l1 l2 l3 xs ys us) ⟨hl1,hl2,hl3,?_⟩
 generalize e1:b0 b1=c1;generalize e2:b0 b2=c2;generalize e3:b0 b3=c3;have z1:(B9 c1 s.heap l1).objs.size=s.heap.objs.size+1:=Heap.size_push ..;have z2:(zB c1 c2 s.heap l1 l2).objs.size=s.heap.objs.size+2:=by rw [Heap.size_push,z1]
 have z3:(xL c1 c2 c3 s.heap l1 l2 l3).objs.size=s.heap.objs.size+3:=by rw [Heap.size_push,z2]
 have z4:(wC c1 c2 c3 s.heap l1 l2 l3).objs.size=s.heap.objs.size+4:=by rw [Heap.size_push,z3]
 have z5:(xy c1 c2 c3 s.heap l1 l2 l3).objs.size=s.heap.objs.size+5:=by rw [Heap.size_push,z4]
 have z6:(nA c1 c2 c3 s.heap l1 l2 l3).objs.size=s.heap.objs.size+6:=by rw [Heap.size_push,z5]
 have g6:(nA c1 c2 c3 s.heap l1 l2 l3).get? (xy c1 c2 c3 s.heap l1 l2 l3).objs.size=some _:=Heap.get?_push_size _ rfl;have g5:(nA c1 c2 c3 s.heap l1 l2 l3).get? (wC c1 c2 c3 s.heap l1 l2 l3).objs.size=some _:=Heap.get?_push_of_some _ (Heap.get?_push_size _ rfl);have g4:(nA c1 c2 c3 s.heap l1 l2 l3).get? (xL c1 c2 c3 s.heap l1 l2 l3).objs.size=some _:=Heap.get?_push_of_some _ (Heap.get?_push_of_some _ (Heap.get?_push_size _ rfl));have g3:(nA c1 c2 c3 s.heap l1 l2 l3).get? (zB c1 c2 s.heap l1 l2).objs.size=some _:=Heap.get?_push_of_some _ (Heap.get?_push_of_some _ (Heap.get?_push_of_some _ (Heap.get?_push_size _ rfl)));have g2:(nA c1 c2 c3 s.heap l1 l2 l3).get? (B9 c1 s.heap l1).objs.size=some _:=Heap.get?_push_of_some _ (Heap.get?_push_of_some _ (Heap.get?_push_of_some _ (Heap.get?_push_of_some _ (Heap.get?_push_size _ rfl))));have g1:(nA c1 c2 c3 s.heap l1 l2 l3).get? s.heap.objs.size=some _:=Heap.get?_push_of_some _ (Heap.get?_push_of_some _ (Heap.get?_push_of_some _ (Heap.get?_push_of_some _ (Heap.get?_push_of_some _ (Heap.get?_push_size _ rfl)))));show _/\_;rw [z3,z4,z5] at g6;rw [z1,z2,z3] at g4;rw [z4] at g5;rw [z2] at g3;rw [z1] at g2;rw [z5];refine ⟨⟨_,g6,rfl⟩,h _ g6 g4 g5 (g0 (by rw [e1];exact g1)) (g0 (by rw [e2];exact g2)) (g0 (by rw [e3];exact g3)) z6 fun c o x=>?_⟩
 exact Heap.get?_push_of_some _ (Heap.get?_push_of_some _ (Heap.get?_push_of_some _ (Heap.get?_push_of_some _ (Heap.get?_push_of_some _ (Heap.get?_push_of_some _ x)))))
end
def BT(K:W.Frag)(b1 b2 b3:Bool)(l1 l2 l3:Addr):It:=
 ⟨fun i H=>∃xs ys us x y u,gO K b1 H l1 xs/\gO K b2 H l2 ys/\gO K b3 H l3 us/\xs[i]?=some x/\ys[i]?=some y/\us[i]?=some u,
  fun i H v H'=>∃T x y u,H T=none/\v=.ref T/\H'=upd H T (.tup [x,y,u])/\(∀xs,gO K b1 H l1 xs->xs[i]?=some x)/\(∀ys,gO K b2 H l2 ys->ys[i]?=some y)/\(∀us,gO K b3 H l3 us->us[i]?=some u),
  fun i H=>∃xs ys us,gO K b1 H l1 xs/\gO K b2 H l2 ys/\gO K b3 H l3 us/\(xs.length<=i\/ys.length<=i\/us.length<=i)⟩
theorem sw{P:Program}{w:World}{K:W.Frag}{elts:List Expr}{x1:Nat}{tp:Pos}(b1 b2 b3:Bool)(l1 l2 l3 z TI TO i1 i2 i3:Addr)(D:ZA3 z TI TO i1 i2 i3):
  Turn P w K (.Tuple elts x1 tp) (BT K b1 b2 b3 l1 l2 l3) [z,TI,TO,i1,i2,i3] z (fun i h=>IsZip h z TI TO .none/\bQ h TI (.ref i1) (.ref i2) (.ref i3)/\(∃a b c,bQ h TO a b c)/\SrcTn b1 i1 l1 i h/\SrcTn b2 i2 l2 i h/\SrcTn b3 i3 l3 i h) where
 mem:=by simp
 obj:=fun i h st b hb=>by
  obtain ⟨hz,hTI,⟨a,c,d,hTO⟩,h1,h2,h3⟩:=st;have hb':b=z\/b=TI\/b=TO\/b=i1\/b=i2\/b=i3:=by simpa using hb
  rcases hb' with e|e|e|e|e|e<;>subst e
  ·exact ⟨_,hz,fun v q=>nomatch q⟩
  ·exact ⟨_,hTI,fun v q=>nomatch q⟩
  ·exact ⟨_,hTO,fun v q=>nomatch q⟩
  ·exact h1.lt
  ·exact h2.lt
  ·exact h3.lt
 keep:=fun i h h' st k=>by
  obtain ⟨hz,hTI,⟨a,c,d,hTO⟩,h1,h2,h3⟩:=st;exact ⟨k z (by simp) _ hz,k TI (by simp) _ hTI,⟨a,c,d,k TO (by simp) _ hTO⟩,h1.keep fun o e=>k i1 (by simp) o e,h2.keep fun o e=>k i2 (by simp) o e,h3.keep fun o e=>k i3 (by simp) o e⟩
 item:=by
  intro X hP hw hK hc i pins s σ H E I hf st hg;subst hP hw hK;obtain ⟨xs,ys,us,x,y,u,q1,q2,q3,hx,hy,hu⟩:=hg;obtain ⟨hz,hTI,⟨a,c,d,hTO⟩,h1,h2,h3⟩:=st;obtain ⟨its1,r1,s1,z1⟩:=I.src q1;obtain ⟨its2,r2,s2,z2⟩:=I.src q2;obtain ⟨its3,r3,s3,z3⟩:=I.src q3;obtain ⟨vx,hvx,rx⟩:=r1.get hx;obtain ⟨vy,hvy,ry⟩:=r2.get hy;obtain ⟨vu,hvu,ru⟩:=r3.get hu;have O1:Of3 z TO i1 i2 i3 l1:=⟨I.src_ne q1 (hf z (by simp)),I.src_ne q1 (hf TO (by simp)),I.src_ne q1 (hf i1 (by simp)),I.src_ne q1 (hf i2 (by simp)),I.src_ne q1 (hf i3 (by simp))⟩
  have O2:Of3 z TO i1 i2 i3 l2:=⟨I.src_ne q2 (hf z (by simp)),I.src_ne q2 (hf TO (by simp)),I.src_ne q2 (hf i1 (by simp)),I.src_ne q2 (hf i2 (by simp)),I.src_ne q2 (hf i3 (by simp))⟩
  have O3:Of3 z TO i1 i2 i3 l3:=⟨I.src_ne q3 (hf z (by simp)),I.src_ne q3 (hf TO (by simp)),I.src_ne q3 (hf i1 (by simp)),I.src_ne q3 (hf i2 (by simp)),I.src_ne q3 (hf i3 (by simp))⟩
  refine iC D O1 O2 O3 hz hTI hTO h1 h2 h3 s1 s2 s3 (x:=vx) (y:=vy) (u:=vu) (by simpa using hvx) (by simpa using hvy) (by simpa using hvu) fun h' a1 a2 a3 a4 a4' a5 a6 hk=>?_
  refine ⟨_,rfl,wpAny_letOwnedTupleGo_zip a1 fun h'' hz'' hs''=>?_⟩;have hzs:z≠s.heap.objs.size:=Nat.ne_of_lt (Heap.lt_size hz);have kk:∀b o,b∉[z,TI,TO,i1,i2,i3]->s.heap.get? b=some o->h''.get? b=some o:=fun b o hb e=>
   hs''.extBut b o (fun q=>hb (by simp [q])) (hk b o (fun q=>hb (by simp [q])) (fun q=>hb (by simp [q])) (fun q=>hb (by simp [q])) (fun q=>hb (by simp [q])) (fun q=>hb (by simp [q])) e)
  have hT:h''.get? s.heap.objs.size=some { cls:=.type "tuple",data:=.seq #[vx,vy,vu] }:=hs''.extBut _ _ hzs.symm a5;have lv:∀b∈[z,TI,TO,i1,i2,i3],∃o,s.heap.get? b=some o:=fun b hb=>by
   have hb':b=z\/b=TI\/b=TO\/b=i1\/b=i2\/b=i3:=by simpa using hb
   rcases hb' with e|e|e|e|e|e<;>subst e
   ·exact ⟨_,hz⟩
   ·exact ⟨_,hTI⟩
   ·exact ⟨_,hTO⟩
   ·obtain ⟨o,e,_⟩:=h1.lt;exact ⟨o,e⟩
   ·obtain ⟨o,e,_⟩:=h2.lt;exact ⟨o,e⟩
   ·obtain ⟨o,e,_⟩:=h3.lt;exact ⟨o,e⟩
  have m1:SrcTn b1 i1 l1 (i+1) h'':=a3.keep fun o e=>hs''.extBut _ o D.i1z e;have m2:SrcTn b2 i2 l2 (i+1) h'':=a4.keep fun o e=>hs''.extBut _ o D.i2z e;have m3:SrcTn b3 i3 l3 (i+1) h'':=a4'.keep fun o e=>hs''.extBut _ o D.i3z e;have nTI:bQ h'' TI (.ref i1) (.ref i2) (.ref i3):=hs''.extBut _ _ D.TIz (hk _ _ D.TIz D.TITO D.TIi1 D.TIi2 D.TIi3 hTI);have nTO:bQ h'' TO vx vy vu:=hs''.extBut _ _ D.TOz a2;have lv':∀b∈[z,TI,TO,i1,i2,i3],∃o,h''.get? b=some o:=fun b hb=>by
   have hb':b=z\/b=TI\/b=TO\/b=i1\/b=i2\/b=i3:=by simpa using hb
   rcases hb' with e|e|e|e|e|e<;>subst e
   ·exact ⟨_,hz''⟩
   ·exact ⟨_,nTI⟩
   ·exact ⟨_,nTO⟩
   ·obtain ⟨o,e,_⟩:=m1.lt;exact ⟨o,e⟩
   ·obtain ⟨o,e,_⟩:=m2.lt;exact ⟨o,e⟩
   ·obtain ⟨o,e,_⟩:=m3.lt;exact ⟨o,e⟩
  have hTn:H s.heap.objs.size=none:=I.hok.fresh (Nat.le_refl _);refine ⟨.ref s.heap.objs.size,_,I.turnedNew (s:=s) (h':=h'') (t':=s.toks) (zs:=[x,y,u]) (us:=[vx,vy,vu]) hf kk lv lv' hT rfl ⟨_,rfl⟩ (.cons rx (.cons ry (.cons ru .nil))) rfl (by show 3<=sizeLine;decide),rfl,⟨_,x,y,u,hTn,rfl,rfl,fun zs hzs'=>?_,fun zs hzs'=>?_,fun zs hzs'=>?_⟩,⟨hz'',nTI,⟨_,_,_,nTO⟩,m1,m2,m3⟩,fun b hb=>?_⟩
  ·rw [I.src_inj hzs' q1];exact hx
  ·rw [I.src_inj hzs' q2];exact hy
  ·rw [I.src_inj hzs' q3];exact hu
  ·obtain ⟨o,e⟩:=lv b hb
   rw [bf (Nat.ne_of_lt (Heap.lt_size e))];exact (hf b hb).1
 done:=by
  intro X hP hw hK hc i pins s σ H E I hf st hg;subst hP hw hK;obtain ⟨xs,ys,us,q1,q2,q3,hx⟩:=hg;obtain ⟨hz,hTI,⟨a,c,d,hTO⟩,h1,h2,h3⟩:=st;obtain ⟨its1,r1,s1,z1⟩:=I.src q1;obtain ⟨its2,r2,s2,z2⟩:=I.src q2;obtain ⟨its3,r3,s3,z3⟩:=I.src q3;have l1':=r1.length;have l2':=r2.length;have l3':=r3.length;have O1:Of3 z TO i1 i2 i3 l1:=⟨I.src_ne q1 (hf z (by simp)),I.src_ne q1 (hf TO (by simp)),I.src_ne q1 (hf i1 (by simp)),I.src_ne q1 (hf i2 (by simp)),I.src_ne q1 (hf i3 (by simp))⟩
  have O2:Of3 z TO i1 i2 i3 l2:=⟨I.src_ne q2 (hf z (by simp)),I.src_ne q2 (hf TO (by simp)),I.src_ne q2 (hf i1 (by simp)),I.src_ne q2 (hf i2 (by simp)),I.src_ne q2 (hf i3 (by simp))⟩
  have O3:Of3 z TO i1 i2 i3 l3:=⟨I.src_ne q3 (hf z (by simp)),I.src_ne q3 (hf TO (by simp)),I.src_ne q3 (hf i1 (by simp)),I.src_ne q3 (hf i2 (by simp)),I.src_ne q3 (hf i3 (by simp))⟩
  refine j7 (I.ok.hd hc) D O1 O2 O3 hz hTI hTO h1 h2 h3 s1 s2 s3 ?_ fun h' hk=>⟨rfl,I.turned4 (t':=s.toks) hf fun b o hb e=>hk b o (fun q=>hb (by simp [q])) (fun q=>hb (by simp [q])) (fun q=>hb (by simp [q])) (fun q=>hb (by simp [q])) (fun q=>hb (by simp [q])) e⟩
  rcases hx with hx|hx|hx
  ·exact .inl (by simp;lia)
  ·exact .inr (.inl (by simp;lia))
  ·exact .inr (.inr (by simp;lia))
 self:=fun _ _ _ _ _ st h=>wpAny_pyIter_zip st.1 h
section
variable {X:Cx}
theorem CP{zs:List V}{us:List Value}{x y u:V}(h:Vals (x::y::u::zs) us):∃a b c r,us=a::b::c::r/\RelV x a/\RelV y b/\RelV u c/\Vals zs r:=by
 cases h with
 |cons r1 t=>
  cases t with
  |cons r2 t=>
   cases t with
   |cons r3 t=>exact ⟨_,_,_,_,rfl,r1,r2,r3,t⟩
def C0(K:W.Frag)(t:TA):TI:=fun σ H R=>t σ H fun vs H1=>∃b1 b2 b3 l1 l2 l3 xs ys us,vs=[.ref l1,.ref l2,.ref l3]/\gO K b1 H1 l1 xs/\gO K b2 H1 l2 ys/\gO K b3 H1 l3 us/\R (BT K b1 b2 b3 l1 l2 l3) H1
theorem x6{a b c:Expr}{elts:List Expr}{x1:Nat}{tp:Pos}{ta:TA}{p pos:Pos}(hg:Gl X "zip")(hm:X.mg "zip"=none)(ha:PA X [a,b,c] ta)
  (hs:starEach [a,b,c] X.env=[(false,eval a X.env),(false,eval b X.env),(false,eval c X.env)]:=by rfl) (hs2:starEach [b,c] X.env=[(false,eval b X.env),(false,eval c X.env)]:=by rfl):
  PI X (.Tuple elts x1 tp) (.Call (.Name "zip" p) [a,b,c] [] pos) (C0 X.K ta):=by
 intro pins s σ H R I h;refine Call_ (gA I hg hm (by decide +kernel:bootBuiltins "zip"=some (.type "zip")) (PyProof.Rows.callWith_type1 (cL (ha pos pins s σ H _ I h) fun vals s1 ⟨vs,H1,I1,r1,q1⟩=>?_) (by rw [hs,hs2]) (by rw [hs2];rfl)))
 obtain ⟨b1,b2,b3,l1,l2,l3,xs,ys,us,e,q1,q2,q3,q⟩:=q1;subst e;obtain ⟨u1,u2,u3,u4,rfl,ru1,ru2,ru3,ru4⟩:=CP r1;cases ru1;cases ru2;cases ru3;cases ru4;obtain ⟨its1,rv1,sq1,z1⟩:=I1.src q1;obtain ⟨its2,rv2,sq2,z2⟩:=I1.src q2;obtain ⟨its3,rv3,sq3,z3⟩:=I1.src q3;refine sR sq1 sq2 sq3 fun h' hz hTI hTO h1 h2 h3 hsz hk=>?_;have I2:Inv X pins σ H1 { s1 with heap:=h' }:=I1.kept (t':=s1.toks) hk;refine wpAny_pyIter_zip (s:={ s1 with heap:=h' }) hz ?_;have D:ZA3 (s1.heap.objs.size+5) (s1.heap.objs.size+3) (s1.heap.objs.size+4) s1.heap.objs.size (s1.heap.objs.size+1) (s1.heap.objs.size+2):=by constructor<;>exact (show (_:Nat)≠(_:Nat) by lia)
 refine ⟨s1.heap.objs.size+5,[s1.heap.objs.size+5,s1.heap.objs.size+3,s1.heap.objs.size+4,s1.heap.objs.size,s1.heap.objs.size+1,s1.heap.objs.size+2],_,_,H1,rfl,I2,sw b1 b2 b3 l1 l2 l3 _ _ _ _ _ _ D,⟨hz,hTI,⟨_,_,_,hTO⟩,h1,h2,h3⟩,fun b hb=>?_,q⟩;have hb':s1.heap.objs.size<=b:=by
  have hb2:b=s1.heap.objs.size+5\/b=s1.heap.objs.size+3\/b=s1.heap.objs.size+4\/b=s1.heap.objs.size\/b=s1.heap.objs.size+1\/b=s1.heap.objs.size+2:=by simpa using hb
  rcases hb2 with e|e|e|e|e|e<;>rw [e]<;>first|exact Nat.le_add_right _ _|exact Nat.le_refl _
 exact I1.fpOk (H':=H1) hb' (I1.hok.fresh hb')
end
end L2
namespace L3
open PySem L2
section
variable {X:Cx}{B:Bd}{K:W.Frag}{H:Hp}
theorem rps3{vs:List V}{d e f:D}(r:Rps K H [d,e,f] vs):∃v w u,vs=[v,w,u]/\Rp K H d v/\Rp K H e w/\Rp K H f u:=by
 obtain ⟨v,w,rfl,a,b⟩:=r;obtain ⟨v',w',rfl,a',b⟩:=b;obtain ⟨v2,w2,rfl,a2,b⟩:=b;cases b;exact ⟨v,v',v2,rfl,a,a',a2⟩
def eX:List D->List D->List D->List D
 |x::xs,y::ys,u::us=>.tup [x,y,u]::eX xs ys us
 |_,_,_=>[]
theorem kK:∀{xs ys us:List D} {i:Nat} {d:D},(eX xs ys us)[i]?=some d->∃x y u,xs[i]?=some x/\ys[i]?=some y/\us[i]?=some u/\d=.tup [x,y,u]
 |x::xs,y::ys,u::us,0,d,h=>by simp only [eX,List.getElem?_cons_zero,Option.some.injEq] at h;exact ⟨x,y,u,rfl,rfl,rfl,h.symm⟩
 |x::xs,y::ys,u::us,i+1,d,h=>by simp only [eX,List.getElem?_cons_succ] at h ⊢;exact kK h
 |[],_,_,_,_,h=>by simp [eX] at h
 |_::_,[],_,_,_,h=>by simp [eX] at h
 |_::_,_::_,[],_,_,h=>by simp [eX] at h
theorem kT:∀{xs ys us:List D} {i:Nat},(eX xs ys us).length<=i->xs.length<=i\/ys.length<=i\/us.length<=i
 |x::xs,y::ys,u::us,0,h=>by simp [eX] at h
 |x::xs,y::ys,u::us,i+1,h=>by
  have:=kT (xs:=xs) (ys:=ys) (us:=us) (i:=i) (by simpa [eX] using h)
  simpa using this
 |[],_,_,_,_=>.inl (by simp)
 |_::_,[],_,_,_=>.inr (.inl (by simp))
 |_::_,_::_,[],_,_=>.inr (.inr (by simp))
def tj(t:gv):tq:=fun δ M R=>t δ M fun ds M1=>match ds with
 |[d,e,f]=>match bR M1 d,bR M1 e,bR M1 f with
  |some xs,some ys,some us=>R ⟨eX xs ys us,cT d xs++(cT e ys++cT f us)⟩ M1
  |_,_,_=>False
 |_=>False
theorem wo{a b c:Expr}{elts:List Expr}{x1:Nat}{tp:Pos}{ta:gv}{p pos:Pos}(hg:Gl X "zip")(hm:X.mg "zip"=none)(ha:DA X B [a,b,c] ta)
  (hs:starEach [a,b,c] X.env=[(false,eval a X.env),(false,eval b X.env),(false,eval c X.env)]:=by rfl) (hs2:starEach [b,c] X.env=[(false,eval b X.env),(false,eval c X.env)]:=by rfl):
  DI X B (.Tuple elts x1 tp) (.Call (.Name "zip" p) [a,b,c] [] pos) (tj ta):=by
 refine ik (x6 hg hm ha hs hs2) ?_
 rintro σ H R ⟨δ,M,RR,s,h,up⟩
 refine ⟨δ,M,_,s,h,fun ds M1 h1 vs H1 rh1 i1 r1=>?_⟩
 split at h1
 ·obtain ⟨v,w,u,rfl,rv,rw',ru⟩:=rps3 r1
  split at h1
  ·rename_i xs ys us e1 e2 e3
   obtain ⟨p,b,rfl,hsrc⟩:=gz rh1 rv e1;obtain ⟨p',b',rfl,hsrc'⟩:=gz rh1 rw' e2;obtain ⟨p3,b3,rfl,hsrc3⟩:=gz rh1 ru e3;obtain ⟨vs,hq,_⟩:=hsrc H1 M1 Imm.refl rh1 (gG e1);obtain ⟨vs',hq',_⟩:=hsrc' H1 M1 Imm.refl rh1 (gG e2);obtain ⟨vs3,hq3,_⟩:=hsrc3 H1 M1 Imm.refl rh1 (gG e3);refine ⟨b,b',b3,p,p',p3,vs,vs',vs3,rfl,hq,hq',hq3,up _ M1 h1 _ H1 rh1 i1 fun i H2 M2 i2 rh2 ok2=>?_⟩;obtain ⟨vs2,hq2,r2⟩:=hsrc H2 M2 i2 rh2 fun q hq=>ok2 q (List.mem_append_left _ hq);obtain ⟨vs2',hq2',r2'⟩:=hsrc' H2 M2 i2 rh2 fun q hq=>ok2 q (List.mem_append_right _ (List.mem_append_left _ hq));obtain ⟨vs23,hq23,r23⟩:=hsrc3 H2 M2 i2 rh2 fun q hq=>ok2 q (List.mem_append_right _ (List.mem_append_right _ hq));have hl:=r2.length;have hl':=r2'.length;have hl3:=r23.length;refine ⟨fun d hd=>?_,fun hle=>⟨vs2,vs2',vs23,hq2,hq2',hq23,?_⟩⟩
   ·obtain ⟨x,y,u,hx,hy,hu,rfl⟩:=kK hd
    obtain ⟨w1,hw1,rw1⟩:=r2.get hx;obtain ⟨w2,hw2,rw2⟩:=r2'.get hy;obtain ⟨w3,hw3,rw3⟩:=r23.get hu;refine ⟨⟨vs2,vs2',vs23,w1,w2,w3,hq2,hq2',hq23,hw1,hw2,hw3⟩,?_⟩
    rintro x H3 ⟨T,x',y',u',hT,rfl,rfl,hx1,hx2,hx3⟩
    have q1:=hx1 vs2 hq2;have q2:=hx2 vs2' hq2';have q3:=hx3 vs23 hq23;rw [hw1] at q1;rw [hw2] at q2;rw [hw3] at q3;cases q1;cases q2;cases q3;have i3:Imm H2 (upd H2 T (.tup [w1,w2,w3])):=Imm.new hT;exact ⟨Frm.new hT,rh2.new hT,T,_,rfl,upd_same,.cons (rw1.mono i3) (.cons (rw2.mono i3) (.cons (rw3.mono i3) .nil))⟩
   ·have:=kT hle
    lia
  ·exact h1.elim
 ·exact h1.elim
end
end L3
namespace LS
open PySem PySem.W PyProof.Rows
def Kp(ky:Nat->Nat)(p:Array Nat)(i:Nat):Nat:=ky (p.getD i 0)
def Pm(n:Nat)(p:Array Nat):Prop:=p.toList.Perm (List.range n)
def SU(ky:Nat->Nat)(p:Array Nat)(k:Nat):Prop:=∀i j,i<=j->j<k->Kp ky p i<=Kp ky p j
def SD(ky:Nat->Nat)(p:Array Nat)(k:Nat):Prop:=∀i j,i<=j->j<k->Kp ky p j<=Kp ky p i
def kF(n:Nat)(ky:Nat->Nat)(cmp:Nat->Nat->(Bool->Shared->Prop)->Shared->Prop)(s:Shared):Prop:=∀i j,i<n->j<n->∀C:Bool->Shared->Prop,C (decide (ky i<ky j)) s->cmp i j C s
section
variable {n:Nat}{ky:Nat->Nat}{cmp:Nat->Nat->(Bool->Shared->Prop)->Shared->Prop}{p:Array Nat}{s:Shared}
theorem Pm.size(h:Pm n p):p.size=n:=by
 have:=List.Perm.length_eq h;simpa using this
theorem Pm.lt(h:Pm n p){i:Nat}(hi:i<n):p.getD i 0<n:=by
 have hs:i<p.size:=by rw [Pm.size h];exact hi
 have e:p.getD i 0=p[i]:=by simp [hs]
 rw [e];have:p[i]∈p.toList:=by simp
 exact List.mem_range.mp (List.Perm.mem_iff h |>.mp this)
theorem Pm.of{q:Array Nat}(h:Pm n p)(e:q.Perm p):Pm n q:=(Array.perm_iff_toList_perm.mp e).trans h
theorem oP{q:Array Nat}{i j:Nat}(h:q[i]?=p[j]?):q.getD i 0=p.getD j 0:=by
 rw [Array.getD_eq_getD_getElem?,Array.getD_eq_getD_getElem?,h]
theorem fN{q:Array Nat}{i j:Nat}(h:q[i]?=p[j]?):Kp ky q i=Kp ky p j:=congrArg ky (oP h)
theorem ko{i j:Nat}(hj:j<=p.size)(k:Nat):Kp ky (kas_rev p i j) k=if i<=k/\k<j then Kp ky p (i+j-1-k) else Kp ky p k:=by
 have e:=getElem?_mirror_all (i:=i) hj k
 by_cases h:i<=k/\k<j
 ·rw [if_pos h] at e ⊢
  exact fN e
 ·rw [if_neg h] at e ⊢
  exact fN e
theorem vo{src d:Nat}(hs:src<p.size)(hd:d<=src)(k:Nat):Kp ky (bubble p src d) k=if k=src-d then Kp ky p src else if src-d<k/\k<=src then Kp ky p (k-1) else Kp ky p k:=by
 have e:=getElem?_bubble hs d hd k
 by_cases h:k=src-d
 ·rw [if_pos h] at e ⊢
  exact fN e
 ·rw [if_neg h] at e ⊢
  by_cases h2:src-d<k/\k<=src
  ·rw [if_pos h2] at e ⊢
   exact fN e
  ·rw [if_neg h2] at e ⊢
   exact fN e
theorem uC{p:Array Nat}{m:Nat}:∀k,m+1-(0+1)<=k->k<m+1->Kp ky p k=Kp ky p (m+1-1):=fun k k1 k2=>by
 have e:k=m:=by lia
 subst e;rfl
theorem SU1:SU ky p 1:=fun i j hij hj=>by
 have e:i=j:=by lia
 rw [e];exact Nat.le_refl _
theorem Pm.rev(h:Pm n p){i j:Nat}:Pm n (kas_rev p i j):=h.of (mirror_perm ..)
theorem jJ{α:Type}{i j:Nat}{k:Bool->KasT α}{Q:α->Shared->Prop}(hc:kF n ky cmp s)(hi:i<n)(hj:j<n)(h1:ky i<ky j->(k true).kasWp cmp Q s)(h2:¬ky i<ky j->(k false).kasWp cmp Q s):(KasT.ask i j k).kasWp cmp Q s:=by
 refine hc i j hi hj _ ?_
 by_cases c:ky i<ky j
 ·rw [decide_eq_true c];exact h1 c
 ·rw [decide_eq_false c];exact h2 c
theorem pr(hc:kF n ky cmp s)(hp:Pm n p):∀(f a:Nat) (Q:Nat->Shared->Prop),1<=a->a+f<=n->SU ky p a->(∀m,a<=m->m<=a+f->SU ky p m->(m<a+f->Kp ky p m<Kp ky p (m-1))->Q m s)->(kas_asc p f a).kasWp cmp Q s
 |0,a,Q,h1,h2,hs,h=>h a (Nat.le_refl _) (by lia) hs fun q=>by lia
 |f+1,a,Q,h1,h2,hs,h=>by
  unfold kas_asc;refine jJ hc (hp.lt (by lia)) (hp.lt (by lia)) (fun c=>?_) fun c=>?_
  ·exact h a (Nat.le_refl _) (by lia) hs fun _=>c
  ·refine pr hc hp f (a+1) Q (by lia) (by lia) (fun i j hij hj=>?_) fun m g1 g2 g3 g4=>h m (by lia) (by lia) g3 fun q=>g4 (by lia)
   have c':Kp ky p (a-1)<=Kp ky p a:=Nat.le_of_not_lt c
   by_cases e:j=a
   ·subst e
    by_cases e2:i=j
    ·rw [e2];exact Nat.le_refl _
    ·exact Nat.le_trans (hs i (j-1) (by lia) (by lia)) c'
   ·exact hs i j hij (by lia)
theorem jp(hc:kF n ky cmp s):∀(f:Nat) (p:Array Nat) (m q:Nat) (Q:Array Nat×Nat×Nat->Shared->Prop),Pm n p->1<=m->m+f<=n->SD ky p m->q+1<=m->(∀k,m-(q+1)<=k->k<m->Kp ky p k=Kp ky p (m-1))->
  (∀p' m' q',Pm n p'->m<=m'->m'<=m+f->SD ky p' m'->q'+1<=m'->(∀k,m'-(q'+1)<=k->k<m'->Kp ky p' k=Kp ky p' (m'-1))->Q (p',m',q') s)->(kas_desc f p m q).kasWp cmp Q s
 |0,p,m,q,Q,hp,h1,h2,hs,hq,he,h=>h p m q hp (Nat.le_refl _) (by lia) hs hq he
 |f+1,p,m,q,Q,hp,h1,h2,hs,hq,he,h=>by
  unfold kas_desc;have one:∀p',(∀k,Kp ky p' k=Kp ky p k)->Kp ky p m<=Kp ky p (m-1)->SD ky p' (m+1):=fun p' hk c i j hij hj=>by
   rw [hk,hk]
   by_cases e:j=m
   ·subst e
    by_cases e2:i=j
    ·rw [e2];exact Nat.le_refl _
    ·exact Nat.le_trans c (hs i (j-1) (by lia) (by lia))
   ·exact hs i j hij (by lia)
  refine jJ hc (hp.lt (by lia)) (hp.lt (by lia)) (fun c=>?_) fun c=>?_
  ·have c':Kp ky p m<=Kp ky p (m-1):=Nat.le_of_lt c
   show (if q>0 then _ else _:KasT _).kasWp cmp Q s
   split
   ·have hk:∀k,Kp ky (kas_rev p (m-(q+1)) m) k=Kp ky p k:=fun k=>by
     rw [ko (by rw [hp.size];lia)]
     split
     ·rename_i z
      rw [he _ (by lia) (by lia),he k z.1 z.2]
     ·rfl
    exact jp hc f _ (m+1) 0 Q hp.rev (by lia) (by lia) (one _ hk c') (by lia) uC fun p' m' q' a1 a2 a3 a4 a5 a6=>h p' m' q' a1 (by lia) (by lia) a4 a5 a6
   ·exact jp hc f p (m+1) 0 Q hp (by lia) (by lia) (one _ (fun _=>rfl) c') (by lia) uC fun p' m' q' a1 a2 a3 a4 a5 a6=>h p' m' q' a1 (by lia) (by lia) a4 a5 a6
  ·show (KasT.ask _ _ _).kasWp cmp Q s
   refine jJ hc (hp.lt (by lia)) (hp.lt (by lia)) (fun c2=>?_) fun c2=>?_
   ·exact h p m q hp (Nat.le_refl _) (by lia) hs hq he
   ·have e1:Kp ky p m=Kp ky p (m-1):=Nat.le_antisymm (Nat.le_of_not_lt c2) (Nat.le_of_not_lt c)
    refine jp hc f p (m+1) (q+1) Q hp (by lia) (by lia) (one _ (fun _=>rfl) (Nat.le_of_eq e1)) (by lia) (fun k k1 k2=>?_) fun p' m' q' a1 a2 a3 a4 a5 a6=>h p' m' q' a1 (by lia) (by lia) a4 a5 a6
    show Kp ky p k=Kp ky p m
    by_cases e:k=m
    ·rw [e]
    ·rw [he k (by lia) (by lia),e1]
theorem kr{α β:Type}{t:KasT α}{f:α->KasT β}{Q:β->Shared->Prop}(h:t.kasWp cmp (fun a s'=>(f a).kasWp cmp Q s') s):(t.bind f).kasWp cmp Q s:=by
 rw [KasT.kasWp_bind];exact h
theorem mV(hc:kF n ky cmp s)(hp:Pm n p){m:Nat}{Q:Nat×Array Nat->Shared->Prop}(h1:1<=m)(h2:m<=n)(hs:SD ky p m)(h:∀m' p',Pm n p'->1<=m'->m'<=n->SU ky p' m'->Q (m',p') s):(kas_tail3 m n p).kasWp cmp Q s:=by
 unfold kas_tail3;refine kr (pr hc hp.rev (n-m) m _ h1 (by lia) (fun i j hij hj=>?_) fun m' a1 a2 a3 _=>h m' _ hp.rev (by lia) (by lia) a3)
 rw [ko (by rw [hp.size];lia),ko (by rw [hp.size];lia),if_pos (by lia),if_pos (by lia)]
 exact hs _ _ (by lia) (by lia)
theorem iZ(hc:kF n ky cmp s)(hp:Pm n p){m:Nat}{Q:Nat×Array Nat->Shared->Prop}(h1:1<=m)(h2:m+1<=n)(hs:SD ky p (m+1))(h:∀m' p',Pm n p'->1<=m'->m'<=n->SU ky p' m'->Q (m',p') s):(kas_descPart m n p).kasWp cmp Q s:=by
 unfold kas_descPart;refine kr (jp hc (n-(m+1)) p (m+1) 0 _ hp (by lia) (by lia) hs (by lia) uC fun p' m' q' a1 a2 a3 a4 a5 a6=>?_)
 dsimp only
 split
 ·refine mV hc a1.rev (by lia) (by lia) (fun i j hij hj=>?_) h
  have hk:∀k,Kp ky (kas_rev p' (m'-(q'+1)) m') k=Kp ky p' k:=fun k=>by
   rw [ko (by rw [a1.size];lia)]
   split
   ·rename_i z
    rw [a6 _ (by lia) (by lia),a6 k z.1 z.2]
   ·rfl
  rw [hk,hk];exact a4 i j hij hj
 ·exact mV hc a1 (by lia) (by lia) a4 h
theorem vJ(hc:kF n ky cmp s)(hp:Pm n p){Q:Nat×Array Nat->Shared->Prop}(hn:1<=n)(h:∀m' p',Pm n p'->1<=m'->m'<=n->SU ky p' m'->Q (m',p') s):(kas_count n p).kasWp cmp Q s:=by
 unfold kas_count;refine kr (pr hc hp (n-1) 1 _ (by lia) (by lia) SU1 fun m a1 a2 a3 a4=>?_)
 by_cases e:m=n
 ·subst e
  rw [if_pos (by simp)]
  exact h m p hp a1 (by lia) a3
 ·rw [if_neg (by simpa using e)]
  have lt:=a4 (by lia)
  by_cases g:m>1
  ·rw [if_pos g]
   refine jJ hc (hp.lt (by lia)) (hp.lt (by lia)) (fun c=>?_) fun c=>?_
   ·exact h m p hp a1 (by lia) a3
   ·have eq:∀k,k<m->Kp ky p k=Kp ky p (m-1):=fun k hk=>by
     have q1:=a3 k (m-1) (by lia) (by lia)
     have q2:=a3 0 k (by lia) hk
     have q3:Kp ky p (m-1)<=Kp ky p 0:=Nat.le_of_not_lt c;lia
    have hk:∀k,Kp ky (kas_rev p 0 m) k=Kp ky p k:=fun k=>by
     rw [ko (by rw [hp.size];lia)]
     split
     ·rename_i z
      rw [eq _ (by lia),eq k z.2]
     ·rfl
    refine iZ hc hp.rev a1 (by lia) (fun i j hij hj=>?_) h
    rw [hk,hk]
    by_cases ej:j=m
    ·subst ej
     by_cases ei:i=j
     ·rw [ei];exact Nat.le_refl _
     ·rw [eq i (by lia)];lia
    ·rw [eq i (by lia),eq j (by lia)];exact Nat.le_refl _
  ·rw [if_neg g]
   have:m=1:=by lia
   subst this;refine iZ hc hp a1 (by lia) (fun i j hij hj=>?_) h
   have:Kp ky p 1<Kp ky p 0:=lt;have hi:i=0\/i=1:=by lia
   have hj':j=0\/j=1:=by lia
   rcases hi with rfl|rfl<;>rcases hj' with rfl|rfl<;>lia
theorem jQ(hc:kF n ky cmp s)(hp:Pm n p){k:Nat}(hk:k<n)(hs:SU ky p k):∀(f l r:Nat) (Q:Nat->Shared->Prop),l<=r->r<=k->r-l<=f->(∀i,i<l->Kp ky p i<=Kp ky p k)->(∀i,r<=i->i<k->Kp ky p k<Kp ky p i)->
  (∀l',l'<=k->(∀i,i<l'->Kp ky p i<=Kp ky p k)->(∀i,l'<=i->i<k->Kp ky p k<Kp ky p i)->Q l' s)->(kas_place p k f l r).kasWp cmp Q s
 |0,l,r,Q,h1,h2,h3,a,b,h=>h l (by lia) a fun i i1 i2=>b i (by lia) i2
 |f+1,l,r,Q,h1,h2,h3,a,b,h=>by
  unfold kas_place
  by_cases c:l>=r
  ·rw [if_pos c]
   exact h l (by lia) a fun i i1 i2=>b i (by lia) i2
  ·rw [if_neg c]
   refine jJ hc (hp.lt hk) (hp.lt (by lia)) (fun g=>?_) fun g=>?_
   ·exact jQ hc hp hk hs f l ((l+r) / 2) Q (by lia) (by lia) (by lia) a (fun i i1 i2=>Nat.lt_of_lt_of_le g (hs _ i i1 i2)) h
   ·have g':Kp ky p ((l+r) / 2)<=Kp ky p k:=Nat.le_of_not_lt g
    exact jQ hc hp hk hs f ((l+r) / 2+1) r Q (by lia) (by lia) (by lia) (fun i i1=>Nat.le_trans (hs i ((l+r) / 2) (by lia) (by lia)) g') b h
theorem vX(hc:kF n ky cmp s):∀(f:Nat) (p:Array Nat) (k:Nat) (Q:Array Nat->Shared->Prop),Pm n p->1<=k->k+f=n->SU ky p k->(∀p',Pm n p'->SU ky p' n->Q p' s)->(kas_bin f p k).kasWp cmp Q s
 |0,p,k,Q,hp,h1,h2,hs,h=>h p hp (by rw [<- h2];exact hs)
 |f+1,p,k,Q,hp,h1,h2,hs,h=>by
  unfold kas_bin;refine kr (jQ hc hp (by lia) hs k 0 k _ (by lia) (Nat.le_refl _) (by lia) (fun i hi=>by lia) (fun i i1 i2=>by lia) fun l hl a b=>?_)
  refine vX hc f _ (k+1) Q (hp.of (bubble_perm ..)) (by lia) (by lia) (fun i j hij hj=>?_) h
  have sz:k<p.size:=by rw [hp.size];lia
  have e:k-(k-l)=l:=by lia
  rw [vo sz (by lia),vo sz (by lia),e]
  by_cases i1:i=l
  ·rw [if_pos i1]
   by_cases j1:j=l
   ·rw [if_pos j1];exact Nat.le_refl _
   ·rw [if_neg j1,if_pos (by lia)]
    exact Nat.le_of_lt (b (j-1) (by lia) (by lia))
  ·rw [if_neg i1]
   by_cases i2:l<i/\i<=k
   ·rw [if_pos i2,if_neg (by lia),if_pos (by lia)]
    exact hs (i-1) (j-1) (by lia) (by lia)
   ·rw [if_neg i2]
    by_cases j1:j=l
    ·rw [if_pos j1];exact a i (by lia)
    ·rw [if_neg j1]
     by_cases j2:l<j/\j<=k
     ·rw [if_pos j2];exact hs i (j-1) (by lia) (by lia)
     ·rw [if_neg j2];exact hs i j hij (by lia)
theorem mH:Pm n (List.toArray (List.range n)):=by unfold Pm;simp
theorem wB(hc:kF n ky cmp s)(hn:1<=n){Q:Array Nat->Shared->Prop}(h:∀p,Pm n p->SU ky p n->Q p s):(kas_sort n).kasWp cmp Q s:=by
 unfold kas_sort;refine kr (vJ hc mH hn fun m p hp m1 m2 hs=>?_);dsimp only
 split
 ·rw [Nat.max_eq_left m1]
  exact vX hc (n-m) p m Q hp m1 (by lia) hs h
 ·have:m=n:=by lia
  subst this;exact h p hp hs
end
end LS
namespace LS
open PySem PySem.W PyProof.Rows
def gP:List Int->List Int->Bool
 |[],[]=>false
 |[],_::_=>true
 |_::_,[]=>false
 |x::xs,y::ys=>if x=y then gP xs ys else decide (x<y)
theorem qt:∀x:List Int,gP x x=false
 |[]=>rfl
 |x::xs=>by simp [gP,qt xs]
theorem oB:∀x y:List Int,gP x y=false->gP y x=false->x=y
 |[],[],_,_=>rfl
 |[],_::_,h,_=>by simp [gP] at h
 |_::_,[],_,h=>by simp [gP] at h
 |x::xs,y::ys,h1,h2=>by
  unfold gP at h1 h2
  by_cases c:x=y
  ·subst c
   rw [if_pos rfl] at h1 h2;rw [oB xs ys h1 h2]
  ·rw [if_neg c] at h1
   rw [if_neg (fun e=>c e.symm)] at h2;simp at h1 h2;lia
theorem mn:∀x y z:List Int,gP y x=false->gP z y=false->gP z x=false
 |[],[],[],_,_=>rfl
 |[],[],_::_,_,h=>rfl
 |[],_::_,[],_,h=>by simp [gP] at h
 |[],_::_,_::_,_,_=>rfl
 |_::_,[],_,h,_=>by simp [gP] at h
 |_::_,_::_,[],_,h=>by simp [gP] at h
 |x::xs,y::ys,z::zs,h1,h2=>by
  unfold gP at h1 h2 ⊢
  by_cases c:y=x
  ·rw [if_pos c] at h1
   subst c
   by_cases d:z=y
   ·rw [if_pos d] at h2 ⊢;exact mn xs ys zs h1 h2
   ·rw [if_neg d] at h2 ⊢;exact h2
  ·rw [if_neg c] at h1
   by_cases d:z=y
   ·subst d;rw [if_neg c];exact h1
   ·rw [if_neg d] at h2
    simp at h1 h2;rw [if_neg (by lia)]
    simp;lia
theorem kf:∀x y:List Int,gP x y=true->gP y x=false
 |[],[],h=>by simp [gP] at h
 |[],_::_,_=>rfl
 |_::_,[],h=>by simp [gP] at h
 |x::xs,y::ys,h=>by
  unfold gP at h ⊢
  by_cases c:x=y
  ·subst c
   rw [if_pos rfl] at h ⊢;exact kf xs ys h
  ·rw [if_neg c] at h
   rw [if_neg (fun e=>c e.symm)];simp at h ⊢;lia
def j_:Ord (List Int):=⟨gP,oB,mn,kf⟩
theorem qy{α:Type}{p q:α->Bool}:∀{l:List α},(∀x∈l,p x=true->q x=true)->(∃y∈l,q y=true/\p y=false)->l.countP p<l.countP q
 |[],_,⟨_,h,_⟩=>by cases h
 |x::l,h,⟨y,hy,hq,hp⟩=>by
  have mono:l.countP p<=l.countP q:=List.countP_mono_left fun z hz=>h z (List.mem_cons_of_mem _ hz);rw [List.countP_cons,List.countP_cons];rcases List.mem_cons.mp hy with e|hy
  ·subst e
   rw [if_pos hq,hp];simp;lia
  ·have:=qy (l:=l) (fun z hz=>h z (List.mem_cons_of_mem _ hz)) ⟨y,hy,hq,hp⟩
   have hx:=h x (by simp)
   cases c:p x with
   |false=>simp;split<;>lia
   |true=>rw [if_pos rfl,if_pos (hx c)];lia
def rk(ks:List (List Int))(i:Nat):Nat:=ks.countP fun x=>gP x (ks.getD i [])
theorem zx{ks:List (List Int)}{i j:Nat}(hi:i<ks.length):decide (rk ks i<rk ks j)=gP (ks.getD i []) (ks.getD j []):=by
 unfold rk;have ha:ks.getD i []∈ks:=by simp [hi]
 generalize ks.getD i []=a at ha;generalize ks.getD j []=b;cases c:gP a b with
 |true=>
  refine decide_eq_true (qy (fun x hx h=>?_) ⟨a,ha,c,qt a⟩);cases d:gP x b with
  |true=>rfl
  |false=>
   have:=mn a b x (kf a b c) d;rw [this] at h;cases h
 |false=>
  refine decide_eq_false (Nat.not_lt.mpr (List.countP_mono_left fun x hx h=>?_));cases d:gP x a with
  |true=>rfl
  |false=>
   have:=mn b a x c d;rw [this] at h;cases h
section
variable {prog:Program}{w:World}{A:Around}{s:Shared}{b:Bool}{Q:Bool->Shared->Prop}
theorem mQ:∀(xs ys:List Int) (us vs:List Value) (i:Nat),IntsAre us xs->IntsAre vs ys->Q (gP xs ys) s->KatLex prog w A b (decide (xs.length<ys.length)) Q (us.zip vs) i s
 |[],[],_,_,i,.nil,.nil,h=>h
 |[],_::_,_,_,i,.nil,.cons ..,h=>by
  rw [List.zip_nil_left];show Q (decide (0<_)) s;rw [decide_eq_true (by simp)]
  exact h
 |_::_,[],_,_,i,.cons ..,.nil,h=>by
  rw [List.zip_nil_right];show Q (decide (_<0)) s;rw [decide_eq_false (by lia)]
  exact h
 |x::xs,y::ys,_,_,i,.cons _ _ r1,.cons _ _ r2,h=>by
  have e:decide ((x::xs).length<(y::ys).length)=decide (xs.length<ys.length):=decide_eq_decide.mpr (by simp)
  rw [e,List.zip_cons_cons];refine kat_cons (wpAny_eqBool_int (kat_go (fun c=>kat_yes ?_) fun c=>kat_no ?_))
  ·have:x=y:=by simpa using c
   subst this;unfold gP at h;rw [if_pos rfl] at h;exact mQ xs ys _ _ (i+1) r1 r2 h
  ·have:¬x=y:=by simpa using c
   unfold gP at h;rw [if_neg this] at h;cases (b&&i==0) with
   |true=>exact oneLt_int h
   |false=>exact kat_one _ _ (wpAny_lt_int h)
end
end LS
namespace LS
open PySem PySem.W PyProof.Rows
inductive TupsAt(h:Heap):List Value->List (List Int)->Prop
 |nil:TupsAt h [] []
 |cons {a:Addr} {o:Obj} {us:List Value} {n:Nat} {k:List Int} {vs:List Value} {ks:List (List Int)} (ho:h.get? a=some o) (hc:o.cls=.type "tuple") (hd:o.data=.seq us.toArray n) (hi:IntsAre us k) (r:TupsAt h vs ks):TupsAt h (.ref a::vs) (k::ks)
theorem TupsAt.keep{h h':Heap}{vs:List Value}{ks:List (List Int)}(t:TupsAt h vs ks)(k:∀b o,h.get? b=some o->o.cls=.type "tuple"->h'.get? b=some o):TupsAt h' vs ks:=by
 induction t with
 |nil=>exact .nil
 |cons ho hc hd hi r ih=>exact .cons (k _ _ ho hc) hc hd hi ih
theorem TupsAt.len{h:Heap}{vs:List Value}{ks:List (List Int)}(t:TupsAt h vs ks):ks.length=vs.length:=by
 induction t with
 |nil=>rfl
 |cons ho hc hd hi r ih=>simp [ih]
theorem TupsAt.at{h:Heap}{vs:List Value}{ks:List (List Int)}(t:TupsAt h vs ks):∀i,i<vs.length->∃a o us n,vs.getD i Value.none=.ref a/\h.get? a=some o/\o.data=.seq (List.toArray us) n/\IntsAre us (ks.getD i []):=by
 induction t with
 |nil=>intro i hi;simp at hi
 |@cons a o us n k vs ks ho hc hd hi r ih=>
  intro i hl;cases i with
  |zero=>exact ⟨a,o,us,n,rfl,ho,hd,hi⟩
  |succ i=>
   obtain ⟨a',o',us',n',e,q⟩:=ih i (by simpa using hl)
   exact ⟨a',o',us',n',by simpa using e,by simpa using q⟩
theorem TupsAt.firsts{h:Heap}{vs:List Value}{ks:List (List Int)}(t:TupsAt h vs ks)(hne:∀k∈ks,k≠[]):∃fs,KatTups h vs fs/\fs.length=vs.length/\∀v∈fs,∃i t,v=Value.int i t:=by
 induction t with
 |nil=>exact ⟨[],trivial,rfl,fun _ h=>by cases h⟩
 |@cons a o us n k vs ks ho hc hd hi r ih=>
  obtain ⟨fs,h1,h2,h3⟩:=ih fun k hk=>hne k (List.mem_cons_of_mem _ hk);cases hi with
  |nil=>exact absurd rfl (hne [] (by simp))
  |cons x t hi=>
   refine ⟨.int x t::fs,.cons ho hc hd (by simp) h1,by simp [h2],fun v hv=>?_⟩
   rcases List.mem_cons.mp hv with rfl|hv
   ·exact ⟨_,_,rfl⟩
   ·exact h3 v hv
theorem jU:∀{us:List Value} {k:List Int},IntsAre us k->us.length=k.length
 |_,_,.nil=>rfl
 |_,_,.cons _ _ r=>by simp [jU r]
section
variable {prog:Program}{w:World}{A:Around}{E:Value->Shared->Prop}{s:Shared}
theorem sx{b:Bool}{vs:List Value}{ks:List (List Int)}(t:TupsAt s.heap vs ks):kF vs.length (rk ks) (kas_ask prog w A (tuples' b) vs) s:=by
 intro i j hi hj C h;obtain ⟨a,o,us,n,e1,ho,hd,r1⟩:=t.at i hi;obtain ⟨a',o',us',n',e2,ho',hd',r2⟩:=t.at j hj;unfold kas_ask;rw [e1,e2];refine kat_lt ho hd ho' hd' ?_;have l1:us.toArray.size=(ks.getD i []).length:=by
  have:=jU r1;simpa using this
 have l2:us'.toArray.size=(ks.getD j []).length:=by
  have:=jU r2;simpa using this
 rw [l1,l2];refine mQ _ _ us us' 0 r1 r2 ?_;rw [<- zx (by rw [t.len];exact hi)]
 exact h
theorem kh{a:Addr}{vs:List Value}{ks:List (List Int)}{n:Nat}{P:Fin->Shared->Prop}(ho:s.heap.get? a=some (seqObj "list" vs.toArray n))(ht:TupsAt s.heap vs ks)(hne:∀k∈ks,k≠[])(h64:vs.length<64)
  (h:∀p:Array Nat,Pm vs.length p->SU (rk ks) p vs.length->P (.done (.ret .none)) { s with heap:=sortedHeap s.heap a vs (List.toArray (p.toList.map fun i=>vs.getD i Value.none)) }):
  wpAny (model prog w) A (Builtin.«list.sort» ⟨[.ref a],[]⟩) P E s:=by
 rw [list_sort_plain];have ha:a<s.heap.objs.size:=Heap.lt_size ho;refine wpAny_bind (listItems_at ho rfl ?_);refine wpAny_bind (listUpdate_at ho rfl ?_ (by rw [List.size_toArray,sizeLine_eq];lia) (Nat.zero_le _))
 obtain ⟨e1,ho1⟩:∃e1,(s.heap.update a (Obj.mapSeq fun _=>#[])).get? a=some (seqObj "list" #[] e1):=⟨_,get?_update_seq ho (fun _=>#[])⟩;refine wpAny_bind (seqEpoch_at ho1 rfl ?_);refine wpAny_bind (wpAny_newTuple ?_ (by show vs.length<=_;rw [sizeLine_eq];lia))
 refine wpAny_bind (wpAny_newList ?_ (Nat.zero_le _));refine wpAny_holding ?_;have k6:∀b o,b≠a->s.heap.get? b=some o->(((s.heap.update a (Obj.mapSeq fun _=>#[])).push (seqObj "tuple" vs.toArray 0)).push (seqObj "list" #[] 0)).get? b=some o:=fun b o hb e=>
  Heap.get?_push_of_some _ (Heap.get?_push_of_some _ ((Heap.SameBut.update ..).extBut b o hb e))
 have ho6:(((s.heap.update a (Obj.mapSeq fun _=>#[])).push (seqObj "tuple" vs.toArray 0)).push (seqObj "list" #[] 0)).get? a=some (seqObj "list" #[] e1):=Heap.get?_push_of_some _ (Heap.get?_push_of_some _ ho1);have ht6:TupsAt (((s.heap.update a (Obj.mapSeq fun _=>#[])).push (seqObj "tuple" vs.toArray 0)).push (seqObj "list" #[] 0)) vs ks:=ht.keep fun b o e hc=>k6 b o (fun z=>by subst z;rw [ho] at e;cases e;exact absurd hc (by simp [seqObj])) e
 show wpAny (model prog w) A _ P E { s with heap:=((s.heap.update a (Obj.mapSeq fun _=>#[])).push (seqObj "tuple" vs.toArray 0)).push (seqObj "list" #[] 0) };dsimp only;have hsz:vs.toArray.size=vs.length:=by simp
 by_cases h2:vs.toArray.size<2
 ·rw [if_pos h2,if_pos h2]
  refine wpAny_bind (wpAny_pure ?_);rw [StateT.run_pure];refine wpAny_bind (wpAny_pure ?_);dsimp only;refine wpAny_bind (seqEpoch_at ho6 rfl ?_);have eo:(arrOf (SortSt.mk' general' (vs.toArray.zip vs.toArray) #[] 7 none)).map (·.2)=List.toArray ((List.toArray (List.range vs.length)).toList.map fun i=>vs.getD i Value.none):=by
   show (vs.toArray.zip vs.toArray).map (·.2)=_;apply Array.toList_inj.mp;rw [Array.toList_map,Array.toList_zip,List.map_snd_zip (Nat.le_refl _)];refine List.ext_getElem (by simp) fun i h1 h2=>?_
   simp at h1;simp [h1]
  refine wpAny_bind (listUpdate_at ho6 rfl ?_ (Nat.zero_le _) (by rw [eo];simp;rw [sizeLine_eq];lia))
  simp only [bne_self_eq_false,Bool.false_eq_true,if_false];refine wpAny_pure ?_;rw [eo];refine h _ mH fun i j hij hj=>?_;have:i=j:=by lia
  rw [this];exact Nat.le_refl _
 ·rw [if_neg h2,if_neg h2]
  obtain ⟨fs,f1,f2,f3⟩:=ht6.firsts hne;refine wpAny_bind (kat_kind (T:=.type "int") f1 (by lia) (fun v hv=>?_) rfl ?_)
  ·obtain ⟨i,t,rfl⟩:=f3 v hv
   exact .now
  refine wpAny_bind (wpAny_mono (kat_run (Q:=fun st' s'=>∃p:Array Nat,arrOf st'=p.map (kas_item (vs.toArray.zip vs.toArray))/\failedOf st'=none/\s'={ s with heap:=((s.heap.update a (Obj.mapSeq fun _=>#[])).push (seqObj "tuple" vs.toArray 0)).push (seqObj "list" #[] 0) }/\Pm vs.length p/\SU (rk ks) p vs.length)
   (G:=fun p s'=>s'={ s with heap:=((s.heap.update a (Obj.mapSeq fun _=>#[])).push (seqObj "tuple" vs.toArray 0)).push (seqObj "list" #[] 0) }/\Pm vs.length p/\SU (rk ks) p vs.length) rfl (by lia) h64
   (fun p' st' s' a1 a2 a3 a4=>⟨p',a2,a3,a4.1,a4.2.1,a4.2.2⟩) (wB (sx ht6) (by lia) fun p hp hs=>⟨rfl,hp,hs⟩)) ?_ fun _ _ e=>e)
  rintro ⟨⟨⟩,st'⟩ s' ⟨p,har,hf,rfl,hp,hs⟩
  dsimp only;have hout:=kat_snds rfl har;rw [hout];refine wpAny_bind (seqEpoch_at ho6 rfl ?_);refine wpAny_bind (listUpdate_at ho6 rfl ?_ (Nat.zero_le _) (by have:=hp.size;simp;rw [this,sizeLine_eq];lia))
  rw [hf];simp only [bne_self_eq_false,Bool.false_eq_true,if_false];exact wpAny_pure (h p hp hs)
theorem o7{l:Addr}{vs:List Value}{ks:List (List Int)}{Q:Value->Shared->Prop}(hl:s.heap.IsList l vs.toArray)(ht:TupsAt s.heap vs ks)(hne:∀k∈ks,k≠[])(h64:vs.length<64)
  (h:∀p:Array Nat,Pm vs.length p->SU (rk ks) p vs.length->Q (.ref (s.heap.objs.size+1)) { s with heap:=sortedAll s.heap vs (List.toArray (p.toList.map fun i=>vs.getD i Value.none)) }):
  wpAny (model prog w) A (call (.builtin "sorted") [.ref l]) Q E s:=by
 refine Calls.call_function_entry kind_sorted plain_sorted entry_sorted (args_sorted1 _) ?_;unfold Builtin.«sorted»;refine wpAny_bind (m:=checkCount "sorted" 1 1 _) (wpAny_pure ?_);refine wpAny_bind (collect_list hl ?_ (by rw [sizeLine_eq];lia))
 refine wpAny_bind (wpAny_newList ?_ (by rw [sizeLine_eq];lia))
 have hsz:((s.heap.push (seqObj "list" #[] 0)).update s.heap.objs.size (Obj.mapSeq (·++vs.toArray))).objs.size=s.heap.objs.size+1:=by
  rw [Heap.size_update,size_push']
 have hoL:(((s.heap.push (seqObj "list" #[] 0)).update s.heap.objs.size (Obj.mapSeq (·++vs.toArray))).push (seqObj "list" vs.toArray 0)).get? (s.heap.objs.size+1)=some (seqObj "list" vs.toArray 0):=by
  rw [<- hsz];exact Heap.get?_push_size _ rfl
 have kL:TupsAt (((s.heap.push (seqObj "list" #[] 0)).update s.heap.objs.size (Obj.mapSeq (·++vs.toArray))).push (seqObj "list" vs.toArray 0)) vs ks:=ht.keep fun b o e _=>
  Heap.get?_push_of_some _ ((Heap.SameBut.update ..).extBut b o (Nat.ne_of_lt (Heap.lt_size e)) (Heap.get?_push_of_some _ e))
 show wpAny _ _ _ _ _ { s with heap:=((s.heap.push (seqObj "list" #[] 0)).update s.heap.objs.size (Obj.mapSeq (·++vs.toArray))).push (seqObj "list" vs.toArray 0) };rw [hsz];refine wpAny_bind (wpAny_holding (wpAny_call_entry slot_list_sort ⟨_,hoL,rfl⟩ entry_list_sort (kh hoL kL hne h64 fun p a1 a2=>⟨_,rfl,?_⟩) (args_list_sort _)));exact wpAny_pure ⟨_,rfl,h p a1 a2⟩
end
end LS
namespace L3
open PySem L2 LS
def cg(k:List Int):D:=.tup (k.map D.int)
def kO:List D->Option (List (List Int))
 |[]=>some []
 |.tup xs::ds=>match eh xs,kO ds with
  |some k,some ks=>some (k::ks)
  |_,_=>none
 |_=>none
theorem iX:∀{xs:List D} {k:List Int},eh xs=some k->xs=k.map D.int
 |[],k,h=>by cases h;rfl
 |d::xs,k,h=>by
  cases d with
  |int i=>
   simp only [eh] at h
   split at h
   ·rename_i e;cases h;rw [iX e];rfl
   ·cases h
  |_=>cases h
theorem jW:∀{ds:List D} {ks:List (List Int)},kO ds=some ks->ds=ks.map cg
 |[],ks,h=>by cases h;rfl
 |d::ds,ks,h=>by
  cases d with
  |tup xs=>
   simp only [kO] at h
   split at h
   ·rename_i e1 e2;cases h;rw [iX e1,jW e2];rfl
   ·cases h
  |_=>cases h
theorem AJ{ks:List (List Int)}{p:Array Nat}(hp:Pm ks.length p)(hs:SU (rk ks) p ks.length):p.toList.map (fun i=>ks.getD i [])=wA j_ ks:=by
 refine vf j_ ?_ ?_
 ·refine List.pairwise_iff_getElem.mpr fun i j hi hj hij=>?_
  have sz:=hp.size;simp only [List.length_map,Array.length_toList] at hi hj;simp only [List.getElem_map,Array.getElem_toList];have h1:=hs i j (Nat.le_of_lt hij) (by lia)
  unfold Kp at h1;have e1:p.getD i 0=p[i]:=by simp [hi]
  have e2:p.getD j 0=p[j]:=by simp [hj]
  rw [e1,e2] at h1;have hl:p[j]<ks.length:=by
   have:=hp.lt (i:=j) (by lia)
   rw [e2] at this;exact this
  show gP _ _=false;rw [<- zx hl];exact decide_eq_false (by lia)
 ·have:=List.Perm.map (fun i=>ks.getD i []) hp
  have e:(List.range ks.length).map (fun i=>ks.getD i [])=ks:=by
   refine List.ext_getElem (by simp) fun i h1 h2=>?_
   simp [h2]
  rw [e] at this;exact this
section
variable {X:Cx}{B:Bd}
theorem qu{pins:List (Addr×Obj)}{σ:L2.St}{H:Hp}{s:Shared}(I:Inv X pins σ H s):∀{ks:List (List Int)} {vs:List V} {its:List Value},Rps X.K H (ks.map cg) vs->Vals vs its->TupsAt s.heap its ks
 |[],_,_,r,v=>by
  cases r;cases v;exact .nil
 |k::ks,_,_,r,v=>by
  obtain ⟨x,xs,rfl,a,b⟩:=r;cases v with
  |cons rx v=>
   obtain ⟨p,ws,rfl,ht,rw'⟩:=a;cases rx;obtain ⟨us,ru,hi,hz⟩:=I.tuple ht.sq;obtain ⟨o,e,hc,n,hd⟩:=hi;have e2:=og rw' (kg k);subst e2;exact .cons e hc hd (mI ru) (qu I b v)
theorem ni{K:W.Frag}{H:Hp}{ks:List (List Int)}{vs:List V}(r:Rps K H (ks.map cg) vs):∀l:List Nat,(∀i∈l,i<ks.length)->Rps K H ((l.map fun i=>ks.getD i []).map cg) (l.map fun i=>vs.getD i .non)
 |[],_=>rfl
 |i::l,h=>by
  have hi:=h i (by simp)
  have e:(ks.map cg)[i]?=some (cg (ks.getD i [])):=by rw [List.getElem?_map,List.getElem?_eq_getElem hi];simp [hi]
  obtain ⟨v,hv,rv⟩:=r.get e;have e2:vs.getD i .non=v:=by rw [List.getD_eq_getElem?_getD,hv];rfl
  rw [List.map_cons,List.map_cons,List.map_cons,e2];exact .cons rv (ni r l fun j hj=>h j (List.mem_cons_of_mem _ hj))
theorem kP{vs:List V}{its:List Value}(r:Vals vs its):∀l:List Nat,(∀i∈l,i<vs.length)->Vals (l.map fun i=>vs.getD i .non) (l.map fun i=>its.getD i Value.none)
 |[],_=>.nil
 |i::l,h=>by
  have hi:=h i (by simp)
  obtain ⟨v,hv,rv⟩:=r.get (List.getElem?_eq_getElem hi);have e1:vs.getD i .non=vs[i]:=by simp [hi]
  have e2:its.getD i Value.none=v:=by rw [List.getD_eq_getElem?_getD,hv];rfl
  rw [List.map_cons,List.map_cons,e1,e2];exact .cons rv (kP r l fun j hj=>h j (List.mem_cons_of_mem _ hj))
def eW:sX:=fun ds M Q=>match ds with
 |[d]=>match fH M d with
  |some xs=>match kO xs with
   |some ks=>ks.length<64/\(∀k∈ks,k≠[])/\∀p,M p=none->Q (.ref p) (M.upd p (.lst ((wA j_ ks).map cg)))
   |none=>False
  |none=>False
 |_=>False
theorem h_:dq X (.builtin "sorted") (liftC X eW):=by
 intro pins s σ H xs us Q I r h;obtain ⟨ds,M,QQ,rh,rp,h,up⟩:=h;unfold eW at h
 split at h
 ·obtain ⟨v,rfl,rv⟩:=iP (ds:=[]) rp
  split at h
  ·rename_i ys e
   obtain ⟨q,vs,rfl,hq,rr⟩:=dW rh rv e
   split at h
   ·rename_i ks es
    obtain ⟨h64,hne,h⟩:=h;have:=jW es;subst this;obtain ⟨u,rfl,ru⟩:=iT r;cases ru;obtain ⟨its,r',pl,hz⟩:=I.list (.inl hq);have hlen:=r'.length;have hl2:=rr.length;rw [List.length_map] at hl2;have ta:=qu I rr r';have tl:=ta.len;refine o7 pl.isList ta hne (by lia) fun p hp hs=>?_
    rw [<- tl] at hp hs;have ea:=AJ hp hs;obtain ⟨k,hk⟩:=PyProof.Rows.sortedAll_at s.heap its (List.toArray (p.toList.map fun i=>its.getD i Value.none));have hn:H (s.heap.objs.size+1)=none:=I.hok.fresh (Nat.le_succ _);have hin:∀i∈p.toList,i<ks.length:=fun i hi=>List.mem_range.mp ((List.Perm.mem_iff hp).mp hi);have rq:=ni rr p.toList hin;rw [ea] at rq;have vq:=kP r' p.toList fun i hi=>by have:=hin i hi;lia
    refine ⟨.ref (s.heap.objs.size+1),_,I.laid (t':=s.toks) (o:=.lst (p.toList.map fun i=>vs.getD i .non)) (fun b o z=>PyProof.Rows.sortedAll_old z) (Nat.le_succ _) (show ObjOk X.prog X.w _ _ _ (.lst _) from ⟨?_,_,k,vq,hk⟩),rfl,?_⟩
    ·rw [List.length_map,Array.length_toList,hp.size];exact Nat.le_trans (Nat.le_of_lt h64) (by decide)
    ·exact up _ _ (h _ (rh.fresh hn)) _ _ (rh.put (by rw [hn];trivial) ⟨_,upd_same,rq.mono (Imm.new hn)⟩) (Frm.put (.inl hn)) rfl
   ·exact h.elim
  ·exact h.elim
 ·exact h.elim
end
end L3
namespace HT
open PySem PyProof.Rows
section
variable {prog:Program}{w:World}{A:Around}{E:Value->Shared->Prop}{s:Shared}
theorem iq{sl:Addr}{t:Tok}{n:Nat}{Q:Int×Int×Nat->Shared->Prop}(hs:s.heap.IsSliceOf sl .none .none (.int (-1) t))(h:Q (((n:Nat):Int)-1,-1,n) s):wpAny (model prog w) A (Builtin.Slice.sliceApplied (.ref sl) (pure (n:Int))) Q E s:=by
 obtain ⟨os,hos,hcs,hds⟩:=id hs;unfold Builtin.Slice.sliceApplied Builtin.Slice.sliceFields;refine wpAny_bind (wpAny_bind (wpAny_field hos hds (x:=.none) rfl (wpAny_bind (wpAny_field hos hds (x:=.none) rfl (wpAny_bind (wpAny_field hos hds (x:=.int (-1) t) rfl (wpAny_pure ?_)))))));refine wpAny_bind (slicePart_int ?_);show wpAny _ _ (if ((-1:Int)==0)=true then _ else _) _ _ s
 rw [if_neg (by decide)]
 refine wpAny_bind (slicePart_none (wpAny_bind (slicePart_none (wpAny_bind (wpAny_pure ?_)))));show wpAny _ _ (match Builtin.Slice.sliceAdjust none none (-1) (n:Int) with|(lo,hi)=>pure (lo,(-1:Int),Builtin.Slice.slicePlaces lo hi (-1))) _ _ s
 have e1:Builtin.Slice.sliceAdjust none none (-1) (n:Int)=(((n:Nat):Int)-1,-1):=rfl;rw [e1];show wpAny _ _ (pure (((n:Nat):Int)-1,(-1:Int),Builtin.Slice.slicePlaces (((n:Nat):Int)-1) (-1) (-1))) _ _ s;have e2:Builtin.Slice.slicePlaces (((n:Nat):Int)-1) (-1) (-1)=n:=by
  unfold Builtin.Slice.slicePlaces;rw [if_neg (by decide)]
  by_cases c:((n:Nat):Int)-1 > -1
  ·rw [if_pos c]
   have:((n:Nat):Int)-1 - -1-1=(n:Int)-1:=by lia
   rw [this];simp
  ·rw [if_neg c]
   lia
 rw [e2];exact wpAny_pure h
theorem kd(xs:Array Value):∀k:Nat,k<=xs.size->((List.range k).filterMap fun (m:Nat)=>xs[(((xs.size:Nat):Int)-1+(m:Int)*-1).toNat]?)=xs.toList.reverse.take k
 |0,_=>by simp
 |k+1,h=>by
  rw [List.range_succ,List.filterMap_append,kd xs k (by lia),List.take_add_one]
  congr 1;have e:(((xs.size:Nat):Int)-1+(k:Int)*-1).toNat=xs.size-1-k:=by lia
  have hlt:xs.size-1-k<xs.size:=by lia
  simp only [List.filterMap_cons,List.filterMap_nil,e];rw [List.getElem?_reverse (by simpa using (by lia:k<xs.size)),Array.getElem?_eq_getElem hlt]
  simp [hlt]
theorem gN{t sl:Addr}{items:Array Value}{u:Tok}{Q:Value->Shared->Prop}(ht:IsTup s.heap t items)(hs:s.heap.IsSliceOf sl .none .none (.int (-1) u))
  (h:Q (.ref s.heap.objs.size) { s with heap:=s.heap.push { cls:=.type "tuple",data:=.seq items.toList.reverse.toArray } })
  (hsz:items.size<=sizeLine):wpAny (model prog w) A (getItem (.ref t) (.ref sl)) Q E s:=by
 have htake:sizeOk (.seq items.toList.reverse.toArray):=by
  show items.toList.reverse.toArray.size<=sizeLine;rw [List.size_toArray,List.length_reverse,Array.length_toList];exact hsz
 obtain ⟨os,hos,hcs,hds⟩:=id hs;have hTs:s.TypeIs (.ref sl) "slice":=⟨os,hos,hcs⟩;unfold getItem
 try with_reducible refine wpAny_holding ?_
 first|refine wpAny_bind (wpAny_pure ?_)|skip
 refine wpAny_bind (wpAny_sequenceKey ht.typeIs (by decide) ?_)
 refine wpAny_bind (wpAny_callSpecial?_slot (name:=Str.ofString "__getitem__") ht.typeIs PyProof.Rows.slot_tuple_getitem
  (wpAny_call_entry PyProof.Rows.slot_tuple_getitem ht.typeIs entry_tuple_getitem ?_ (args_tuple_getitem _ _)))
 show wpAny _ _ (Builtin.Tuple.tupleItemsOf (.ref t) >>= _) _ _ s;refine wpAny_bind (tupleItemsOf_ ht ?_);refine wpAny_bind (wpAny_typeOf hTs ?_);rw [if_pos (by decide)]
 refine wpAny_bind (iq hs ?_);show wpAny _ _ (if ((((items.size:Nat):Int)-1)==0&&(-1:Int)==1&&items.size==items.size)=true then _ else _) _ _ s
 rw [if_neg (by simp),kd _ _ (Nat.le_refl _),List.take_of_length_le (by simp)]
 first
  |exact wpAny_bind (m:=Builtin.Tuple.tupleExact _) (wpAny_newObj_type (wpAny_pure ⟨_,rfl,wpAny_pure h⟩) htake)
  |exact wpAny_bind (m:=Builtin.Tuple.tupleExact _) (wpAny_newObj_type (wpAny_bind (wpAny_pure (wpAny_pure ⟨_,rfl,wpAny_pure h⟩))) htake)
  |exact wpAny_bind (wpAny_bind (m:=Builtin.Tuple.tupleExact _) (wpAny_newObj_type (wpAny_pure (wpAny_pure ⟨_,rfl,wpAny_pure h⟩)) htake))
  |exact wpAny_bind (wpAny_bind (m:=Builtin.Tuple.tupleExact _) (wpAny_newObj_type (wpAny_pure ⟨_,rfl,wpAny_pure h⟩) htake))
end
end HT
namespace L2
open PySem PySem.Spec PyProof.Rows
section
variable {X:Cx}{e:Expr}{te:TE}{st:Expr}{ts:TO}{p2 pos:Pos}
def Bx(K:W.Frag)(te:TE)(ts:TO):TE:=fun σ H Q=>te σ H fun x H1=>ts σ H1 fun o H2=>o=some (-1)/\∃a xs,x=.ref a/\iB K H2 a xs/\∀p,H2 p=none->Q (.ref p) (upd H2 p (.tup xs.reverse))
theorem vd(he:PE X e te)(hs:PO X (some st) ts):PE X (.Subscript e (.Slice none none (some st) p2) pos) (Bx X.K te ts):=by
 intro pins s σ H Q I h;refine Subscript_ (cL (he pins s σ H _ I h) fun v s1 ⟨x,H1,I1,r1,q1⟩=>?_);refine wpAny_Slice ?_;rw [evalPart_none];refine wpAny_pure ?_;refine wpAny_pure ?_;refine cL (hs pins s1 σ H1 _ I1 q1) fun vs s3 ⟨o,H3,I3,ps,q3⟩=>?_;obtain ⟨rfl,a,xs,rfl,hq,q⟩:=q3;cases ps with
 |int _ u=>
 have I4:Inv X pins σ H3 { s3 with heap:=s3.heap.push { cls:=.type "slice",data:=.fields #[.none,.none,.int (-1) u] } }:=I3.kept (t':=s3.toks) fun b ob q=>Heap.get?_push_of_some _ q;cases r1;obtain ⟨its,r,ht,hz⟩:=I4.tuple hq;have hlen:=r.length;show wpAny (model X.prog X.w) X.A (subscriptTail e (.Slice none none (some st) p2) (.ref a) (.ref s3.heap.objs.size)) (EP X pins σ Q) X.xe { s3 with heap:=s3.heap.push { cls:=.type "slice",data:=.fields #[.none,.none,.int (-1) u] } };refine tail_any (ops:=[.ref a,.ref s3.heap.objs.size]) ht.typeIs PyProof.Rows.slot_tuple_getitem.lookup (HT.gN ht (Heap.IsSliceOf.new ..) ?_ (by rw [List.size_toArray];lia)) (by with_unfolding_all rfl)
 refine ⟨.ref _,_,I4.laid (t':=s3.toks) (o:=.tup xs.reverse) (fun b ob q=>Heap.get?_push_of_some _ q) (Nat.le_refl _) ?_,rfl,q _ (I4.hok.fresh (Nat.le_refl _))⟩;exact ⟨by rw [List.length_reverse];exact hz,its.reverse,r.reverse,⟨_,Heap.get?_push_size _ rfl,⟨rfl,0,by simp⟩,rfl⟩⟩
end
end L2
namespace L3
open PySem L2
section
variable {X:Cx}{B:Bd}{e:Expr}{te:cj}{st:Expr}{ts:wU}{pos p2:Pos}
def vj(te:cj)(ts:wU):cj:=fun δ M Q=>te δ M fun x M1=>ts δ M1 fun o M2=>o=some (-1)/\match x with
 |.tup xs=>Q (.tup xs.reverse) M2
 |_=>False
theorem vt(he:DE X B e te)(hs:DO X B (some st) ts):DE X B (.Subscript e (.Slice none none (some st) p2) pos) (vj te ts):=by
 refine bP (vd he hs) ?_
 rintro σ H Q ⟨δ,M,QQ,s,h,u⟩
 refine ⟨δ,M,_,s,h,fun x M1 h1 v1 H1 rh1 i1 r1=>?_⟩;refine ⟨δ,M1,_,s.go rh1 i1,h1,fun o M2 h2 H2 rh2 i2=>?_⟩;obtain ⟨rfl,h2⟩:=h2
 split at h2
 ·obtain ⟨a,vs,rfl,ht,r⟩:=r1.mf rh1 i2
  refine ⟨rfl,a,vs,rfl,ht.sq,fun p hp=>?_⟩;exact (u.go (i1.trans i2)) _ M2 h2 _ _ (rh2.new hp) (Frm.new hp) ⟨p,_,rfl,upd_same,r.reverse.mono (Imm.new hp)⟩
 ·exact h2.elim
end
end L3
namespace Tw
open PySem L2 L3
def i_(i:Nat):Stmt:=PySem.Challenge.pw_twinstride_k80_unlike_rows.main.body.getD i (.Pass ⟨0,0,0,0⟩)
abbrev Bh:Stmt:=i_ 13
abbrev B6:Stmt:=i_ 15
abbrev va:Stmt:=i_ 16
abbrev Az:Stmt:=i_ 17
abbrev Bt:Stmt:=i_ 18
abbrev tM:Stmt:=i_ 19
abbrev Bz:Stmt:=i_ 21
abbrev tR:Stmt:=i_ 22
abbrev ur:Stmt:=i_ 23
abbrev vw:Stmt:=i_ 24
abbrev ue:Stmt:=i_ 25
abbrev tf:Stmt:=i_ 26
abbrev ul:Stmt:=i_ 27
abbrev uQ:Stmt:=i_ 28
abbrev Am:Stmt:=i_ 29
abbrev zO:Stmt:=i_ 30
abbrev uW:Stmt:=i_ 31
abbrev tQ:Stmt:=i_ 32
abbrev ui:Stmt:=i_ 33
abbrev uq:Stmt:=i_ 34
abbrev uP:Stmt:=i_ 35
abbrev uR:Stmt:=i_ 36
abbrev AH:Stmt:=i_ 37
abbrev zH:Stmt:=i_ 38
abbrev zJ:Stmt:=i_ 39
abbrev gR:Stmt:=i_ 40
theorem C_:FnScope ["row"] ["row"] (aV Bh):=⟨rfl,rfl,rfl,by decide +kernel,rfl,by decide +kernel,by decide +kernel⟩
theorem sc_q9:FnScope ["one","other","pairs"] ["one","other"] (aV B6):=⟨rfl,rfl,rfl,by decide +kernel,rfl,by decide +kernel,by decide +kernel⟩
theorem sc_q24:FnScope ["rows","others","place","told","j","row"] ["rows","others","place"] (aV va):=⟨rfl,rfl,rfl,by decide +kernel,rfl,by decide +kernel,by decide +kernel⟩
theorem CZ:FnScope ["row","other"] ["row","other"] (aV Az):=⟨rfl,rfl,rfl,by decide +kernel,rfl,by decide +kernel,by decide +kernel⟩
theorem sc_q4:FnScope ["row","other","place","told","branch","rows","others"] ["row","other","place"] (aV Bt):=⟨rfl,rfl,rfl,by decide +kernel,rfl,by decide +kernel,by decide +kernel⟩
theorem A0:FnScope ["row"] ["row"] (aV tM):=⟨rfl,rfl,rfl,by decide +kernel,rfl,by decide +kernel,by decide +kernel⟩
theorem sc_q7:FnScope ["cell","turn","one"] ["cell","turn"] (aV Bz):=⟨rfl,rfl,rfl,by decide +kernel,rfl,by decide +kernel,by decide +kernel⟩
theorem sc_q23:FnScope ["script","seed","cell"] ["script"] (aV tR):=⟨rfl,rfl,rfl,by decide +kernel,rfl,by decide +kernel,by decide +kernel⟩
theorem sc_q17:FnScope ["pot","many","cell","found"] ["pot","many"] (aV ur):=⟨rfl,rfl,rfl,by decide +kernel,rfl,by decide +kernel,by decide +kernel⟩
theorem sc_q10:FnScope ["pot","many","turn","names","k","sign"] ["pot","many"] (aV vw):=⟨rfl,rfl,rfl,by decide +kernel,rfl,by decide +kernel,by decide +kernel⟩
theorem sc_q21:FnScope ["pot","told","m","names","many","ways","way","x","y"] ["pot","told"] (aV ue):=⟨rfl,rfl,rfl,by decide +kernel,rfl,by decide +kernel,by decide +kernel⟩
theorem sc_q13:FnScope ["pot","told","room","deep","m","names","many","x","first","way","y"] ["pot","told","room","deep"] (aV tf):=⟨rfl,rfl,rfl,by decide +kernel,rfl,by decide +kernel,by decide +kernel⟩
theorem sc_q18:FnScope ["pot","told","room","deep","most","rows","k"] ["pot","told","room","deep","most"] (aV ul):=⟨rfl,rfl,rfl,by decide +kernel,rfl,by decide +kernel,by decide +kernel⟩
theorem sc_q19:FnScope ["pot","most","m","names","many","rows"] ["pot","most"] (aV uQ):=⟨rfl,rfl,rfl,by decide +kernel,rfl,by decide +kernel,by decide +kernel⟩
theorem sc_q6:FnScope ["rows","made","row"] ["rows"] (aV Am):=⟨rfl,rfl,rfl,by decide +kernel,rfl,by decide +kernel,by decide +kernel⟩
theorem sc_q2:FnScope ["pot","work","rows","place","made","at","row","here","second","first","inner","other"] ["pot","work","rows","place"] (aV zO):=⟨rfl,rfl,rfl,by decide +kernel,rfl,by decide +kernel,by decide +kernel⟩
theorem sc_q15:FnScope ["pot","most_rows","most_unlike","plan","work","rows"] ["pot","most_rows","most_unlike"] (aV uW):=⟨rfl,rfl,rfl,by decide +kernel,rfl,by decide +kernel,by decide +kernel⟩
theorem sc_q16:FnScope ["flags","names"] ["flags"] (aV tQ):=⟨rfl,rfl,rfl,by decide +kernel,rfl,by decide +kernel,by decide +kernel⟩
theorem sc_q11:FnScope ["e","found"] ["e"] (aV ui):=⟨rfl,rfl,rfl,by decide +kernel,rfl,by decide +kernel,by decide +kernel⟩
theorem AC:FnScope ["found","due"] ["found","due"] (aV uq):=⟨rfl,rfl,rfl,by decide +kernel,rfl,by decide +kernel,by decide +kernel⟩
theorem sc_q14:FnScope ["one","other","found","kinds","e"] ["one","other"] (aV uP):=⟨rfl,rfl,rfl,by decide +kernel,rfl,by decide +kernel,by decide +kernel⟩
theorem sc_q20:FnScope ["pot","plan","m","names","many","rows","name","way","at"] ["pot","plan"] (aV uR):=⟨rfl,rfl,rfl,by decide +kernel,rfl,by decide +kernel,by decide +kernel⟩
theorem sc_q1:FnScope ["pot","plan","m","names","many","rows","name","inner","some","one","other","likewise"] ["pot","plan"] (aV AH):=⟨rfl,rfl,rfl,by decide +kernel,rfl,by decide +kernel,by decide +kernel⟩
theorem sc_q5:FnScope ["pot","pair","news","deep","rows","others","at","one","other","k","first","second"] ["pot","pair","news","deep"] (aV zH):=⟨rfl,rfl,rfl,by decide +kernel,rfl,by decide +kernel,by decide +kernel⟩
theorem sc_q3:FnScope ["pot","one","other","x","y","odd","news","rows","others"] ["pot","one","other"] (aV zJ):=⟨rfl,rfl,rfl,by decide +kernel,rfl,by decide +kernel,by decide +kernel⟩
theorem sc_law:FnScope ["script","pot","one","other","places","found","turn","bent","pair","told","first","second","likewise"] ["script"] (aV gR):=⟨rfl,rfl,rfl,by decide +kernel,rfl,by decide +kernel,by decide +kernel⟩
end Tw
namespace Tw
open PySem L2 L3
set_option genInjectivity false in
structure Ad where
 C_Dry:Addr
 C_NoBuild:Addr
 C_NoCase:Addr
 C_NoLine:Addr
 C_NoMoment:Addr
 C_NoPlace:Addr
 C_NoRow:Addr
 C_NoText:Addr
 C_StrideError:Addr
 C_TooBig:Addr
 C_TooMany:Addr
 a_q8:Addr
 d_q8:FuncData
 a_q9:Addr
 d_q9:FuncData
 a_q24:Addr
 d_q24:FuncData
 a_q0:Addr
 d_q0:FuncData
 a_q4:Addr
 d_q4:FuncData
 a_q22:Addr
 d_q22:FuncData
 a_q7:Addr
 d_q7:FuncData
 a_q23:Addr
 d_q23:FuncData
 a_q17:Addr
 d_q17:FuncData
 a_q10:Addr
 d_q10:FuncData
 a_q21:Addr
 d_q21:FuncData
 a_q13:Addr
 d_q13:FuncData
 a_q18:Addr
 d_q18:FuncData
 a_q19:Addr
 d_q19:FuncData
 a_q6:Addr
 d_q6:FuncData
 a_q2:Addr
 d_q2:FuncData
 a_q15:Addr
 d_q15:FuncData
 a_q16:Addr
 d_q16:FuncData
 a_q11:Addr
 d_q11:FuncData
 a_q12:Addr
 d_q12:FuncData
 a_q14:Addr
 d_q14:FuncData
 a_q20:Addr
 d_q20:FuncData
 a_q1:Addr
 d_q1:FuncData
 a_q5:Addr
 d_q5:FuncData
 a_q3:Addr
 d_q3:FuncData
 a_law:Addr
 d_law:FuncData
def pF(ad:Ad)(EE:DX):aZ:=
 (bC (bT (ac (aA bB (ae 0) (dC (.int 2))) (ac (aA bB (ae 0) (dC (.int 3))) ai))))
def vR(ad:Ad)(EE:DX):aZ:=
 (aC (bz (aB (aA dN (aA bB (ae 0) (dC (.int 0))) (dC (.str "again")))) (bC (bT (ac (aA bB (ae 0) (dC (.int 2))) ai))) bg)
  (bC (bT ai)))
def vb(ad:Ad)(EE:DX):aZ:=
 (aC (bz (aB (aA dN (aA bB (ae 0) (dC (.int 0))) (dC (.str "if")))) (pF ad EE) bg)
  (vR ad EE))
def lK(ad:Ad):Sd:=ck ["row"] (vb ad)
theorem u_q8{ad:Ad}{n:Nat}{x0:D}{M:Mem}{Q:DK}{E:DX}:lK ad [x0] M Q E=vb ad (bV E) { nx:=fun _ M'=>drp Q .non M',rt:=drp Q } [some x0] M:=rfl
def nK(ad:Ad)(EE:DX):aZ:=
 (bC (tm (aB (aA dN (aA bB (ae 0) (dC (.int 0))) (dC (.str "if")))) (bT (ac (dC (.int 1)) (ac (dC (.int 0)) ai))) (bT (ac (dC (.int 0)) ai))))
def qT(ad:Ad):Sd:=ck ["row"] (nK ad)
theorem CH{ad:Ad}{n:Nat}{x0:D}{M:Mem}{Q:DK}{E:DX}:qT ad [x0] M Q E=nK ad (bV E) { nx:=fun _ M'=>drp Q .non M',rt:=drp Q } [some x0] M:=rfl
def oT(ad:Ad)(EE:DX):aZ:=
 (bz (dA (kI (dM (au (ax (lK ad) EE 1 (ac (ae 0) ai)))) (dM (au (ax (lK ad) EE 1 (ac (ae 1) ai))))) (aB (aA fZ (au (dw (ae 0) aD (bi (dC (.int 2))))) (au (dw (ae 1) aD (bi (dC (.int 2)))))))) (gI ad.C_NoBuild EE) bg)
def vN(ad:Ad)(EE:DX):aZ:=
 (aC (bz (kI (aB (aA dN (aA bB (ae 0) (dC (.int 0))) (dC (.str "pick")))) (aB (aA dN (aA bB (ae 1) (dC (.int 0))) (dC (.str "pick"))))) (gI ad.C_NoBuild EE) bg)
  (oT ad EE))
def xZ(ad:Ad):Sd:=ck ["row","other"] (vN ad)
theorem u_q0{ad:Ad}{n:Nat}{x0 x1:D}{M:Mem}{Q:DK}{E:DX}:xZ ad [x0,x1] M Q E=vN ad (bV E) { nx:=fun _ M'=>drp Q .non M',rt:=drp Q } [some x0,some x1] M:=rfl
def lD(ad:Ad)(S_q24 S_q4:Sd)(EE:DX):aZ:=
 (cD (iA "list" gg (ae 3) (ac (au (ax S_q4 EE 3 (ac (ae 5) (ac (aA bB (ae 1) (ae 4)) (ac (aA bD (ae 2) (aU (ac (ae 4) ai))) ai))))) ai)))
def lU(ad:Ad)(S_q24 S_q4:Sd)(EE:DX):aZ:=
 (cD (iA "list" bZ (ae 3) (ac (aU (ac (aA bD (ae 2) (aU (ac (ae 4) ai))) (ac (ae 5) (ac (aA bB (ae 1) (ae 4)) ai)))) ai)))
def lz(ad:Ad)(S_q24 S_q4:Sd)(EE:DX):aZ:=
 (bz (dM (au (ax (lK ad) EE 1 (ac (ae 5) ai)))) (lD ad S_q24 S_q4 EE) (lU ad S_q24 S_q4 EE))
def lw(ad:Ad)(S_q24 S_q4:Sd)(EE:DX):aZ:=
 (aC (cD (ax (xZ ad) EE 2 (ac (ae 5) (ac (aA bB (ae 1) (ae 4)) ai))))
   (lz ad S_q24 S_q4 EE))
def lG(ad:Ad)(S_q24 S_q4:Sd)(EE:DX):aZ:=
 (aC (fo (mC (ac (ae 0) ai)) (dl 2 (bp (am 4) (bp (am 5) dj))) (lw ad S_q24 S_q4 EE))
  (bC (ae 3)))
def nk(ad:Ad)(S_q24 S_q4:Sd)(EE:DX):aZ:=
 (aC (bz (aB (aA fZ (c_ cO (ac (ae 0) ai)) (c_ cO (ac (ae 1) ai)))) (gI ad.C_NoBuild EE) bg)
  (aC (aK (bT ai) (am 3))
  (lG ad S_q24 S_q4 EE)))
def m5(ad:Ad)(S_q24 S_q4:Sd)(EE:DX):aZ:=
 (cD (iA "list" gg (ae 3) (ac (au (ax S_q24 EE 3 (ac (ae 5) (ac (ae 6) (ac (aA bD (ae 2) (aU (ac (ae 4) ai))) ai))))) ai)))
def uk(ad:Ad)(S_q24 S_q4:Sd)(EE:DX):aZ:=
 (aC (fo (tj (ac (au (ax (qT ad) EE 1 (ac (ae 0) ai))) (ac (au (ax (lK ad) EE 1 (ac (ae 0) ai))) (ac (au (ax (lK ad) EE 1 (ac (ae 1) ai))) ai)))) (dl 3 (bp (am 4) (bp (am 5) (bp (am 6) dj)))) (m5 ad S_q24 S_q4 EE))
  (bC (ae 3)))
def vS(ad:Ad)(S_q24 S_q4:Sd)(EE:DX):aZ:=
 (aC (aK (bT ai) (am 3))
  (uk ad S_q24 S_q4 EE))
mutual
def S_q24(ad:Ad):Nat->Sd
 |0=>fun _ _ _ _=>False
 |n+1=>ck ["rows","others","place","told","j","row"] (nk ad (S_q24 ad n) (S_q4 ad n))
def S_q4(ad:Ad):Nat->Sd
 |0=>fun _ _ _ _=>False
 |n+1=>ck ["row","other","place","told","branch","rows","others"] (vS ad (S_q24 ad n) (S_q4 ad n))
end
theorem BZ{ad:Ad}{n:Nat}{x0 x1 x2:D}{M:Mem}{Q:DK}{E:DX}:S_q24 ad (n+1) [x0,x1,x2] M Q E=nk ad (S_q24 ad n) (S_q4 ad n) (bV E) { nx:=fun _ M'=>drp Q .non M',rt:=drp Q } [some x0,some x1,some x2,none,none,none] M:=rfl
theorem u_q4{ad:Ad}{n:Nat}{x0 x1 x2:D}{M:Mem}{Q:DK}{E:DX}:S_q4 ad (n+1) [x0,x1,x2] M Q E=vS ad (S_q24 ad n) (S_q4 ad n) (bV E) { nx:=fun _ M'=>drp Q .non M',rt:=drp Q } [some x0,some x1,some x2,none,none,none,none] M:=rfl
def pq(ad:Ad)(EE:DX):aZ:=
 (bC (c_ eW (ac (au (dE (ft (ae 2)) ["place","row","beside"] [] (dl 3 (bp (am 0) (bp (am 1) (bp (am 2) dj)))) (aB (aA fZ (ae 1) (ae 2))) (ae 0))) ai)))
def vO(ad:Ad)(EE:DX):aZ:=
 (aC (aK (au (ax (S_q24 ad 24) EE 3 (ac (aA bB (ae 0) (dC (.int 3))) (ac (aA bB (ae 1) (dC (.int 3))) (ac (aU ai) ai))))) (am 2))
  (pq ad EE))
def sB(ad:Ad)(EE:DX):aZ:=
 (aC (bz (kI (aB (aA fZ (au (dw (ae 0) aD (bi (dC (.int 3))))) (au (dw (ae 1) aD (bi (dC (.int 3))))))) (aB (aA fZ (aA bB (ae 0) (dC (.int 4))) (aA bB (ae 1) (dC (.int 4)))))) (gI ad.C_NoBuild EE) bg)
  (vO ad EE))
def j5(ad:Ad):Sd:=ck ["one","other","pairs"] (sB ad)
theorem Cy{ad:Ad}{n:Nat}{x0 x1:D}{M:Mem}{Q:DK}{E:DX}:j5 ad [x0,x1] M Q E=sB ad (bV E) { nx:=fun _ M'=>drp Q .non M',rt:=drp Q } [some x0,some x1,none] M:=rfl
def Bo(ad:Ad)(EE:DX):aZ:=
 (aC (aK (aA jY (aA nS (aA CF (ae 2) (aA ng (ae 2) (dC (.int 2147483648)))) (dC (.int 2685821657736338717))) (dC (.int 18446744073709551616))) (am 2))
  (bC (aA ng (ae 2) (dC (.int 1048576)))))
def uw(ad:Ad)(EE:DX):aZ:=
 (aC (aK (aA jY (aA bD (aA bD (aA nS (ae 0) (dC (.int 6364136223846793005))) (aA nS (ae 1) (dC (.int 1442695040888963407)))) (dC (.int 97))) (dC (.int 18446744073709551616))) (am 2))
  (Bo ad EE))
def p8(ad:Ad):Sd:=ck ["cell","turn","one"] (uw ad)
theorem u_q7{ad:Ad}{n:Nat}{x0 x1:D}{M:Mem}{Q:DK}{E:DX}:p8 ad [x0,x1] M Q E=uw ad (bV E) { nx:=fun _ M'=>drp Q .non M',rt:=drp Q } [some x0,some x1,none] M:=rfl
def wE(ad:Ad)(EE:DX):aZ:=
 (aK (aA jY (aA bD (aA nS (ae 1) (dC (.int 1000003))) (ae 2)) (dC (.int 18446744073709551616))) (am 1))
def yn(ad:Ad)(EE:DX):aZ:=
 (bC (bT (ac (c_ uz (ac (au (dw (ae 0) aD (bi (dC (.int 63))))) ai)) (ac (dC (.int 0)) (ac (dC (.int 0)) (ac (ae 1) ai))))))
def yY(ad:Ad)(EE:DX):aZ:=
 (aC (fo (ft (au (dw (ae 0) aD (bi (dC (.int 63)))))) (am 2) (wE ad EE))
  (yn ad EE))
def nh(ad:Ad)(EE:DX):aZ:=
 (aC (aK (dC (.int 7)) (am 1))
  (yY ad EE))
def rl(ad:Ad):Sd:=ck ["script","seed","cell"] (nh ad)
theorem CD{ad:Ad}{n:Nat}{x0:D}{M:Mem}{Q:DK}{E:DX}:rl ad [x0] M Q E=nh ad (bV E) { nx:=fun _ M'=>drp Q .non M',rt:=drp Q } [some x0,none,none] M:=rfl
def wx(ad:Ad)(EE:DX):aZ:=
 (bC (aA jY (au (ax (p8 ad) EE 2 (ac (ae 2) (ac (aA bB (ae 0) (dC (.int 1))) ai)))) (ae 1)))
def zc(ad:Ad)(EE:DX):aZ:=
 (aC (bz (aB (aA oG (ae 2) (aA Bj (dC (.int 10)) (dC (.int 18))))) (wx ad EE) bg)
   (aK (ae 2) (jb (ae 0) (dC (.int 2)))))
def xc(ad:Ad)(EE:DX):aZ:=
 (aC (aK (iA "list" ya (aA bB (ae 0) (dC (.int 0))) (ac (dC (.int 0)) ai)) (am 2))
   (zc ad EE))
def wJ(ad:Ad)(EE:DX):aZ:=
 (bC (aA jY (au (ax (p8 ad) EE 2 (ac (aA bB (ae 0) (dC (.int 3))) (ac (aA bB (ae 0) (dC (.int 1))) ai)))) (ae 1)))
def za(ad:Ad)(EE:DX):aZ:=
 (aC (aK (aA ng (aA bB (ae 0) (dC (.int 2))) (ae 1)) (jb (ae 0) (dC (.int 2))))
  (bC (ae 3)))
def ym(ad:Ad)(EE:DX):aZ:=
 (aC (aK (aA jY (aA bB (ae 0) (dC (.int 2))) (ae 1)) (am 3))
  (za ad EE))
def y4(ad:Ad)(EE:DX):aZ:=
 (aC (bz (aB (aA dN (aA bB (ae 0) (dC (.int 2))) (dC (.int 0)))) (wJ ad EE) bg)
  (ym ad EE))
def yH(ad:Ad)(EE:DX):aZ:=
 (aC (bz (dA (aB (aA dN (aA bB (ae 0) (dC (.int 2))) (dC (.int 0)))) (aB (aA fZ (aA bB (ae 0) (dC (.int 0))) (au (bT ai))))) (xc ad EE) bg)
  (y4 ad EE))
def o6(ad:Ad)(EE:DX):aZ:=
 (aC (aK (aA bD (aA bB (ae 0) (dC (.int 1))) (dC (.int 1))) (jb (ae 0) (dC (.int 1))))
  (yH ad EE))
def bE(ad:Ad):Sd:=ck ["pot","many","cell","found"] (o6 ad)
theorem BV{ad:Ad}{n:Nat}{x0 x1:D}{M:Mem}{Q:DK}{E:DX}:bE ad [x0,x1] M Q E=o6 ad (bV E) { nx:=fun _ M'=>drp Q .non M',rt:=drp Q } [some x0,some x1,none,none] M:=rfl
def yj(ad:Ad)(EE:DX):aZ:=
 (cD (iA "list" bZ (ae 3) (ac (aA nS (ae 5) (aA bD (dC (.int 1)) (au (ax (bE ad) EE 2 (ac (ae 0) (ac (dC (.int 8)) ai)))))) ai)))
def wN(ad:Ad)(EE:DX):aZ:=
 (aC (aK (aA bB (dC (.str "abcdefghijklmnopqrstuvwxyz")) (aA jY (aA bD (ae 2) (aA nS (dC (.int 7)) (ae 4))) (dC (.int 26)))) (am 5))
   (yj ad EE))
def xX(ad:Ad)(EE:DX):aZ:=
 (aC (fo (mT (ac (ae 1) ai)) (am 4) (wN ad EE))
  (bC (c_ eR (ac (ae 3) ai))))
def mO(ad:Ad)(EE:DX):aZ:=
 (aC (aK (au (ax (bE ad) EE 2 (ac (ae 0) (ac (dC (.int 26)) ai)))) (am 2))
  (aC (aK (bT ai) (am 3))
  (xX ad EE)))
def qM(ad:Ad):Sd:=ck ["pot","many","turn","names","k","sign"] (mO ad)
theorem CM{ad:Ad}{n:Nat}{x0 x1:D}{M:Mem}{Q:DK}{E:DX}:qM ad [x0,x1] M Q E=mO ad (bV E) { nx:=fun _ M'=>drp Q .non M',rt:=drp Q } [some x0,some x1,none,none,none,none] M:=rfl
def wt(ad:Ad)(EE:DX):aZ:=
 (bC (aU (ac (ae 6) (ac (ae 7) (ac (ax (bE ad) EE 2 (ac (ae 0) (ac (ae 2) ai))) ai)))))
def wm(ad:Ad)(EE:DX):aZ:=
 (bC (aU (ac (ae 6) (ac (ae 7) (ac (ax (bE ad) EE 2 (ac (ae 0) (ac (ae 4) ai))) ai)))))
def yr(ad:Ad)(EE:DX):aZ:=
 (bC (aU (ac (ae 6) (ac (ae 7) (ac (ae 8) ai)))))
def wI(ad:Ad)(EE:DX):aZ:=
 (bC (aU (ac (ae 6) (ac (ae 7) (ac (ae 8) (ac (aA bB (ae 3) (au (ax (bE ad) EE 2 (ac (ae 0) (ac (c_ cO (ac (ae 3) ai)) ai))))) ai))))))
def yS(ad:Ad)(EE:DX):aZ:=
 (aC (bz (aB (aA dN (ae 6) (dC (.str "pick")))) (yr ad EE) bg)
  (wI ad EE))
def yz(ad:Ad)(EE:DX):aZ:=
 (aC (aK (aA bB (ae 3) (au (ax (bE ad) EE 2 (ac (ae 0) (ac (c_ cO (ac (ae 3) ai)) ai))))) (am 8))
  (yS ad EE))
def xp(ad:Ad)(EE:DX):aZ:=
 (aC (bz (aB (aA dN (ae 6) (dC (.str "take")))) (wm ad EE) bg)
  (yz ad EE))
def wO(ad:Ad)(EE:DX):aZ:=
 (aC (bz (aB (aA dN (ae 6) (dC (.str "put")))) (wt ad EE) bg)
  (xp ad EE))
def xQ(ad:Ad)(EE:DX):aZ:=
 (aC (aK (aA bB (ae 3) (au (ax (bE ad) EE 2 (ac (ae 0) (ac (c_ cO (ac (ae 3) ai)) ai))))) (am 7))
  (wO ad EE))
def vU(ad:Ad)(EE:DX):aZ:=
 (aC (aK (aA bB (ae 5) (au (ax (bE ad) EE 2 (ac (ae 0) (ac (tm (aB (aA oF (ae 4) (dC (.int 0)))) (dC (.int 9)) (dC (.int 7))) ai))))) (am 6))
  (xQ ad EE))
def uX(ad:Ad)(EE:DX):aZ:=
 (aC (aK (au (bT (ac (dC (.str "put")) (ac (dC (.str "sum")) (ac (dC (.str "by")) (ac (dC (.str "less")) (ac (dC (.str "same")) (ac (dC (.str "sum")) (ac (dC (.str "put")) (ac (dC (.str "take")) (ac (dC (.str "pick")) ai))))))))))) (am 5))
  (vU ad EE))
def ow(ad:Ad)(EE:DX):aZ:=
 (aC (aK (ae 1) (dl 3 (bp (am 2) (bp (am 3) (bp (am 4) dj)))))
  (uX ad EE))
def kQ(ad:Ad):Sd:=ck ["pot","told","m","names","many","ways","way","x","y"] (ow ad)
theorem C4{ad:Ad}{n:Nat}{x0 x1:D}{M:Mem}{Q:DK}{E:DX}:kQ ad [x0,x1] M Q E=ow ad (bV E) { nx:=fun _ M'=>drp Q .non M',rt:=drp Q } [some x0,some x1,none,none,none,none,none,none,none] M:=rfl
def yI(ad:Ad)(S_q13 S_q18:Sd)(EE:DX):aZ:=
 (bC (bT (ac (aU (ac (dC (.str "if")) (ac (ae 7) (ac (ae 8) (ac (ax S_q18 EE 5 (ac (ae 0) (ac (ae 1) (ac (ae 2) (ac (aA bD (ae 3) (dC (.int 1))) (ac (dC (.int 5)) ai)))))) ai))))) ai)))
def xI(ad:Ad)(S_q13 S_q18:Sd)(EE:DX):aZ:=
 (bC (bT (ac (aU (ac (dC (.str "again")) (ac (ae 7) (ac (ae 8) ai)))) ai)))
def yW(ad:Ad)(S_q13 S_q18:Sd)(EE:DX):aZ:=
 (bC (bT (ac (aU (ac (dC (.str "put")) (ac (ae 7) (ac (ax (bE ad) EE 2 (ac (ae 0) (ac (c_ z_ (ac (ae 4) (ac (dC (.int 9)) ai))) ai))) ai)))) (ac (aU (ac (dC (.str "put")) (ac (ae 10) (ac (aA kG (ae 4) (dC (.int 1))) ai)))) (ac (aU (ac (dC (.str "again")) (ac (ae 7) (ac (aA bD (ae 8) (aU (ac (aU (ac (dC (.str "sum")) (ac (ae 7) (ac (ae 7) (ac (ae 10) ai))))) ai))) ai)))) ai)))))
def z7(ad:Ad)(S_q13 S_q18:Sd)(EE:DX):aZ:=
 (aC (aK (aA bB (ae 5) (au (ax (bE ad) EE 2 (ac (ae 0) (ac (c_ cO (ac (ae 5) ai)) ai))))) (am 10))
  (yW ad S_q13 S_q18 EE))
def w_(ad:Ad)(S_q13 S_q18:Sd)(EE:DX):aZ:=
 (aC (bz (aB (aA dN (ae 9) (dC (.int 2)))) (xI ad S_q13 S_q18 EE) bg)
  (z7 ad S_q13 S_q18 EE))
def wK(ad:Ad)(S_q13 S_q18:Sd)(EE:DX):aZ:=
 (aC (bz (aB (aA oG (ae 9) (dC (.int 2)))) (yI ad S_q13 S_q18 EE) bg)
  (w_ ad S_q13 S_q18 EE))
def wR(ad:Ad)(S_q13 S_q18:Sd)(EE:DX):aZ:=
 (aC (aK (au (ax (bE ad) EE 2 (ac (ae 0) (ac (dC (.int 5)) ai)))) (am 9))
  (wK ad S_q13 S_q18 EE))
def xx(ad:Ad)(S_q13 S_q18:Sd)(EE:DX):aZ:=
 (aC (aK (au (ax S_q18 EE 5 (ac (ae 0) (ac (ae 1) (ac (ae 2) (ac (aA bD (ae 3) (dC (.int 1))) (ac (dC (.int 5)) ai))))))) (am 8))
  (wR ad S_q13 S_q18 EE))
def xb(ad:Ad)(S_q13 S_q18:Sd)(EE:DX):aZ:=
 (aC (aK (aA bB (ae 5) (au (ax (bE ad) EE 2 (ac (ae 0) (ac (c_ cO (ac (ae 5) ai)) ai))))) (am 7))
  (xx ad S_q13 S_q18 EE))
def nC(ad:Ad)(S_q13 S_q18:Sd)(EE:DX):aZ:=
 (aC (aK (ae 1) (dl 3 (bp (am 4) (bp (am 5) (bp (am 6) dj)))))
  (xb ad S_q13 S_q18 EE))
def xD(ad:Ad)(S_q13 S_q18:Sd)(EE:DX):aZ:=
 (aK (aA bD (ae 5) (au (ax S_q13 EE 4 (ac (ae 0) (ac (ae 1) (ac (ae 2) (ac (ae 3) ai))))))) (am 5))
def yV(ad:Ad)(S_q13 S_q18:Sd)(EE:DX):aZ:=
 (aC (aK (aA kG (aA bB (ae 2) (dC (.int 0))) (dC (.int 4))) (jb (ae 2) (dC (.int 0))))
    (xD ad S_q13 S_q18 EE))
def y6(ad:Ad)(S_q13 S_q18:Sd)(EE:DX):aZ:=
 (cD (iA "list" bZ (ae 5) (ac (au (ax (kQ ad) EE 2 (ac (ae 0) (ac (ae 1) ai)))) ai)))
def yX(ad:Ad)(S_q13 S_q18:Sd)(EE:DX):aZ:=
 (aC (aK (aA kG (aA bB (ae 2) (dC (.int 0))) (dC (.int 1))) (jb (ae 2) (dC (.int 0))))
     (y6 ad S_q13 S_q18 EE))
def yk(ad:Ad)(S_q13 S_q18:Sd)(EE:DX):aZ:=
 (bz (aB (aA oF (aA bB (ae 2) (dC (.int 0))) (dC (.int 0)))) (yX ad S_q13 S_q18 EE) bg)
def yf(ad:Ad)(S_q13 S_q18:Sd)(EE:DX):aZ:=
 (bz (dA (aB (aA oF (aA bB (ae 2) (dC (.int 0))) (dC (.int 4)))) (dA (aB (aA oG (ae 3) (dC (.int 4)))) (aB (aA dN (au (ax (bE ad) EE 2 (ac (ae 0) (ac (dC (.int 4)) ai)))) (dC (.int 0)))))) (yV ad S_q13 S_q18 EE) (yk ad S_q13 S_q18 EE))
def wS(ad:Ad)(S_q13 S_q18:Sd)(EE:DX):aZ:=
 (aC (fo (mT (ac (au (ax (bE ad) EE 2 (ac (ae 0) (ac (ae 4) ai)))) ai)) (am 6) (yf ad S_q13 S_q18 EE))
  (bC (c_ eR (ac (ae 5) ai))))
def nG(ad:Ad)(S_q13 S_q18:Sd)(EE:DX):aZ:=
 (aC (aK (bT ai) (am 5))
  (wS ad S_q13 S_q18 EE))
mutual
def S_q13(ad:Ad):Nat->Sd
 |0=>fun _ _ _ _=>False
 |n+1=>ck ["pot","told","room","deep","m","names","many","x","first","way","y"] (nC ad (S_q13 ad n) (S_q18 ad n))
def S_q18(ad:Ad):Nat->Sd
 |0=>fun _ _ _ _=>False
 |n+1=>ck ["pot","told","room","deep","most","rows","k"] (nG ad (S_q13 ad n) (S_q18 ad n))
end
theorem CV{ad:Ad}{n:Nat}{x0 x1 x2 x3:D}{M:Mem}{Q:DK}{E:DX}:S_q13 ad (n+1) [x0,x1,x2,x3] M Q E=nC ad (S_q13 ad n) (S_q18 ad n) (bV E) { nx:=fun _ M'=>drp Q .non M',rt:=drp Q } [some x0,some x1,some x2,some x3,none,none,none,none,none,none,none] M:=rfl
theorem CI{ad:Ad}{n:Nat}{x0 x1 x2 x3 x4:D}{M:Mem}{Q:DK}{E:DX}:S_q18 ad (n+1) [x0,x1,x2,x3,x4] M Q E=nG ad (S_q13 ad n) (S_q18 ad n) (bV E) { nx:=fun _ M'=>drp Q .non M',rt:=drp Q } [some x0,some x1,some x2,some x3,some x4,none,none] M:=rfl
def wn(ad:Ad)(EE:DX):aZ:=
 (bC (aU (ac (ae 2) (ac (ae 3) (ac (ae 4) (ac (ae 5) (ac (aA bB (ae 3) (au (ax (bE ad) EE 2 (ac (ae 0) (ac (c_ cO (ac (ae 3) ai)) ai))))) ai)))))))
def xj(ad:Ad)(EE:DX):aZ:=
 (aC (aK (au (ax (S_q18 ad 24) EE 5 (ac (ae 0) (ac (aU (ac (ae 2) (ac (ae 3) (ac (ae 4) ai)))) (ac (bT (ac (ae 1) ai)) (ac (dC (.int 0)) (ac (aA bB (au (bT (ac (dC (.int 6)) (ac (dC (.int 12)) (ac (dC (.int 30)) ai))))) (au (ax (bE ad) EE 2 (ac (ae 0) (ac (dC (.int 3)) ai))))) ai))))))) (am 5))
  (wn ad EE))
def yy(ad:Ad)(EE:DX):aZ:=
 (aC (aK (aA bB (au (bT (ac (dC (.int 0)) (ac (aA bD (dC (.int 1)) (au (ax (bE ad) EE 2 (ac (ae 0) (ac (dC (.int 4)) ai))))) (ac (au (ax (bE ad) EE 2 (ac (ae 0) (ac (dC (.int 41)) ai)))) ai))))) (au (ax (bE ad) EE 2 (ac (ae 0) (ac (dC (.int 3)) ai))))) (am 4))
  (xj ad EE))
def yA(ad:Ad)(EE:DX):aZ:=
 (aC (aK (au (ax (qM ad) EE 2 (ac (ae 0) (ac (aA bD (dC (.int 1)) (au (ax (bE ad) EE 2 (ac (ae 0) (ac (aA bB (au (bT (ac (dC (.int 3)) (ac (dC (.int 5)) (ac (dC (.int 12)) ai))))) (au (ax (bE ad) EE 2 (ac (ae 0) (ac (dC (.int 3)) ai))))) ai))))) ai)))) (am 3))
  (yy ad EE))
def nR(ad:Ad)(EE:DX):aZ:=
 (aC (aK (aA bB (au (bT (ac (dC (.int 2)) (ac (dC (.int 3)) (ac (aA bD (dC (.int 2)) (au (ax (bE ad) EE 2 (ac (ae 0) (ac (dC (.int 9)) ai))))) (ac (aA bD (dC (.int 2)) (au (ax (bE ad) EE 2 (ac (ae 0) (ac (dC (.int 996)) ai))))) ai)))))) (au (ax (bE ad) EE 2 (ac (ae 0) (ac (dC (.int 4)) ai))))) (am 2))
  (yA ad EE))
def qD(ad:Ad):Sd:=ck ["pot","most","m","names","many","rows"] (nR ad)
theorem C1{ad:Ad}{n:Nat}{x0 x1:D}{M:Mem}{Q:DK}{E:DX}:qD ad [x0,x1] M Q E=nR ad (bV E) { nx:=fun _ M'=>drp Q .non M',rt:=drp Q } [some x0,some x1,none,none,none,none] M:=rfl
def oJ(ad:Ad)(S_q6:Sd)(EE:DX):aZ:=
 (aK (au (aA bD (au (dw (ae 2) aD (bi (dC (.int 2))))) (c_ eR (ac (au (dE (ft (au (dw (ae 2) (bi (dC (.int 2))) aD))) ["some"] [] (am 0) kz (au (ax S_q6 we 1 (ac (ae 0) ai))))) ai)))) (am 2))
def qf(ad:Ad)(S_q6:Sd)(EE:DX):aZ:=
 (aK (aU (ac (dC (.str "take")) (ac (aA bB (ae 2) (dC (.int 1))) (ac (dC (.int 0)) ai)))) (am 2))
def mx(ad:Ad)(S_q6:Sd)(EE:DX):aZ:=
 (aC (bz (aB (aA dN (aA bB (ae 2) (dC (.int 0))) (dC (.str "pick")))) (qf ad S_q6 EE) bg)
   (cD (iA "list" bZ (ae 1) (ac (ae 2) ai))))
def ma(ad:Ad)(S_q6:Sd)(EE:DX):aZ:=
 (aC (bz (aB (aA zw (aA bB (ae 2) (dC (.int 0))) (au (bT (ac (dC (.str "if")) (ac (dC (.str "again")) ai)))))) (oJ ad S_q6 EE) bg)
   (mx ad S_q6 EE))
def tG(ad:Ad)(S_q6:Sd)(EE:DX):aZ:=
 (aC (fo (ft (ae 0)) (am 2) (ma ad S_q6 EE))
  (bC (c_ eR (ac (ae 1) ai))))
def vB(ad:Ad)(S_q6:Sd)(EE:DX):aZ:=
 (aC (aK (bT ai) (am 1))
  (tG ad S_q6 EE))
def S_q6(ad:Ad):Nat->Sd
 |0=>fun _ _ _ _=>False
 |n+1=>ck ["rows","made","row"] (vB ad (S_q6 ad n))
theorem u_q6{ad:Ad}{n:Nat}{x0:D}{M:Mem}{Q:DK}{E:DX}:S_q6 ad (n+1) [x0] M Q E=vB ad (S_q6 ad n) (bV E) { nx:=fun _ M'=>drp Q .non M',rt:=drp Q } [some x0,none,none] M:=rfl
def p6(ad:Ad)(S_q2:Sd)(EE:DX):aZ:=
 (aK (aA bD (au (dw (ae 6) aD (bi (dC (.int 2))))) (aU (ac (ae 9) (ac (ae 8) ai)))) (am 6))
def pj(ad:Ad)(S_q2:Sd)(EE:DX):aZ:=
 (aC (aK (au (ax S_q2 EE 4 (ac (ae 0) (ac (ae 1) (ac (aA bB (ae 6) (dC (.int 2))) (ac (aA bD (ae 7) (aU (ac (dC (.int 1)) ai))) ai)))))) (am 9))
    (p6 ad S_q2 EE))
def mo(ad:Ad)(S_q2:Sd)(EE:DX):aZ:=
 (aC (aK (au (ax S_q2 EE 4 (ac (ae 0) (ac (ae 1) (ac (aA bB (ae 6) (dC (.int 3))) (ac (aA bD (ae 7) (aU (ac (dC (.int 0)) ai))) ai)))))) (am 8))
    (pj ad S_q2 EE))
def pf(ad:Ad)(S_q2:Sd)(EE:DX):aZ:=
 (aK (aA bD (au (dw (ae 6) aD (bi (dC (.int 2))))) (aU (ac (ae 10) ai))) (am 6))
def lH(ad:Ad)(S_q2:Sd)(EE:DX):aZ:=
 (aC (aK (au (ax S_q2 EE 4 (ac (ae 0) (ac (ae 1) (ac (aA bB (ae 6) (dC (.int 2))) (ac (aA bD (ae 7) (aU (ac (dC (.int 0)) ai))) ai)))))) (am 10))
     (pf ad S_q2 EE))
def ph(ad:Ad)(S_q2:Sd)(EE:DX):aZ:=
 (aC (cD (iA "list" bZ (aA bB (ae 1) (dC (.int 1))) (ac (ae 7) ai)))
       (aK (ae 11) (am 6)))
def pG(ad:Ad)(S_q2:Sd)(EE:DX):aZ:=
 (aC (aK (aA kG (aA bB (ae 1) (dC (.int 2))) (dC (.int 1))) (jb (ae 1) (dC (.int 2))))
       (ph ad S_q2 EE))
def pX(ad:Ad)(S_q2:Sd)(EE:DX):aZ:=
 (bz (aB (aA fZ (ae 11) (ae 6))) (pG ad S_q2 EE) bg)
def oV(ad:Ad)(S_q2:Sd)(EE:DX):aZ:=
 (aC (aK (aA bB (au (ax (S_q6 ad 24) EE 1 (ac (aU (ac (au (ax (kQ ad) EE 2 (ac (ae 0) (ac (aA bB (ae 1) (dC (.int 0))) ai)))) ai)) ai))) (dC (.int 0))) (am 11))
      (pX ad S_q2 EE))
def ji(ad:Ad)(S_q2:Sd)(EE:DX):aZ:=
 (bz (dA (aB (aA oF (aA bB (ae 1) (dC (.int 2))) (dC (.int 0)))) (aB (aA dN (au (ax (bE ad) EE 2 (ac (ae 0) (ac (dC (.int 3)) ai)))) (dC (.int 0))))) (oV ad S_q2 EE) bg)
def lT(ad:Ad)(S_q2:Sd)(EE:DX):aZ:=
 (bz (aB (aA dN (aA bB (ae 6) (dC (.int 0))) (dC (.str "again")))) (lH ad S_q2 EE) (ji ad S_q2 EE))
def lP(ad:Ad)(S_q2:Sd)(EE:DX):aZ:=
 (aC (bz (aB (aA dN (aA bB (ae 6) (dC (.int 0))) (dC (.str "if")))) (mo ad S_q2 EE) (lT ad S_q2 EE))
   (cD (iA "list" bZ (ae 4) (ac (ae 6) ai))))
def jr(ad:Ad)(S_q2:Sd)(EE:DX):aZ:=
 (aC (aK (aA bD (ae 3) (aU (ac (ae 5) ai))) (am 7))
   (lP ad S_q2 EE))
def qX(ad:Ad)(S_q2:Sd)(EE:DX):aZ:=
 (aC (fo (mC (ac (ae 2) ai)) (dl 2 (bp (am 5) (bp (am 6) dj))) (jr ad S_q2 EE))
  (bC (c_ eR (ac (ae 4) ai))))
def ut(ad:Ad)(S_q2:Sd)(EE:DX):aZ:=
 (aC (aK (bT ai) (am 4))
  (qX ad S_q2 EE))
def S_q2(ad:Ad):Nat->Sd
 |0=>fun _ _ _ _=>False
 |n+1=>ck ["pot","work","rows","place","made","at","row","here","second","first","inner","other"] (ut ad (S_q2 ad n))
theorem u_q2{ad:Ad}{n:Nat}{x0 x1 x2 x3:D}{M:Mem}{Q:DK}{E:DX}:S_q2 ad (n+1) [x0,x1,x2,x3] M Q E=ut ad (S_q2 ad n) (bV E) { nx:=fun _ M'=>drp Q .non M',rt:=drp Q } [some x0,some x1,some x2,some x3,none,none,none,none,none,none,none,none] M:=rfl
def ly(ad:Ad)(EE:DX):aZ:=
 (bC (aU (ac (ae 3) (ac (aA bD (au (dw (ae 3) aD (bi (dC (.int 3))))) (aU (ac (ae 5) (ac (aA bB (ae 3) (dC (.int 4))) ai)))) (ac (c_ eW (ac (aA bB (ae 4) (dC (.int 1))) ai)) ai)))))
def lJ(ad:Ad)(EE:DX):aZ:=
 (aC (aK (au (ax (S_q2 ad 24) EE 4 (ac (ae 0) (ac (ae 4) (ac (aA bB (ae 3) (dC (.int 3))) (ac (aU ai) ai)))))) (am 5))
  (ly ad EE))
def l_(ad:Ad)(EE:DX):aZ:=
 (aC (aK (bT (ac (dw (ae 3) aD (bi (dC (.int 3)))) (ac (bT ai) (ac (ae 2) ai)))) (am 4))
  (lJ ad EE))
def mv(ad:Ad)(EE:DX):aZ:=
 (aC (aK (aA bD (au (dw (ae 3) aD (bi (dC (.int 3))))) (aU (ac (au (ax (S_q6 ad 24) EE 1 (ac (aA bB (ae 3) (dC (.int 3))) ai))) (ac (aA bB (ae 3) (dC (.int 4))) ai)))) (am 3))
  (l_ ad EE))
def nX(ad:Ad)(EE:DX):aZ:=
 (aC (aK (au (ax (qD ad) EE 2 (ac (ae 0) (ac (ae 1) ai)))) (am 3))
  (mv ad EE))
def qr(ad:Ad):Sd:=ck ["pot","most_rows","most_unlike","plan","work","rows"] (nX ad)
theorem Co{ad:Ad}{n:Nat}{x0 x1 x2:D}{M:Mem}{Q:DK}{E:DX}:qr ad [x0,x1,x2] M Q E=nX ad (bV E) { nx:=fun _ M'=>drp Q .non M',rt:=drp Q } [some x0,some x1,some x2,none,none,none] M:=rfl
def yo(ad:Ad)(EE:DX):aZ:=
 (bC (aA bB (ae 1) (iA "list" lS (ae 0) (ac (dC (.bl true)) ai))))
def yx(ad:Ad)(EE:DX):aZ:=
 (aC (bz (kI (aB (aA fZ (c_ cO (ac (ae 0) ai)) (dC (.int 11)))) (kI (aB (aA fZ (iA "list" mj (au (dw (ae 0) aD (bi (dC (.int 10))))) (ac (dC (.bl true)) ai)) (dC (.int 1)))) (gy (dM (aA bB (ae 0) (dC (.int 10))))))) (bC (dC (.str "unlike"))) bg)
  (yo ad EE))
def mG(ad:Ad)(EE:DX):aZ:=
 (aC (aK (au (bT (ac (dC (.str "case")) (ac (dC (.str "place")) (ac (dC (.str "moment")) (ac (dC (.str "build")) (ac (dC (.str "many")) (ac (dC (.str "big")) (ac (dC (.str "dry")) (ac (dC (.str "text")) (ac (dC (.str "line")) (ac (dC (.str "row")) ai)))))))))))) (am 1))
  (yx ad EE))
def on(ad:Ad):Sd:=ck ["flags","names"] (mG ad)
theorem Cs{ad:Ad}{n:Nat}{x0:D}{M:Mem}{Q:DK}{E:DX}:on ad [x0] M Q E=mG ad (bV E) { nx:=fun _ M'=>drp Q .non M',rt:=drp Q } [some x0,none] M:=rfl
def y3(ad:Ad)(ea:Addr)(EE:DX):aZ:=
 (bC (aA bD (ae 1) (au (bT (ac (j6 ea (.ref ad.C_NoLine) false (ac (ae 0) (ac (dC (.ref ad.C_NoLine)) ai))) (ac (j6 ea (.ref ad.C_NoRow) false (ac (ae 0) (ac (dC (.ref ad.C_NoRow)) ai))) (ac (j6 ea (.ty "ValueError") true (ac (ae 0) (ac (dC (.ty "ValueError")) ai))) ai)))))))
def xr(ad:Ad)(ea:Addr)(EE:DX):aZ:=
 (aC (aK (au (aA bD (ae 1) (au (bT (ac (j6 ea (.ref ad.C_TooMany) false (ac (ae 0) (ac (dC (.ref ad.C_TooMany)) ai))) (ac (j6 ea (.ref ad.C_TooBig) false (ac (ae 0) (ac (dC (.ref ad.C_TooBig)) ai))) (ac (j6 ea (.ref ad.C_Dry) false (ac (ae 0) (ac (dC (.ref ad.C_Dry)) ai))) (ac (j6 ea (.ref ad.C_NoText) false (ac (ae 0) (ac (dC (.ref ad.C_NoText)) ai))) ai)))))))) (am 1))
  (y3 ad ea EE))
def nQ(ad:Ad)(ea:Addr)(EE:DX):aZ:=
 (aC (aK (au (bT (ac (j6 ea (.ref ad.C_NoCase) false (ac (ae 0) (ac (dC (.ref ad.C_NoCase)) ai))) (ac (j6 ea (.ref ad.C_NoPlace) false (ac (ae 0) (ac (dC (.ref ad.C_NoPlace)) ai))) (ac (j6 ea (.ref ad.C_NoMoment) false (ac (ae 0) (ac (dC (.ref ad.C_NoMoment)) ai))) (ac (j6 ea (.ref ad.C_NoBuild) true (ac (ae 0) (ac (dC (.ref ad.C_NoBuild)) ai))) ai)))))) (am 1))
  (xr ad ea EE))
def na(ad:Ad)(ea:Addr):Sd:=ck ["e","found"] (nQ ad ea)
theorem Cu{ad:Ad}{ea:Addr}{n:Nat}{x0:D}{M:Mem}{Q:DK}{E:DX}:na ad ea [x0] M Q E=nQ ad ea (bV E) { nx:=fun _ M'=>drp Q .non M',rt:=drp Q } [some x0,none] M:=rfl
def xn(ad:Ad)(S_q12:Sd)(EE:DX):aZ:=
 (bC (mF (c_ dS (ac (ae 0) (ac (dC (.ty "bool")) ai))) (aA dN (ae 0) (ae 1))))
def xF(ad:Ad)(S_q12:Sd)(EE:DX):aZ:=
 (bC (mF (c_ dS (ac (ae 0) (ac (dC (.ty "int")) ai))) (mF (zu (c_ dS (ac (ae 0) (ac (dC (.ty "bool")) ai)))) (aA dN (ae 0) (ae 1)))))
def y1(ad:Ad)(S_q12:Sd)(EE:DX):aZ:=
 (bC (mF (c_ dS (ac (ae 0) (ac (dC (.ty "str")) ai))) (aA dN (ae 0) (ae 1))))
def yG(ad:Ad)(S_q12:Sd)(EE:DX):aZ:=
 (bC (c_ Bb (ac (au (dE (D3 (ac (ae 0) (ac (ae 1) ai))) ["one","other"] [] (dl 2 (bp (am 0) (bp (am 1) dj))) kz (au (ax S_q12 we 2 (ac (ae 0) (ac (ae 1) ai)))))) ai)))
def wq(ad:Ad)(S_q12:Sd)(EE:DX):aZ:=
 (aC (bz (aB (aA fZ (c_ cO (ac (ae 0) ai)) (c_ cO (ac (ae 1) ai)))) (bC (dC (.bl false))) bg)
  (yG ad S_q12 EE))
def z8(ad:Ad)(S_q12:Sd)(EE:DX):aZ:=
 (aC (bz (kI (aB (aA fZ (c_ dS (ac (ae 1) (ac (dC (.ty "tuple")) ai))) (c_ dS (ac (ae 0) (ac (dC (.ty "tuple")) ai))))) (aB (aA fZ (c_ dS (ac (ae 1) (ac (dC (.ty "list")) ai))) (c_ dS (ac (ae 0) (ac (dC (.ty "list")) ai)))))) (bC (dC (.bl false))) bg)
  (wq ad S_q12 EE))
def xJ(ad:Ad)(S_q12:Sd)(EE:DX):aZ:=
 (aC (bz (dM (c_ dS (ac (ae 1) (ac (dC (.ty "str")) ai)))) (y1 ad S_q12 EE) bg)
  (z8 ad S_q12 EE))
def yO(ad:Ad)(S_q12:Sd)(EE:DX):aZ:=
 (aC (bz (dM (c_ dS (ac (ae 1) (ac (dC (.ty "int")) ai)))) (xF ad S_q12 EE) bg)
  (xJ ad S_q12 EE))
def yC(ad:Ad)(S_q12:Sd)(EE:DX):aZ:=
 (aC (bz (dM (c_ dS (ac (ae 1) (ac (dC (.ty "bool")) ai)))) (xn ad S_q12 EE) bg)
  (yO ad S_q12 EE))
def fF(ad:Ad)(S_q12:Sd)(EE:DX):aZ:=
 (aC (bz (aB (aA yT (ae 1) (dC .non))) (bC (aA yT (ae 0) (dC .non))) bg)
  (yC ad S_q12 EE))
def S_q12(ad:Ad):Nat->Sd
 |0=>fun _ _ _ _=>False
 |n+1=>ck ["found","due"] (fF ad (S_q12 ad n))
theorem iV{ad:Ad}{n:Nat}{x0 x1:D}{M:Mem}{Q:DK}{E:DX}:S_q12 ad (n+1) [x0,x1] M Q E=fF ad (S_q12 ad n) (bV E) { nx:=fun _ M'=>drp Q .non M',rt:=drp Q } [some x0,some x1] M:=rfl
def jl(ad:Ad)(EE:DX):aZ:=
 (bC (tm (aB (aA dN (ae 3) (au (bT ai)))) (ae 2) (ax (on ad) EE 1 (ac (ae 3) ai))))
def r9(ad:Ad)(EE:DX):aZ:=
 (aC (pi ad.C_NoBuild (j5 ad) 2 (ac (ae 0) (ac (ae 1) ai)) 2 4 3 (na ad))
  (jl ad EE))
def rF(ad:Ad)(EE:DX):aZ:=
 (aC (aK (au (bT ai)) (am 3))
  (r9 ad EE))
def ou(ad:Ad)(EE:DX):aZ:=
 (aC (aK (dC .non) (am 2))
  (rF ad EE))
def jN(ad:Ad):Sd:=ck ["one","other","found","kinds","e"] (ou ad)
theorem CL{ad:Ad}{n:Nat}{x0 x1:D}{M:Mem}{Q:DK}{E:DX}:jN ad [x0,x1] M Q E=ou ad (bV E) { nx:=fun _ M'=>drp Q .non M',rt:=drp Q } [some x0,some x1,none,none,none] M:=rfl
def xB(ad:Ad)(EE:DX):aZ:=
 (bC (aU (ac (aA bD (ae 2) (dC (.int 1))) (ac (ae 3) (ac (ae 4) (ac (ae 5) (ac (ae 6) ai)))))))
def qN(ad:Ad)(EE:DX):aZ:=
 (bC (aU (ac (ae 2) (ac (tm (aB (aA oG (c_ cO (ac (ae 3) ai)) (dC (.int 12)))) (aA bD (ae 3) (aU (ac (dC (.str "zq")) ai))) (vj (ae 3) (bi (zM (dC (.int 1)))))) (ac (ae 4) (ac (ae 5) (ac (ae 6) ai)))))))
def yq(ad:Ad)(EE:DX):aZ:=
 (bC (aU (ac (ae 2) (ac (ae 3) (ac (aA bD (ae 4) (dC (.int 1))) (ac (ae 5) (ac (ae 6) ai)))))))
def qm(ad:Ad)(EE:DX):aZ:=
 (bC (aU (ac (ae 2) (ac (ae 3) (ac (ae 4) (ac (ae 5) (ac (aA bB (au (dE (ft (ae 3)) ["one"] [6] (am 0) (aB (aA fZ (ae 0) (ae 1))) (ae 0))) (dC (.int 0))) ai)))))))
def xR(ad:Ad)(EE:DX):aZ:=
 (bC (aU (ac (ae 2) (ac (ae 3) (ac (ae 4) (ac (aA bD (au (dw (ae 5) aD (bi (ae 8)))) (au (dw (ae 5) (bi (aA bD (ae 8) (dC (.int 1)))) aD))) (ac (ae 6) ai)))))))
def wP(ad:Ad)(EE:DX):aZ:=
 (bC (aU (ac (ae 2) (ac (ae 3) (ac (ae 4) (ac (aA bD (aA bD (au (dw (ae 5) aD (bi (ae 8)))) (aU (ac (aU (ac (dC (.str "pick")) (ac (aA bB (ae 3) (dC (.int 0))) (ac (ae 6) ai)))) ai))) (au (dw (ae 5) (bi (aA bD (ae 8) (dC (.int 1)))) aD))) (ac (ae 6) ai)))))))
def qi(ad:Ad)(EE:DX):aZ:=
 (bC (aU (ac (ae 2) (ac (ae 3) (ac (ae 4) (ac (aA bD (aA bD (au (dw (ae 5) aD (bi (ae 8)))) (aU (ac (aU (ac (dC (.str "put")) (ac (aA bB (ae 3) (dC (.int 0))) (ac (dC (.int 0)) ai)))) ai))) (au (dw (ae 5) (bi (ae 8)) aD))) (ac (ae 6) ai)))))))
def rn(ad:Ad)(EE:DX):aZ:=
 (aC (bz (dA (aB (aA oG (ae 7) (dC (.int 7)))) (dA (aB (aA oF (ae 4) (dC (.int 0)))) (dA (aB (aA oG (ae 8) (c_ cO (ac (ae 5) ai)))) (aB (aA kc (aA bB (aA bB (ae 5) (ae 8)) (dC (.int 0))) (au (bT (ac (dC (.str "if")) (ac (dC (.str "again")) ai))))))))) (wP ad EE) bg)
  (qi ad EE))
def qQ(ad:Ad)(EE:DX):aZ:=
 (aC (bz (dA (aB (aA dN (ae 7) (dC (.int 4)))) (aB (aA oG (ae 8) (c_ cO (ac (ae 5) ai))))) (xR ad EE) bg)
  (rn ad EE))
def nH(ad:Ad)(EE:DX):aZ:=
 (aC (aK (au (ax (bE ad) EE 2 (ac (ae 0) (ac (aA bD (c_ cO (ac (ae 5) ai)) (dC (.int 1))) ai)))) (am 8))
  (qQ ad EE))
def mU(ad:Ad)(EE:DX):aZ:=
 (aC (bz (dA (aB (aA dN (ae 7) (dC (.int 3)))) (aB (aA oF (c_ cO (ac (ae 3) ai)) (dC (.int 1))))) (qm ad EE) bg)
  (nH ad EE))
def mW(ad:Ad)(EE:DX):aZ:=
 (aC (bz (dA (aB (aA dN (ae 7) (dC (.int 2)))) (aB (aA oG (ae 4) (dC (.int 40))))) (yq ad EE) bg)
  (mU ad EE))
def nZ(ad:Ad)(EE:DX):aZ:=
 (aC (bz (aB (aA dN (ae 7) (dC (.int 1)))) (qN ad EE) bg)
  (mW ad EE))
def oq(ad:Ad)(EE:DX):aZ:=
 (aC (bz (dA (aB (aA dN (ae 7) (dC (.int 0)))) (aB (aA oG (ae 2) (dC (.int 997))))) (xB ad EE) bg)
  (nZ ad EE))
def nO(ad:Ad)(EE:DX):aZ:=
 (aC (aK (au (ax (bE ad) EE 2 (ac (ae 0) (ac (dC (.int 9)) ai)))) (am 7))
  (oq ad EE))
def oh(ad:Ad)(EE:DX):aZ:=
 (aC (aK (ae 1) (dl 5 (bp (am 2) (bp (am 3) (bp (am 4) (bp (am 5) (bp (am 6) dj)))))))
  (nO ad EE))
def rf(ad:Ad):Sd:=ck ["pot","plan","m","names","many","rows","name","way","at"] (oh ad)
theorem CQ{ad:Ad}{n:Nat}{x0 x1:D}{M:Mem}{Q:DK}{E:DX}:rf ad [x0,x1] M Q E=oh ad (bV E) { nx:=fun _ M'=>drp Q .non M',rt:=drp Q } [some x0,some x1,none,none,none,none,none,none,none] M:=rfl
def u_(ad:Ad)(EE:DX):aZ:=
 (aK (aA dN (au (dE (ft (au (dw (ae 9) (bi (dC (.int 2))) aD))) ["rest"] [] (am 0) kz (c_ cO (ac (ae 0) ai)))) (au (dE (ft (au (dw (ae 10) (bi (dC (.int 2))) aD))) ["rest"] [] (am 0) kz (c_ cO (ac (ae 0) ai))))) (am 11))
def pS(ad:Ad)(EE:DX):aZ:=
 (bC (aU (ac (aU (ac (ae 2) (ac (ae 3) (ac (ae 4) (ac (aA bD (aU (ac (ae 9) ai)) (ae 5)) (ac (ae 6) ai)))))) (ac (aU (ac (ae 2) (ac (ae 3) (ac (ae 4) (ac (aA bD (aU (ac (ae 10) ai)) (ae 5)) (ac (ae 6) ai)))))) (ac (ae 11) ai)))))
def pH(ad:Ad)(EE:DX):aZ:=
 (aC (bz (dA (dM (ae 11)) (aB (aA zw (aA bB (ae 9) (dC (.int 0))) (au (bT (ac (dC (.str "if")) (ac (dC (.str "again")) ai))))))) (u_ ad EE) bg)
  (pS ad EE))
def p9(ad:Ad)(EE:DX):aZ:=
 (aC (aK (A2 (aA dN (au (dw (ae 9) aD (bi (dC (.int 2))))) (au (dw (ae 10) aD (bi (dC (.int 2)))))) (oZ dN dN (aA bB (ae 9) (dC (.int 0))) (aA bB (ae 10) (dC (.int 0))) (dC (.str "put")))) (am 11))
  (pH ad EE))
def u9(ad:Ad)(EE:DX):aZ:=
 (aC (aK (aA bB (ae 8) (au (ax (bE ad) EE 2 (ac (ae 0) (ac (dC (.int 6)) ai))))) (am 10))
  (p9 ad EE))
def uy(ad:Ad)(EE:DX):aZ:=
 (aC (aK (aA bB (ae 8) (au (ax (bE ad) EE 2 (ac (ae 0) (ac (dC (.int 6)) ai))))) (am 9))
  (u9 ad EE))
def w6(ad:Ad)(EE:DX):aZ:=
 (aC (aK (au (aA bD (ae 8) (au (bT (ac (aU (ac (dC (.str "again")) (ac (aA bB (ae 3) (dC (.int 0))) (ac (aU ai) ai)))) (ac (aU (ac (dC (.str "if")) (ac (aA bB (ae 3) (zM (dC (.int 1)))) (ac (ae 7) (ac (aU ai) ai))))) ai)))))) (am 8))
  (uy ad EE))
def vI(ad:Ad)(EE:DX):aZ:=
 (aC (aK (au (bT (ac (aU (ac (dC (.str "if")) (ac (ae 6) (ac (ae 7) (ac (aU ai) ai))))) (ac (aU (ac (dC (.str "again")) (ac (ae 6) (ac (ae 7) ai)))) (ac (aU (ac (dC (.str "put")) (ac (ae 6) (ac (dC (.int 0)) ai)))) (ac (aU (ac (dC (.str "if")) (ac (aA bB (ae 3) (dC (.int 0))) (ac (ae 7) (ac (ae 7) ai))))) ai)))))) (am 8))
  (w6 ad EE))
def tV(ad:Ad)(EE:DX):aZ:=
 (aC (aK (aU (ac (aU (ac (dC (.str "put")) (ac (ae 6) (ac (dC (.int 1)) ai)))) ai)) (am 7))
  (vI ad EE))
def sZ(ad:Ad)(EE:DX):aZ:=
 (aC (aK (ae 1) (dl 5 (bp (am 2) (bp (am 3) (bp (am 4) (bp (am 5) (bp (am 6) dj)))))))
  (tV ad EE))
def yw(ad:Ad):Sd:=ck ["pot","plan","m","names","many","rows","name","inner","some","one","other","likewise"] (sZ ad)
theorem u_q1{ad:Ad}{n:Nat}{x0 x1:D}{M:Mem}{Q:DK}{E:DX}:yw ad [x0,x1] M Q E=sZ ad (bV E) { nx:=fun _ M'=>drp Q .non M',rt:=drp Q } [some x0,some x1,none,none,none,none,none,none,none,none,none,none] M:=rfl
def uD(ad:Ad)(S_q5:Sd)(EE:DX):aZ:=
 (bC (aU (ac (dw (ae 2) aD (bi (dC (.int 1)))) (ac (dw (ae 2) (bi (dC (.int 1))) aD) ai))))
def tW(ad:Ad)(S_q5:Sd)(EE:DX):aZ:=
 (aK (au (aA bD (aA bD (au (dw (ae 8) aD (bi (ae 9)))) (aU (ac (ae 11) ai))) (au (dw (ae 8) (bi (aA bD (ae 9) (dC (.int 1)))) aD)))) (am 8))
def pK(ad:Ad)(S_q5:Sd)(EE:DX):aZ:=
 (aC (aK (au (aA bD (aA bD (au (dw (ae 7) aD (bi (ae 9)))) (aU (ac (ae 10) ai))) (au (dw (ae 7) (bi (aA bD (ae 9) (dC (.int 1)))) aD)))) (am 7))
   (tW ad S_q5 EE))
def o_(ad:Ad)(S_q5:Sd)(EE:DX):aZ:=
 (aC (aK (au (ax S_q5 EE 4 (ac (ae 0) (ac (aU (ac (aA bB (ae 7) (ae 9)) (ac (aA bB (ae 8) (ae 9)) ai))) (ac (ae 2) (ac (aA bD (ae 3) (dC (.int 1))) ai)))))) (dl 2 (bp (am 10) (bp (am 11) dj))))
   (pK ad S_q5 EE))
def oM(ad:Ad)(S_q5:Sd)(EE:DX):aZ:=
 (aC (aK (aA bD (dC (.int 2)) (au (ax (bE ad) EE 2 (ac (ae 0) (ac (aA kG (c_ cO (ac (ae 7) ai)) (dC (.int 2))) ai))))) (am 9))
   (o_ ad S_q5 EE))
def oW(ad:Ad)(S_q5:Sd)(EE:DX):aZ:=
 (aK (ae 2) (dl 2 (bp (am 7) (bp (am 8) dj))))
def lF(ad:Ad)(S_q5:Sd)(EE:DX):aZ:=
 (bC (aU (ac (aA bD (aA bD (au (dw (ae 4) aD (bi (ae 6)))) (aU (ac (ae 7) ai))) (au (dw (ae 4) (bi (aA bD (ae 6) (dC (.int 1)))) aD))) (ac (aA bD (aA bD (au (dw (ae 5) aD (bi (ae 6)))) (aU (ac (ae 8) ai))) (au (dw (ae 5) (bi (aA bD (ae 6) (dC (.int 1)))) aD))) ai))))
def vL(ad:Ad)(S_q5:Sd)(EE:DX):aZ:=
 (aC (bz (dA (aB (aA zw (aA bB (ae 7) (dC (.int 0))) (au (bT (ac (dC (.str "if")) (ac (dC (.str "again")) ai)))))) (dA (aB (aA oG (ae 3) (dC (.int 3)))) (aB (aA oF (au (ax (bE ad) EE 2 (ac (ae 0) (ac (dC (.int 4)) ai)))) (dC (.int 0)))))) (oM ad S_q5 EE) (oW ad S_q5 EE))
  (lF ad S_q5 EE))
def uv(ad:Ad)(S_q5:Sd)(EE:DX):aZ:=
 (aC (aK (aA bB (ae 5) (ae 6)) (am 8))
  (vL ad S_q5 EE))
def qo(ad:Ad)(S_q5:Sd)(EE:DX):aZ:=
 (aC (aK (aA bB (ae 4) (ae 6)) (am 7))
  (uv ad S_q5 EE))
def q_(ad:Ad)(S_q5:Sd)(EE:DX):aZ:=
 (aC (aK (au (ax (bE ad) EE 2 (ac (ae 0) (ac (c_ cO (ac (ae 4) ai)) ai)))) (am 6))
  (qo ad S_q5 EE))
def qE(ad:Ad)(S_q5:Sd)(EE:DX):aZ:=
 (aC (bz (aB (aA dN (ae 4) (aU ai))) (uD ad S_q5 EE) bg)
  (q_ ad S_q5 EE))
def v_(ad:Ad)(S_q5:Sd)(EE:DX):aZ:=
 (aC (aK (ae 1) (dl 2 (bp (am 4) (bp (am 5) dj))))
  (qE ad S_q5 EE))
def S_q5(ad:Ad):Nat->Sd
 |0=>fun _ _ _ _=>False
 |n+1=>ck ["pot","pair","news","deep","rows","others","at","one","other","k","first","second"] (v_ ad (S_q5 ad n))
theorem u_q5{ad:Ad}{n:Nat}{x0 x1 x2 x3:D}{M:Mem}{Q:DK}{E:DX}:S_q5 ad (n+1) [x0,x1,x2,x3] M Q E=v_ ad (S_q5 ad n) (bV E) { nx:=fun _ M'=>drp Q .non M',rt:=drp Q } [some x0,some x1,some x2,some x3,none,none,none,none,none,none,none,none] M:=rfl
def tH(ad:Ad)(EE:DX):aZ:=
 (aK (aU (ac (aU (ac (dC (.str "pick")) (ac (ae 3) (ac (ae 4) ai)))) (ac (aU (ac (dC (.str "pick")) (ac (ae 3) (ac (ae 4) ai)))) ai))) (am 6))
def vY(ad:Ad)(EE:DX):aZ:=
 (bC (aU (ac (aA bD (au (dw (ae 1) aD (bi (dC (.int 3))))) (aU (ac (ae 7) (ac (aA bB (ae 1) (dC (.int 4))) ai)))) (ac (aA bD (au (dw (ae 2) aD (bi (dC (.int 3))))) (aU (ac (ae 8) (ac (aA bB (ae 2) (dC (.int 4))) ai)))) ai))))
def p7(ad:Ad)(EE:DX):aZ:=
 (aC (aK (au (ax (S_q5 ad 24) EE 4 (ac (ae 0) (ac (aU (ac (aA bB (ae 1) (dC (.int 3))) (ac (aA bB (ae 2) (dC (.int 3))) ai))) (ac (ae 6) (ac (dC (.int 0)) ai)))))) (dl 2 (bp (am 7) (bp (am 8) dj))))
  (vY ad EE))
def tX(ad:Ad)(EE:DX):aZ:=
 (aC (bz (dA (aB (aA oF (aA bB (ae 1) (dC (.int 2))) (dC (.int 0)))) (aB (aA dN (au (ax (bE ad) EE 2 (ac (ae 0) (ac (dC (.int 2)) ai)))) (dC (.int 0))))) (tH ad EE) bg)
  (p7 ad EE))
def uU(ad:Ad)(EE:DX):aZ:=
 (aC (aK (aU (ac (aU (ac (dC (.str "if")) (ac (ae 3) (ac (aU ai) (ac (aU ai) ai))))) (ac (aA bB (ae 5) (au (ax (bE ad) EE 2 (ac (ae 0) (ac (dC (.int 4)) ai))))) ai))) (am 6))
  (tX ad EE))
def s_(ad:Ad)(EE:DX):aZ:=
 (aC (aK (au (bT (ac (aU (ac (dC (.str "again")) (ac (ae 3) (ac (aU ai) ai)))) (ac (aU (ac (dC (.str "put")) (ac (ae 3) (ac (dC (.int 0)) ai)))) (ac (aU (ac (dC (.str "if")) (ac (ae 3) (ac (aU (ac (aU (ac (dC (.str "put")) (ac (ae 4) (ac (dC (.int 1)) ai)))) ai)) (ac (aU ai) ai))))) (ac (aU (ac (dC (.str "if")) (ac (ae 3) (ac (aU ai) (ac (aU (ac (aU (ac (dC (.str "put")) (ac (ae 4) (ac (dC (.int 1)) ai)))) ai)) ai))))) ai)))))) (am 5))
  (uU ad EE))
def ua(ad:Ad)(EE:DX):aZ:=
 (aC (aK (aA bB (aA bB (ae 1) (dC (.int 1))) (au (ax (bE ad) EE 2 (ac (ae 0) (ac (c_ cO (ac (aA bB (ae 1) (dC (.int 1))) ai)) ai))))) (am 4))
  (s_ ad EE))
def tK(ad:Ad)(EE:DX):aZ:=
 (aC (aK (aA bB (aA bB (ae 1) (dC (.int 1))) (au (ax (bE ad) EE 2 (ac (ae 0) (ac (c_ cO (ac (aA bB (ae 1) (dC (.int 1))) ai)) ai))))) (am 3))
  (ua ad EE))
def wQ(ad:Ad):Sd:=ck ["pot","one","other","x","y","odd","news","rows","others"] (tK ad)
theorem u_q3{ad:Ad}{n:Nat}{x0 x1 x2:D}{M:Mem}{Q:DK}{E:DX}:wQ ad [x0,x1,x2] M Q E=tK ad (bV E) { nx:=fun _ M'=>drp Q .non M',rt:=drp Q } [some x0,some x1,some x2,none,none,none,none,none,none] M:=rfl
def qB(ad:Ad)(EE:DX):aZ:=
 (bz (kI (gy (dM (c_ dS (ac (ae 9) (ac (dC (.ty "str")) ai))))) (aB (aA fZ (ae 9) (dC (.str "build"))))) (bC (dC (.bl false))) bg)
def jg(ad:Ad)(EE:DX):aZ:=
 (aC (aK (au (ax (jN ad) EE 2 (ac (aA bB (ae 8) (dC (.int 0))) (ac (aA bB (ae 8) (dC (.int 1))) ai)))) (am 9))
    (qB ad EE))
def m9(ad:Ad)(EE:DX):aZ:=
 (bz (kI (aB (aA fZ (ae 12) (au (ax (S_q12 ad 24) EE 2 (ac (ae 9) (ac (au (bT ai)) ai)))))) (dA (gy (dM (ae 12))) (kI (gy (dM (c_ dS (ac (ae 9) (ac (dC (.ty "str")) ai))))) (aB (aA fZ (ae 9) (dC (.str "build"))))))) (bC (dC (.bl false))) bg)
def rj(ad:Ad)(EE:DX):aZ:=
 (aC (aK (au (ax (jN ad) EE 2 (ac (ae 10) (ac (ae 11) ai)))) (am 9))
   (m9 ad EE))
def je(ad:Ad)(EE:DX):aZ:=
 (aC (aK (au (ax (yw ad) EE 2 (ac (ae 1) (ac (ae 2) ai)))) (dl 3 (bp (am 10) (bp (am 11) (bp (am 12) dj)))))
   (rj ad EE))
def qJ(ad:Ad)(EE:DX):aZ:=
 (aC (fo (ft (au (bT (ac (aU (ac (ae 2) (ac (ae 7) ai))) (ac (aU (ac (ae 7) (ac (ae 2) ai))) (ac (au (ax (wQ ad) EE 3 (ac (ae 1) (ac (ae 2) (ac (ae 3) ai))))) ai)))))) (am 8) (jg ad EE))
   (je ad EE))
def md(ad:Ad)(EE:DX):aZ:=
 (aC (aK (au (ax (rf ad) EE 2 (ac (ae 1) (ac (ae 3) ai)))) (am 7))
   (qJ ad EE))
def qw(ad:Ad)(EE:DX):aZ:=
 (aC (fo (mT (ac (dC (.int 3)) ai)) (am 6) (md ad EE))
  (bC (dC (.bl true))))
def rg(ad:Ad)(EE:DX):aZ:=
 (aC (bz (kI (gy (dM (au (ax (S_q12 ad 24) EE 2 (ac (au (ax (j5 ad) EE 2 (ac (ae 2) (ac (ae 3) ai)))) (ac (ae 4) ai)))))) (gy (dM (au (ax (S_q12 ad 24) EE 2 (ac (au (ax (j5 ad) EE 2 (ac (ae 2) (ac (ae 2) ai)))) (ac (au (bT ai)) ai))))))) (bC (dC (.bl false))) bg)
  (qw ad EE))
def n8(ad:Ad)(EE:DX):aZ:=
 (aC (cD (iA "list" hV (ae 5) ai))
  (rg ad EE))
def nW(ad:Ad)(EE:DX):aZ:=
 (aC (cD (iA "list" bZ (ae 5) (ac (aU (ac (dC (.int 99)) ai)) ai)))
  (n8 ad EE))
def oj(ad:Ad)(EE:DX):aZ:=
 (aC (bz (kI (gy (dM (au (ax (S_q12 ad 24) EE 2 (ac (ae 5) (ac (ae 4) ai)))))) (gy (dM (au (ax (S_q12 ad 24) EE 2 (ac (au (ax (j5 ad) EE 2 (ac (ae 3) (ac (ae 2) ai)))) (ac (ae 4) ai))))))) (bC (dC (.bl false))) bg)
  (nW ad EE))
def nj(ad:Ad)(EE:DX):aZ:=
 (aC (aK (ax (jN ad) EE 2 (ac (ae 2) (ac (ae 3) ai))) (am 5))
  (oj ad EE))
def nU(ad:Ad)(EE:DX):aZ:=
 (aC (aK (uB (ax (qr ad) EE 3 (ac (ae 1) (ac (dC (.int 40)) (ac (dC (.int 12)) ai))))) (dl 3 (bp (am 2) (bp (am 3) (bp (am 4) dj)))))
  (nj ad EE))
def nN(ad:Ad)(EE:DX):aZ:=
 (aC (aK (ax (rl ad) EE 1 (ac (ae 0) ai)) (am 1))
  (nU ad EE))
def u8(ad:Ad):Sd:=ck ["script","pot","one","other","places","found","turn","bent","pair","told","first","second","likewise"] (nN ad)
theorem BQ{ad:Ad}{n:Nat}{x0:D}{M:Mem}{Q:DK}{E:DX}:u8 ad [x0] M Q E=nN ad (bV E) { nx:=fun _ M'=>drp Q .non M',rt:=drp Q } [some x0,none,none,none,none,none,none,none,none,none,none,none,none] M:=rfl
end Tw
namespace Tw
open PySem L2 L3
set_option genInjectivity false in
structure En(K:W.Frag)(mg:Str->Option Value)(ad:Ad):Prop where
 mC_Dry:mg "Dry"=some (.ref ad.C_Dry)
 x_NoBuild:ExcAt K ad.C_NoBuild
 mC_NoBuild:mg "NoBuild"=some (.ref ad.C_NoBuild)
 mC_NoCase:mg "NoCase"=some (.ref ad.C_NoCase)
 mC_NoLine:mg "NoLine"=some (.ref ad.C_NoLine)
 mC_NoMoment:mg "NoMoment"=some (.ref ad.C_NoMoment)
 mC_NoPlace:mg "NoPlace"=some (.ref ad.C_NoPlace)
 mC_NoRow:mg "NoRow"=some (.ref ad.C_NoRow)
 mC_NoText:mg "NoText"=some (.ref ad.C_NoText)
 mC_StrideError:mg "StrideError"=some (.ref ad.C_StrideError)
 mC_TooBig:mg "TooBig"=some (.ref ad.C_TooBig)
 mC_TooMany:mg "TooMany"=some (.ref ad.C_TooMany)
 xc_NoBuild:LX.XC K ad.C_NoBuild
 xs_StrideError:XS K ad.C_NoBuild ad.C_StrideError
 kt_Dry:iu K ad.C_NoBuild (.ref ad.C_Dry) false
 kt_NoBuild:iu K ad.C_NoBuild (.ref ad.C_NoBuild) true
 kt_NoCase:iu K ad.C_NoBuild (.ref ad.C_NoCase) false
 kt_NoLine:iu K ad.C_NoBuild (.ref ad.C_NoLine) false
 kt_NoMoment:iu K ad.C_NoBuild (.ref ad.C_NoMoment) false
 kt_NoPlace:iu K ad.C_NoBuild (.ref ad.C_NoPlace) false
 kt_NoRow:iu K ad.C_NoBuild (.ref ad.C_NoRow) false
 kt_NoText:iu K ad.C_NoBuild (.ref ad.C_NoText) false
 kt_TooBig:iu K ad.C_NoBuild (.ref ad.C_TooBig) false
 kt_TooMany:iu K ad.C_NoBuild (.ref ad.C_TooMany) false
 kt_ValueError:iu K ad.C_NoBuild (.ty "ValueError") true
 F_q8:Fun K "rows_within" "rows_within" Bh ad.a_q8 ad.d_q8
 b_q8:Binds K ad.d_q8 ["row"] []
 k_q8:W.keepIn K (.ref ad.a_q8)=true
 m_q8:mg "rows_within"=some (.ref ad.a_q8)
 F_q9:Fun K "unlike_rows" "unlike_rows" B6 ad.a_q9 ad.d_q9
 b_q9:Binds K ad.d_q9 ["one","other"] []
 k_q9:W.keepIn K (.ref ad.a_q9)=true
 m_q9:mg "unlike_rows"=some (.ref ad.a_q9)
 F_q24:Fun K "paired" "paired" va ad.a_q24 ad.d_q24
 b_q24:Binds K ad.d_q24 ["rows","others","place"] []
 k_q24:W.keepIn K (.ref ad.a_q24)=true
 m_q24:mg "paired"=some (.ref ad.a_q24)
 F_q0:Fun K "refuse_unlike_sorts" "refuse_unlike_sorts" Az ad.a_q0 ad.d_q0
 b_q0:Binds K ad.d_q0 ["row","other"] []
 k_q0:W.keepIn K (.ref ad.a_q0)=true
 m_q0:mg "refuse_unlike_sorts"=some (.ref ad.a_q0)
 F_q4:Fun K "paired_within" "paired_within" Bt ad.a_q4 ad.d_q4
 b_q4:Binds K ad.d_q4 ["row","other","place"] []
 k_q4:W.keepIn K (.ref ad.a_q4)=true
 m_q4:mg "paired_within"=some (.ref ad.a_q4)
 F_q22:Fun K "branches" "branches" tM ad.a_q22 ad.d_q22
 b_q22:Binds K ad.d_q22 ["row"] []
 k_q22:W.keepIn K (.ref ad.a_q22)=true
 m_q22:mg "branches"=some (.ref ad.a_q22)
 F_q7:Fun K "_law_stirred" "_law_stirred" Bz ad.a_q7 ad.d_q7
 b_q7:Binds K ad.d_q7 ["cell","turn"] []
 k_q7:W.keepIn K (.ref ad.a_q7)=true
 m_q7:mg "_law_stirred"=some (.ref ad.a_q7)
 F_q23:Fun K "_law_pot" "_law_pot" tR ad.a_q23 ad.d_q23
 b_q23:Binds K ad.d_q23 ["script"] []
 k_q23:W.keepIn K (.ref ad.a_q23)=true
 m_q23:mg "_law_pot"=some (.ref ad.a_q23)
 F_q17:Fun K "_law_draw" "_law_draw" ur ad.a_q17 ad.d_q17
 b_q17:Binds K ad.d_q17 ["pot","many"] []
 k_q17:W.keepIn K (.ref ad.a_q17)=true
 m_q17:mg "_law_draw"=some (.ref ad.a_q17)
 F_q10:Fun K "_law_names" "_law_names" vw ad.a_q10 ad.d_q10
 b_q10:Binds K ad.d_q10 ["pot","many"] []
 k_q10:W.keepIn K (.ref ad.a_q10)=true
 m_q10:mg "_law_names"=some (.ref ad.a_q10)
 F_q21:Fun K "_law_row" "_law_row" ue ad.a_q21 ad.d_q21
 b_q21:Binds K ad.d_q21 ["pot","told"] []
 k_q21:W.keepIn K (.ref ad.a_q21)=true
 m_q21:mg "_law_row"=some (.ref ad.a_q21)
 F_q13:Fun K "_law_block" "_law_block" tf ad.a_q13 ad.d_q13
 b_q13:Binds K ad.d_q13 ["pot","told","room","deep"] []
 k_q13:W.keepIn K (.ref ad.a_q13)=true
 m_q13:mg "_law_block"=some (.ref ad.a_q13)
 F_q18:Fun K "_law_rows" "_law_rows" ul ad.a_q18 ad.d_q18
 b_q18:Binds K ad.d_q18 ["pot","told","room","deep","most"] []
 k_q18:W.keepIn K (.ref ad.a_q18)=true
 m_q18:mg "_law_rows"=some (.ref ad.a_q18)
 F_q19:Fun K "_law_plan" "_law_plan" uQ ad.a_q19 ad.d_q19
 b_q19:Binds K ad.d_q19 ["pot","most"] []
 k_q19:W.keepIn K (.ref ad.a_q19)=true
 m_q19:mg "_law_plan"=some (.ref ad.a_q19)
 F_q6:Fun K "_law_no_picks" "_law_no_picks" Am ad.a_q6 ad.d_q6
 b_q6:Binds K ad.d_q6 ["rows"] []
 k_q6:W.keepIn K (.ref ad.a_q6)=true
 m_q6:mg "_law_no_picks"=some (.ref ad.a_q6)
 F_q2:Fun K "_law_twin_rows" "_law_twin_rows" zO ad.a_q2 ad.d_q2
 b_q2:Binds K ad.d_q2 ["pot","work","rows","place"] []
 k_q2:W.keepIn K (.ref ad.a_q2)=true
 m_q2:mg "_law_twin_rows"=some (.ref ad.a_q2)
 F_q15:Fun K "_law_twins" "_law_twins" uW ad.a_q15 ad.d_q15
 b_q15:Binds K ad.d_q15 ["pot","most_rows","most_unlike"] []
 k_q15:W.keepIn K (.ref ad.a_q15)=true
 m_q15:mg "_law_twins"=some (.ref ad.a_q15)
 F_q16:Fun K "_law_name" "_law_name" tQ ad.a_q16 ad.d_q16
 b_q16:Binds K ad.d_q16 ["flags"] []
 k_q16:W.keepIn K (.ref ad.a_q16)=true
 m_q16:mg "_law_name"=some (.ref ad.a_q16)
 F_q11:Fun K "_law_kinds" "_law_kinds" ui ad.a_q11 ad.d_q11
 b_q11:Binds K ad.d_q11 ["e"] []
 k_q11:W.keepIn K (.ref ad.a_q11)=true
 m_q11:mg "_law_kinds"=some (.ref ad.a_q11)
 F_q12:Fun K "_law_alike" "_law_alike" uq ad.a_q12 ad.d_q12
 b_q12:Binds K ad.d_q12 ["found","due"] []
 k_q12:W.keepIn K (.ref ad.a_q12)=true
 m_q12:mg "_law_alike"=some (.ref ad.a_q12)
 F_q14:Fun K "_law_asked" "_law_asked" uP ad.a_q14 ad.d_q14
 b_q14:Binds K ad.d_q14 ["one","other"] []
 k_q14:W.keepIn K (.ref ad.a_q14)=true
 m_q14:mg "_law_asked"=some (.ref ad.a_q14)
 F_q20:Fun K "_law_bent" "_law_bent" uR ad.a_q20 ad.d_q20
 b_q20:Binds K ad.d_q20 ["pot","plan"] []
 k_q20:W.keepIn K (.ref ad.a_q20)=true
 m_q20:mg "_law_bent"=some (.ref ad.a_q20)
 F_q1:Fun K "_law_blocks_bent" "_law_blocks_bent" AH ad.a_q1 ad.d_q1
 b_q1:Binds K ad.d_q1 ["pot","plan"] []
 k_q1:W.keepIn K (.ref ad.a_q1)=true
 m_q1:mg "_law_blocks_bent"=some (.ref ad.a_q1)
 F_q5:Fun K "_law_put_both" "_law_put_both" zH ad.a_q5 ad.d_q5
 b_q5:Binds K ad.d_q5 ["pot","pair","news","deep"] []
 k_q5:W.keepIn K (.ref ad.a_q5)=true
 m_q5:mg "_law_put_both"=some (.ref ad.a_q5)
 F_q3:Fun K "_law_both_bent" "_law_both_bent" zJ ad.a_q3 ad.d_q3
 b_q3:Binds K ad.d_q3 ["pot","one","other"] []
 k_q3:W.keepIn K (.ref ad.a_q3)=true
 m_q3:mg "_law_both_bent"=some (.ref ad.a_q3)
 F_law:Fun K "law" "law" gR ad.a_law ad.d_law
 b_law:Binds K ad.d_law ["script"] []
 k_law:W.keepIn K (.ref ad.a_law)=true
 m_law:mg "law"=some (.ref ad.a_law)
 z_ValueError:mg "ValueError"=none
 z_all:mg "all"=none
 z_bool:mg "bool"=none
 z_enumerate:mg "enumerate"=none
 z_int:mg "int"=none
 z_isinstance:mg "isinstance"=none
 z_len:mg "len"=none
 z_list:mg "list"=none
 z_min:mg "min"=none
 z_range:mg "range"=none
 z_sorted:mg "sorted"=none
 z_str:mg "str"=none
 z_tuple:mg "tuple"=none
 z_zip:mg "zip"=none
abbrev O1(P:Program)(w:World)(K:W.Frag)(mg:Str->Option Value)(base:Heap)(ad:Ad):Prop:=FnOk P w K mg base (cQ P w) 1 ad.a_q8 ad.d_q8 ["row"] (aR K 1 (lK ad))
abbrev O2(P:Program)(w:World)(K:W.Frag)(mg:Str->Option Value)(base:Heap)(ad:Ad):Prop:=FnOk P w K mg base (cQ P w) 1 ad.a_q22 ad.d_q22 ["row"] (aR K 1 (qT ad))
abbrev O3(P:Program)(w:World)(K:W.Frag)(mg:Str->Option Value)(base:Heap)(ad:Ad):Prop:=FnOk P w K mg base (cQ P w) 2 ad.a_q0 ad.d_q0 ["row","other"] (aR K 2 (xZ ad))
abbrev O4(P:Program)(w:World)(K:W.Frag)(mg:Str->Option Value)(base:Heap)(ad:Ad):Prop:=FnOk P w K mg base (cQ P w) 27 ad.a_q9 ad.d_q9 ["one","other"] (aR K 2 (j5 ad))
abbrev O5(P:Program)(w:World)(K:W.Frag)(mg:Str->Option Value)(base:Heap)(ad:Ad):Prop:=FnOk P w K mg base (cQ P w) 1 ad.a_q7 ad.d_q7 ["cell","turn"] (aR K 2 (p8 ad))
abbrev O6(P:Program)(w:World)(K:W.Frag)(mg:Str->Option Value)(base:Heap)(ad:Ad):Prop:=FnOk P w K mg base (cQ P w) 1 ad.a_q23 ad.d_q23 ["script"] (aR K 1 (rl ad))
abbrev O7(P:Program)(w:World)(K:W.Frag)(mg:Str->Option Value)(base:Heap)(ad:Ad):Prop:=FnOk P w K mg base (cQ P w) 2 ad.a_q17 ad.d_q17 ["pot","many"] (aR K 2 (bE ad))
abbrev O8(P:Program)(w:World)(K:W.Frag)(mg:Str->Option Value)(base:Heap)(ad:Ad):Prop:=FnOk P w K mg base (cQ P w) 3 ad.a_q10 ad.d_q10 ["pot","many"] (aR K 2 (qM ad))
abbrev O9(P:Program)(w:World)(K:W.Frag)(mg:Str->Option Value)(base:Heap)(ad:Ad):Prop:=FnOk P w K mg base (cQ P w) 3 ad.a_q21 ad.d_q21 ["pot","told"] (aR K 2 (kQ ad))
abbrev O10(P:Program)(w:World)(K:W.Frag)(mg:Str->Option Value)(base:Heap)(ad:Ad):Prop:=FnOk P w K mg base (cQ P w) 28 ad.a_q19 ad.d_q19 ["pot","most"] (aR K 2 (qD ad))
abbrev O11(P:Program)(w:World)(K:W.Frag)(mg:Str->Option Value)(base:Heap)(ad:Ad):Prop:=FnOk P w K mg base (cQ P w) 24 ad.a_q6 ad.d_q6 ["rows"] (aR K 1 (S_q6 ad 24))
abbrev O12(P:Program)(w:World)(K:W.Frag)(mg:Str->Option Value)(base:Heap)(ad:Ad):Prop:=FnOk P w K mg base (cQ P w) 49 ad.a_q15 ad.d_q15 ["pot","most_rows","most_unlike"] (aR K 3 (qr ad))
abbrev O13(P:Program)(w:World)(K:W.Frag)(mg:Str->Option Value)(base:Heap)(ad:Ad):Prop:=FnOk P w K mg base (cQ P w) 1 ad.a_q16 ad.d_q16 ["flags"] (aR K 1 (on ad))
abbrev O14(P:Program)(w:World)(K:W.Frag)(mg:Str->Option Value)(base:Heap)(ad:Ad):Prop:=FnOk P w K mg base (cQ P w) 28 ad.a_q14 ad.d_q14 ["one","other"] (aR K 2 (jN ad))
abbrev O15(P:Program)(w:World)(K:W.Frag)(mg:Str->Option Value)(base:Heap)(ad:Ad):Prop:=FnOk P w K mg base (cQ P w) 3 ad.a_q20 ad.d_q20 ["pot","plan"] (aR K 2 (rf ad))
abbrev O16(P:Program)(w:World)(K:W.Frag)(mg:Str->Option Value)(base:Heap)(ad:Ad):Prop:=FnOk P w K mg base (cQ P w) 3 ad.a_q1 ad.d_q1 ["pot","plan"] (aR K 2 (yw ad))
abbrev O17(P:Program)(w:World)(K:W.Frag)(mg:Str->Option Value)(base:Heap)(ad:Ad):Prop:=FnOk P w K mg base (cQ P w) 27 ad.a_q3 ad.d_q3 ["pot","one","other"] (aR K 3 (wQ ad))
abbrev O18(P:Program)(w:World)(K:W.Frag)(mg:Str->Option Value)(base:Heap)(ad:Ad):Prop:=FnOk P w K mg base (cQ P w) 50 ad.a_law ad.d_law ["script"] (aR K 1 (u8 ad))
section
variable {P:Program}{w:World}{K:W.Frag}{mg:Str->Option Value}{base:Heap}{ad:Ad}
theorem Ci(En:En K mg ad)  : O1 P w K mg base ad:=by
 refine jc (k:=0) (T:=vb ad) En.F_q8 C_ fun cdv A outer s H E B EE hr ux=>?_;have hU:=hr.units;have hu:=cC hr;unfold vb
 exact (aj (bG (aO (bL hU) (aI (ay hu) (ap 0) ah (fun _ _=>rfl)) aJ (aM _)) (av (a_ (bu (aa (aI (ay hu) (ap 0) ah (fun _ _=>rfl)) (aa (aI (ay hu) (ap 0) ah (fun _ _=>rfl)) af))))) ba)
  (aj (bG (aO (bL hU) (aI (ay hu) (ap 0) ah (fun _ _=>rfl)) aJ (aM _)) (av (a_ (bu (aa (aI (ay hu) (ap 0) ah (fun _ _=>rfl)) af)))) ba)
  (av (a_ (bu af)))))
theorem AI(En:En K mg ad)  : O2 P w K mg base ad:=by
 refine jc (k:=0) (T:=nK ad) En.F_q22 A0 fun cdv A outer s H E B EE hr ux=>?_;have hU:=hr.units;have hu:=cC hr;unfold nK;exact (av (a_ (h7 (aO (bL hU) (aI (ay hu) (ap 0) ah (fun _ _=>rfl)) aJ (aM _)) (bu (aa ah (aa ah af))) (bu (aa ah af)))))
theorem CS(En:En K mg ad)(G_q8:O1 P w K mg base ad):O3 P w K mg base ad:=by
 refine jc (k:=1) (T:=vN ad) En.F_q0 CZ fun cdv A outer s H E B EE hr ux=>?_;have hU:=hr.units;have hu:=cC hr;unfold vN
 exact (aj (bG (cK (fT (aO (bL hU) (aI (ay hu) (ap 0) ah (fun _ _=>rfl)) aJ (aM _)) (eT (aO (bL hU) (aI (ay hu) (ap 1) ah (fun _ _=>rfl)) aJ (aM _))))) (av (gZ En.x_NoBuild En.mC_NoBuild ux rfl)) ba)
  (av (bG (cK (cH (cK (fT (dh (ao (aw G_q8 (hr.mono (by decide)) rfl En.m_q8 En.k_q8 En.b_q8 aQ ux (aa (ap 0) af)))) (eT (dh (ao (aw G_q8 (hr.mono (by decide)) rfl En.m_q8 En.k_q8 En.b_q8 aQ ux (aa (ap 1) af))))))) (cS (aO (cW hU) (ao (aY (ap 0) bj (bd ah))) (ao (aY (ap 1) bj (bd ah))) (aM _))))) (av (gZ En.x_NoBuild En.mC_NoBuild ux rfl)) ba)))
theorem pB(En:En K mg ad)(G_q22:O2 P w K mg base ad)(G_q0:O3 P w K mg base ad)(G_q8:O1 P w K mg base ad)(n:Nat)(G_q24:FnOk P w K mg base (cQ P w) (2+n) ad.a_q24 ad.d_q24 ["rows","others","place"] (aR K 3 (S_q24 ad n)))(G_q4:FnOk P w K mg base (cQ P w) (2+n) ad.a_q4 ad.d_q4 ["row","other","place"] (aR K 3 (S_q4 ad n))):FnOk P w K mg base (cQ P w) (2+n+1) ad.a_q24 ad.d_q24 ["rows","others","place"] (aR K 3 (S_q24 ad (n+1))):=by
 refine jc (k:=2+n) (T:=nk ad (S_q24 ad n) (S_q4 ad n)) En.F_q24 sc_q24 fun cdv A outer s H E B EE hr ux=>?_;have hU:=hr.units;have hu:=cC hr;unfold nk
 exact (aj (bG (aO (cW hU) (aS bv rfl En.z_len bS (aa (ap 0) af)) (aS bv rfl En.z_len bS (aa (ap 1) af)) (aM _)) (av (gZ En.x_NoBuild En.mC_NoBuild ux rfl)) ba)
  (aj (aH (i:=3) sc_q24.nd rfl (Or.inl rfl) (bu af))
  (aj (fu PassesOwn.leaving rfl (qI rfl En.z_enumerate (aa (ap 0) af)) (de (n:=2) rfl (aN (aL (i:=4) sc_q24.nd rfl (Or.inl rfl)) (aN (aL (i:=5) sc_q24.nd rfl (Or.inl rfl)) cy))) (aj (dz (aw G_q0 (hr.mono (by lia)) rfl En.m_q0 En.k_q0 En.b_q0 aQ ux (aa (ap 5) (aa (aI (ay hu) (ap 1) (ap 4) (fun _ _=>rfl)) af))))
   (av (bG (dh (ao (aw G_q8 (hr.mono (by lia)) rfl En.m_q8 En.k_q8 En.b_q8 aQ ux (aa (ap 5) af)))) (av (dz (fD (Or.inl rfl) PySem.F.plainAttrs_list PySem.F.slot_list_extend PySem.F.type_list_extend jD (ap 3) (aa (ao (aw G_q4 (hr.mono (by lia)) rfl En.m_q4 En.k_q4 En.b_q4 aQ ux (aa (ap 5) (aa (aI (ay hu) (ap 1) (ap 4) (fun _ _=>rfl)) (aa (aP aG (ap 2) (az (aa (ap 4) af))) af))))) af)))) (av (dz (fD (Or.inl rfl) PySem.F.plainAttrs_list PySem.F.slot_list_append PySem.F.type_list_append dg (ap 3) (aa (az (aa (aP aG (ap 2) (az (aa (ap 4) af))) (aa (ap 5) (aa (aI (ay hu) (ap 1) (ap 4) (fun _ _=>rfl)) af)))) af))))))))
  (av (a_ (ap 3))))))
theorem gT(En:En K mg ad)(G_q22:O2 P w K mg base ad)(G_q0:O3 P w K mg base ad)(G_q8:O1 P w K mg base ad)(n:Nat)(G_q24:FnOk P w K mg base (cQ P w) (2+n) ad.a_q24 ad.d_q24 ["rows","others","place"] (aR K 3 (S_q24 ad n)))(G_q4:FnOk P w K mg base (cQ P w) (2+n) ad.a_q4 ad.d_q4 ["row","other","place"] (aR K 3 (S_q4 ad n))):FnOk P w K mg base (cQ P w) (2+n+1) ad.a_q4 ad.d_q4 ["row","other","place"] (aR K 3 (S_q4 ad (n+1))):=by
 refine jc (k:=2+n) (T:=vS ad (S_q24 ad n) (S_q4 ad n)) En.F_q4 sc_q4 fun cdv A outer s H E B EE hr ux=>?_;have hU:=hr.units;have hu:=cC hr;unfold vS
 exact (aj (aH (i:=3) sc_q4.nd rfl (Or.inl rfl) (bu af))
  (aj (fu PassesOwn.leaving rfl (wo rfl En.z_zip (aa (ao (aw G_q22 (hr.mono (by lia)) rfl En.m_q22 En.k_q22 En.b_q22 aQ ux (aa (ap 0) af))) (aa (ao (aw G_q8 (hr.mono (by lia)) rfl En.m_q8 En.k_q8 En.b_q8 aQ ux (aa (ap 0) af))) (aa (ao (aw G_q8 (hr.mono (by lia)) rfl En.m_q8 En.k_q8 En.b_q8 aQ ux (aa (ap 1) af))) af)))) (de (n:=3) rfl (aN (aL (i:=4) sc_q4.nd rfl (Or.inl rfl)) (aN (aL (i:=5) sc_q4.nd rfl (Or.inl rfl)) (aN (aL (i:=6) sc_q4.nd rfl (Or.inl rfl)) cy)))) (av (dz (fD (Or.inl rfl) PySem.F.plainAttrs_list PySem.F.slot_list_extend PySem.F.type_list_extend jD (ap 3) (aa (ao (aw G_q24 (hr.mono (by lia)) rfl En.m_q24 En.k_q24 En.b_q24 aQ ux (aa (ap 5) (aa (ap 6) (aa (aP aG (ap 2) (az (aa (ap 4) af))) af))))) af)))))
  (av (a_ (ap 3)))))
theorem k8(En:En K mg ad)(G_q22:O2 P w K mg base ad)(G_q0:O3 P w K mg base ad)(G_q8:O1 P w K mg base ad):∀n:Nat,FnOk P w K mg base (cQ P w) (2+n) ad.a_q24 ad.d_q24 ["rows","others","place"] (aR K 3 (S_q24 ad n))/\FnOk P w K mg base (cQ P w) (2+n) ad.a_q4 ad.d_q4 ["row","other","place"] (aR K 3 (S_q4 ad n))
 |0=>⟨fX,fX⟩
 |n+1=>by
  obtain ⟨G_q24,G_q4⟩:=k8 En G_q22 G_q0 G_q8 n;exact ⟨pB En G_q22 G_q0 G_q8 n G_q24 G_q4,gT En G_q22 G_q0 G_q8 n G_q24 G_q4⟩
theorem CJ(En:En K mg ad)(G_q24:FnOk P w K mg base (cQ P w) 26 ad.a_q24 ad.d_q24 ["rows","others","place"] (aR K 3 (S_q24 ad 24))):O4 P w K mg base ad:=by
 refine jc (k:=26) (T:=sB ad) En.F_q9 sc_q9 fun cdv A outer s H E B EE hr ux=>?_;have hU:=hr.units;have hu:=cC hr;unfold sB
 exact (aj (bG (cK (fT (aO (cW hU) (ao (aY (ap 0) bj (bd ah))) (ao (aY (ap 1) bj (bd ah))) (aM _)) (eT (aO (cW hU) (aI (ay hu) (ap 0) ah (fun _ _=>rfl)) (aI (ay hu) (ap 1) ah (fun _ _=>rfl)) (aM _))))) (av (gZ En.x_NoBuild En.mC_NoBuild ux rfl)) ba)
  (aj (aH (i:=2) sc_q9.nd rfl (Or.inl rfl) (ao (aw G_q24 (hr.mono (by decide)) rfl En.m_q24 En.k_q24 En.b_q24 aQ ux (aa (aI (ay hu) (ap 0) ah (fun _ _=>rfl)) (aa (aI (ay hu) (ap 1) ah (fun _ _=>rfl)) (aa (az af) af))))))
  (av (a_ (aS h_ rfl En.z_sorted jV (aa (ao (f_ (ls:=["place","row","beside"]) (fs:=[]) (js:=[]) rfl (ib rfl (by decide +kernel) (by decide +kernel)) (fP (ap 2)) (fun C' s₀ H₀ fp pl'=>⟨(de (n:=3) rfl (aN (aL (i:=0) (show List.Nodup [("place":Str),("row":Str),("beside":Str)] from (by decide +kernel)) rfl (Or.inl rfl)) (aN (aL (i:=1) (show List.Nodup [("place":Str),("row":Str),("beside":Str)] from (by decide +kernel)) rfl (Or.inl rfl)) (aN (aL (i:=2) (show List.Nodup [("place":Str),("row":Str),("beside":Str)] from (by decide +kernel)) rfl (Or.inl rfl)) cy)))),(qj (aO (cW hU) (ap 1) (ap 2) (aM _))),(ap 0)⟩))) af))))))
theorem C3(En:En K mg ad)  : O5 P w K mg base ad:=by
 refine jc (k:=0) (T:=uw ad) En.F_q7 sc_q7 fun cdv A outer s H E B EE hr ux=>?_;have hU:=hr.units;have hu:=cC hr;unfold uw
 exact (aj (aH (i:=2) sc_q7.nd rfl (Or.inl rfl) (aP fi (aP aG (aP aG (aP gj (ap 0) ah) (aP gj (ap 1) ah)) ah) ah))
  (aj (aH (i:=2) sc_q7.nd rfl (Or.inl rfl) (aP fi (aP gj (aP xt (ap 2) (aP jO (ap 2) ah)) ah) ah))
  (av (a_ (aP jO (ap 2) ah)))))
theorem BC(En:En K mg ad)  : O6 P w K mg base ad:=by
 refine jc (k:=0) (T:=nh ad) En.F_q23 sc_q23 fun cdv A outer s H E B EE hr ux=>?_;have hU:=hr.units;have hu:=cC hr;unfold nh
 exact (aj (aH (i:=1) sc_q23.nd rfl (Or.inl rfl) ah)
  (aj (fu PassesOwn.leaving rfl (fP (ao (aY (ap 0) bj (bd ah)))) (aL (i:=2) sc_q23.nd rfl (Or.inl rfl)) (av (aH (i:=1) sc_q23.nd rfl (Or.inl rfl) (aP fi (aP aG (aP gj (ap 1) ah) (ap 2)) ah))))
  (av (a_ (bu (aa (dY oU rfl En.z_list jK (aa (ao (aY (ap 0) bj (bd ah))) af)) (aa ah (aa ah (aa (ap 1) af)))))))))
theorem A8(En:En K mg ad)(G_q7:O5 P w K mg base ad):O7 P w K mg base ad:=by
 refine jc (k:=1) (T:=o6 ad) En.F_q17 sc_q17 fun cdv A outer s H E B EE hr ux=>?_;have hU:=hr.units;have hu:=cC hr;unfold o6
 exact (aj (cU (aP aG (aI (ay hu) (ap 0) ah (fun _ _=>rfl)) ah) (iK hu (ap 0) ah))
  (aj (bG (cK (cH (aO (bL hU) (aI (ay hu) (ap 0) ah (fun _ _=>rfl)) ah (aM _)) (cS (aO (cW hU) (aI (ay hu) (ap 0) ah (fun _ _=>rfl)) (ao (bu af)) (aM _))))) (aj (aH (i:=2) sc_q17.nd rfl (Or.inl rfl) (fD (Or.inl rfl) PySem.F.plainAttrs_list PySem.F.slot_list_pop PySem.F.type_list_pop yc (aI (ay hu) (ap 0) ah (fun _ _=>rfl)) (aa ah af)))
   (aj (bG (aO eQ (ap 2) (aP xm ah ah) (aM _)) (av (a_ (aP fi (ao (aw G_q7 (hr.mono (by decide)) rfl En.m_q7 En.k_q7 En.b_q7 aQ ux (aa (ap 2) (aa (aI (ay hu) (ap 0) ah (fun _ _=>rfl)) af)))) (ap 1)))) ba)
   (av (cU (ap 2) (iK hu (ap 0) ah))))) ba)
  (aj (bG (aO (bL hU) (aI (ay hu) (ap 0) ah (fun _ _=>rfl)) ah (aM _)) (av (a_ (aP fi (ao (aw G_q7 (hr.mono (by decide)) rfl En.m_q7 En.k_q7 En.b_q7 aQ ux (aa (aI (ay hu) (ap 0) ah (fun _ _=>rfl)) (aa (aI (ay hu) (ap 0) ah (fun _ _=>rfl)) af)))) (ap 1)))) ba)
  (aj (aH (i:=3) sc_q17.nd rfl (Or.inl rfl) (aP fi (aI (ay hu) (ap 0) ah (fun _ _=>rfl)) (ap 1)))
  (aj (cU (aP jO (aI (ay hu) (ap 0) ah (fun _ _=>rfl)) (ap 1)) (iK hu (ap 0) ah))
  (av (a_ (ap 3))))))))
theorem BA(En:En K mg ad)(G_q17:O7 P w K mg base ad):O8 P w K mg base ad:=by
 refine jc (k:=2) (T:=mO ad) En.F_q10 sc_q10 fun cdv A outer s H E B EE hr ux=>?_;have hU:=hr.units;have hu:=cC hr;unfold mO
 exact (aj (aH (i:=2) sc_q10.nd rfl (Or.inl rfl) (ao (aw G_q17 (hr.mono (by decide)) rfl En.m_q17 En.k_q17 En.b_q17 aQ ux (aa (ap 0) (aa ah af)))))
  (aj (aH (i:=3) sc_q10.nd rfl (Or.inl rfl) (bu af))
  (aj (fu PassesOwn.leaving rfl (iG rfl En.z_range (aa (ap 1) af)) (aL (i:=4) sc_q10.nd rfl (Or.inl rfl)) (aj (aH (i:=5) sc_q10.nd rfl (Or.inl rfl) (aI (ay hu) aJ (aP fi (aP aG (ap 2) (aP gj ah (ap 4))) ah) (fun _ _=>rfl)))
   (av (dz (fD (Or.inl rfl) PySem.F.plainAttrs_list PySem.F.slot_list_append PySem.F.type_list_append dg (ap 3) (aa (aP gj (ap 5) (aP aG ah (ao (aw G_q17 (hr.mono (by decide)) rfl En.m_q17 En.k_q17 En.b_q17 aQ ux (aa (ap 0) (aa ah af)))))) af))))))
  (av (a_ (dY dL rfl En.z_tuple dI (aa (ap 3) af)))))))
theorem Bv(En:En K mg ad)(G_q17:O7 P w K mg base ad):O9 P w K mg base ad:=by
 refine jc (k:=2) (T:=ow ad) En.F_q21 sc_q21 fun cdv A outer s H E B EE hr ux=>?_;have hU:=hr.units;have hu:=cC hr;unfold ow;refine aj ?_ ?_
 ·exact (cU (ap 1) (de (n:=3) rfl (aN (aL (i:=2) sc_q21.nd rfl (Or.inl rfl)) (aN (aL (i:=3) sc_q21.nd rfl (Or.inl rfl)) (aN (aL (i:=4) sc_q21.nd rfl (Or.inl rfl)) cy)))))
 refine aj ?_ ?_
 ·refine aH (i:=5) (hs:=?_) (hf:=?_) ?_ ?_ ?_ ?_
  ·exact sc_q21.nd
  ·rfl
  ·exact Or.inl rfl
  ·refine ao ?_
   refine bu ?_;refine bW ?_ ?_ ?_
   ·exact aJ
   ·refine bW ?_ ?_ ?_
    ·exact aJ
    ·refine bW ?_ ?_ ?_
     ·exact aJ
     ·refine bW ?_ ?_ ?_
      ·exact aJ
      ·refine bW ?_ ?_ ?_
       ·exact aJ
       ·refine bW ?_ ?_ ?_
        ·exact aJ
        ·refine bW ?_ ?_ ?_
         ·exact aJ
         ·refine bW ?_ ?_ ?_
          ·exact aJ
          ·refine bW ?_ ?_ ?_
           ·exact aJ
           ·exact af
           ·rfl
          ·rfl
         ·rfl
        ·rfl
       ·rfl
      ·rfl
     ·rfl
    ·rfl
   ·rfl
  ·rfl
  ·exact .inl rfl
 refine aj ?_ ?_
 ·exact (aH (i:=6) sc_q21.nd rfl (Or.inl rfl) (aI (ay hu) (ap 5) (ao (aw G_q17 (hr.mono (by decide)) rfl En.m_q17 En.k_q17 En.b_q17 aQ ux (aa (ap 0) (aa (h7 (aO fK (ap 4) ah (aM _)) ah ah) af)))) (fun _ _=>rfl)))
 refine aj ?_ ?_
 ·exact (aH (i:=7) sc_q21.nd rfl (Or.inl rfl) (aI (ay hu) (ap 3) (ao (aw G_q17 (hr.mono (by decide)) rfl En.m_q17 En.k_q17 En.b_q17 aQ ux (aa (ap 0) (aa (aS bv rfl En.z_len bS (aa (ap 3) af)) af)))) (fun _ _=>rfl)))
 refine aj ?_ ?_
 ·exact (bG (aO (bL hU) (ap 6) aJ (aM _)) (av (a_ (az (aa (ap 6) (aa (ap 7) (aa (aw G_q17 (hr.mono (by decide)) rfl En.m_q17 En.k_q17 En.b_q17 aQ ux (aa (ap 0) (aa (ap 2) af))) af)))))) ba)
 refine aj ?_ ?_
 ·exact (bG (aO (bL hU) (ap 6) aJ (aM _)) (av (a_ (az (aa (ap 6) (aa (ap 7) (aa (aw G_q17 (hr.mono (by decide)) rfl En.m_q17 En.k_q17 En.b_q17 aQ ux (aa (ap 0) (aa (ap 4) af))) af)))))) ba)
 refine aj ?_ ?_
 ·exact (aH (i:=8) sc_q21.nd rfl (Or.inl rfl) (aI (ay hu) (ap 3) (ao (aw G_q17 (hr.mono (by decide)) rfl En.m_q17 En.k_q17 En.b_q17 aQ ux (aa (ap 0) (aa (aS bv rfl En.z_len bS (aa (ap 3) af)) af)))) (fun _ _=>rfl)))
 refine aj ?_ ?_
 ·exact (bG (aO (bL hU) (ap 6) aJ (aM _)) (av (a_ (az (aa (ap 6) (aa (ap 7) (aa (ap 8) af)))))) ba)
 refine av ?_;exact (a_ (az (aa (ap 6) (aa (ap 7) (aa (ap 8) (aa (aI (ay hu) (ap 3) (ao (aw G_q17 (hr.mono (by decide)) rfl En.m_q17 En.k_q17 En.b_q17 aQ ux (aa (ap 0) (aa (aS bv rfl En.z_len bS (aa (ap 3) af)) af)))) (fun _ _=>rfl)) af))))))
theorem jR(En:En K mg ad)(G_q17:O7 P w K mg base ad)(G_q21:O9 P w K mg base ad)(n:Nat)(G_q13:FnOk P w K mg base (cQ P w) (3+n) ad.a_q13 ad.d_q13 ["pot","told","room","deep"] (aR K 4 (S_q13 ad n)))(G_q18:FnOk P w K mg base (cQ P w) (3+n) ad.a_q18 ad.d_q18 ["pot","told","room","deep","most"] (aR K 5 (S_q18 ad n))):FnOk P w K mg base (cQ P w) (3+n+1) ad.a_q13 ad.d_q13 ["pot","told","room","deep"] (aR K 4 (S_q13 ad (n+1))):=by
 refine jc (k:=3+n) (T:=nC ad (S_q13 ad n) (S_q18 ad n)) En.F_q13 sc_q13 fun cdv A outer s H E B EE hr ux=>?_;have hU:=hr.units;have hu:=cC hr;unfold nC
 exact (aj (cU (ap 1) (de (n:=3) rfl (aN (aL (i:=4) sc_q13.nd rfl (Or.inl rfl)) (aN (aL (i:=5) sc_q13.nd rfl (Or.inl rfl)) (aN (aL (i:=6) sc_q13.nd rfl (Or.inl rfl)) cy)))))
  (aj (aH (i:=7) sc_q13.nd rfl (Or.inl rfl) (aI (ay hu) (ap 5) (ao (aw G_q17 (hr.mono (by lia)) rfl En.m_q17 En.k_q17 En.b_q17 aQ ux (aa (ap 0) (aa (aS bv rfl En.z_len bS (aa (ap 5) af)) af)))) (fun _ _=>rfl)))
  (aj (aH (i:=8) sc_q13.nd rfl (Or.inl rfl) (ao (aw G_q18 (hr.mono (by lia)) rfl En.m_q18 En.k_q18 En.b_q18 aQ ux (aa (ap 0) (aa (ap 1) (aa (ap 2) (aa (aP aG (ap 3) ah) (aa ah af))))))))
  (aj (aH (i:=9) sc_q13.nd rfl (Or.inl rfl) (ao (aw G_q17 (hr.mono (by lia)) rfl En.m_q17 En.k_q17 En.b_q17 aQ ux (aa (ap 0) (aa ah af)))))
  (aj (bG (aO eQ (ap 9) ah (aM _)) (av (a_ (bu (aa (az (aa aJ (aa (ap 7) (aa (ap 8) (aa (aw G_q18 (hr.mono (by lia)) rfl En.m_q18 En.k_q18 En.b_q18 aQ ux (aa (ap 0) (aa (ap 1) (aa (ap 2) (aa (aP aG (ap 3) ah) (aa ah af)))))) af))))) af)))) ba)
  (aj (bG (aO (bL hU) (ap 9) ah (aM _)) (av (a_ (bu (aa (az (aa aJ (aa (ap 7) (aa (ap 8) af)))) af)))) ba)
  (aj (aH (i:=10) sc_q13.nd rfl (Or.inl rfl) (aI (ay hu) (ap 5) (ao (aw G_q17 (hr.mono (by lia)) rfl En.m_q17 En.k_q17 En.b_q17 aQ ux (aa (ap 0) (aa (aS bv rfl En.z_len bS (aa (ap 5) af)) af)))) (fun _ _=>rfl)))
  (av (a_ (bu (aa (az (aa aJ (aa (ap 7) (aa (aw G_q17 (hr.mono (by lia)) rfl En.m_q17 En.k_q17 En.b_q17 aQ ux (aa (ap 0) (aa (aS (rO rfl) rfl En.z_min wH (aa (ap 4) (aa ah af))) af))) af)))) (aa (az (aa aJ (aa (ap 10) (aa (aP gW (ap 4) ah) af)))) (aa (az (aa aJ (aa (ap 7) (aa (aP aG (ap 8) (az (aa (az (aa aJ (aa (ap 7) (aa (ap 7) (aa (ap 10) af))))) af))) af)))) af)))))))))))))
theorem kw(En:En K mg ad)(G_q17:O7 P w K mg base ad)(G_q21:O9 P w K mg base ad)(n:Nat)(G_q13:FnOk P w K mg base (cQ P w) (3+n) ad.a_q13 ad.d_q13 ["pot","told","room","deep"] (aR K 4 (S_q13 ad n)))(G_q18:FnOk P w K mg base (cQ P w) (3+n) ad.a_q18 ad.d_q18 ["pot","told","room","deep","most"] (aR K 5 (S_q18 ad n))):FnOk P w K mg base (cQ P w) (3+n+1) ad.a_q18 ad.d_q18 ["pot","told","room","deep","most"] (aR K 5 (S_q18 ad (n+1))):=by
 refine jc (k:=3+n) (T:=nG ad (S_q13 ad n) (S_q18 ad n)) En.F_q18 sc_q18 fun cdv A outer s H E B EE hr ux=>?_;have hU:=hr.units;have hu:=cC hr;unfold nG
 exact (aj (aH (i:=5) sc_q18.nd rfl (Or.inl rfl) (bu af))
  (aj (fu PassesOwn.leaving rfl (iG rfl En.z_range (aa (ao (aw G_q17 (hr.mono (by lia)) rfl En.m_q17 En.k_q17 En.b_q17 aQ ux (aa (ap 0) (aa (ap 4) af)))) af)) (aL (i:=6) sc_q18.nd rfl (Or.inl rfl)) (av (bG (cK (cH (aO fK (aI (ay hu) (ap 2) ah (fun _ _=>rfl)) ah (aM _)) (cH (aO eQ (ap 3) ah (aM _)) (cS (aO (bL hU) (ao (aw G_q17 (hr.mono (by lia)) rfl En.m_q17 En.k_q17 En.b_q17 aQ ux (aa (ap 0) (aa ah af)))) ah (aM _)))))) (aj (cU (aP gW (aI (ay hu) (ap 2) ah (fun _ _=>rfl)) ah) (iK hu (ap 2) ah))
    (av (aH (i:=5) sc_q18.nd rfl (Or.inl rfl) (aP aG (ap 5) (ao (aw G_q13 (hr.mono (by lia)) rfl En.m_q13 En.k_q13 En.b_q13 aQ ux (aa (ap 0) (aa (ap 1) (aa (ap 2) (aa (ap 3) af)))))))))) (av (bG (aO fK (aI (ay hu) (ap 2) ah (fun _ _=>rfl)) ah (aM _)) (aj (cU (aP gW (aI (ay hu) (ap 2) ah (fun _ _=>rfl)) ah) (iK hu (ap 2) ah))
     (av (dz (fD (Or.inl rfl) PySem.F.plainAttrs_list PySem.F.slot_list_append PySem.F.type_list_append dg (ap 5) (aa (ao (aw G_q21 (hr.mono (by lia)) rfl En.m_q21 En.k_q21 En.b_q21 aQ ux (aa (ap 0) (aa (ap 1) af)))) af))))) ba)))))
  (av (a_ (dY dL rfl En.z_tuple dI (aa (ap 5) af))))))
theorem fR(En:En K mg ad)(G_q17:O7 P w K mg base ad)(G_q21:O9 P w K mg base ad):∀n:Nat,FnOk P w K mg base (cQ P w) (3+n) ad.a_q13 ad.d_q13 ["pot","told","room","deep"] (aR K 4 (S_q13 ad n))/\FnOk P w K mg base (cQ P w) (3+n) ad.a_q18 ad.d_q18 ["pot","told","room","deep","most"] (aR K 5 (S_q18 ad n))
 |0=>⟨fX,fX⟩
 |n+1=>by
  obtain ⟨G_q13,G_q18⟩:=fR En G_q17 G_q21 n;exact ⟨jR En G_q17 G_q21 n G_q13 G_q18,kw En G_q17 G_q21 n G_q13 G_q18⟩
theorem By(En:En K mg ad)(G_q17:O7 P w K mg base ad)(G_q10:O8 P w K mg base ad)(G_q18:FnOk P w K mg base (cQ P w) 27 ad.a_q18 ad.d_q18 ["pot","told","room","deep","most"] (aR K 5 (S_q18 ad 24))):O10 P w K mg base ad:=by
 refine jc (k:=27) (T:=nR ad) En.F_q19 sc_q19 fun cdv A outer s H E B EE hr ux=>?_;have hU:=hr.units;have hu:=cC hr;unfold nR
 exact (aj (aH (i:=2) sc_q19.nd rfl (Or.inl rfl) (aI (ay hu) (ao (bu (aa ah (aa ah (aa (aP aG ah (ao (aw G_q17 (hr.mono (by decide)) rfl En.m_q17 En.k_q17 En.b_q17 aQ ux (aa (ap 0) (aa ah af))))) (aa (aP aG ah (ao (aw G_q17 (hr.mono (by decide)) rfl En.m_q17 En.k_q17 En.b_q17 aQ ux (aa (ap 0) (aa ah af))))) af)))))) (ao (aw G_q17 (hr.mono (by decide)) rfl En.m_q17 En.k_q17 En.b_q17 aQ ux (aa (ap 0) (aa ah af)))) (fun _ _=>rfl)))
  (aj (aH (i:=3) sc_q19.nd rfl (Or.inl rfl) (ao (aw G_q10 (hr.mono (by decide)) rfl En.m_q10 En.k_q10 En.b_q10 aQ ux (aa (ap 0) (aa (aP aG ah (ao (aw G_q17 (hr.mono (by decide)) rfl En.m_q17 En.k_q17 En.b_q17 aQ ux (aa (ap 0) (aa (aI (ay hu) (ao (bu (aa ah (aa ah (aa ah af))))) (ao (aw G_q17 (hr.mono (by decide)) rfl En.m_q17 En.k_q17 En.b_q17 aQ ux (aa (ap 0) (aa ah af)))) (fun _ _=>rfl)) af))))) af)))))
  (aj (aH (i:=4) sc_q19.nd rfl (Or.inl rfl) (aI (ay hu) (ao (bu (aa ah (aa (aP aG ah (ao (aw G_q17 (hr.mono (by decide)) rfl En.m_q17 En.k_q17 En.b_q17 aQ ux (aa (ap 0) (aa ah af))))) (aa (ao (aw G_q17 (hr.mono (by decide)) rfl En.m_q17 En.k_q17 En.b_q17 aQ ux (aa (ap 0) (aa ah af)))) af))))) (ao (aw G_q17 (hr.mono (by decide)) rfl En.m_q17 En.k_q17 En.b_q17 aQ ux (aa (ap 0) (aa ah af)))) (fun _ _=>rfl)))
  (aj (aH (i:=5) sc_q19.nd rfl (Or.inl rfl) (ao (aw G_q18 (hr.mono (by decide)) rfl En.m_q18 En.k_q18 En.b_q18 aQ ux (aa (ap 0) (aa (az (aa (ap 2) (aa (ap 3) (aa (ap 4) af)))) (aa (bu (aa (ap 1) af)) (aa ah (aa (aI (ay hu) (ao (bu (aa ah (aa ah (aa ah af))))) (ao (aw G_q17 (hr.mono (by decide)) rfl En.m_q17 En.k_q17 En.b_q17 aQ ux (aa (ap 0) (aa ah af)))) (fun _ _=>rfl)) af))))))))
  (av (a_ (az (aa (ap 2) (aa (ap 3) (aa (ap 4) (aa (ap 5) (aa (aI (ay hu) (ap 3) (ao (aw G_q17 (hr.mono (by decide)) rfl En.m_q17 En.k_q17 En.b_q17 aQ ux (aa (ap 0) (aa (aS bv rfl En.z_len bS (aa (ap 3) af)) af)))) (fun _ _=>rfl)) af))))))))))))
theorem h9(En:En K mg ad)  (n:Nat)(G_q6:FnOk P w K mg base (cQ P w) (0+n) ad.a_q6 ad.d_q6 ["rows"] (aR K 1 (S_q6 ad n))):FnOk P w K mg base (cQ P w) (0+n+1) ad.a_q6 ad.d_q6 ["rows"] (aR K 1 (S_q6 ad (n+1))):=by
 refine jc (k:=0+n) (T:=vB ad (S_q6 ad n)) En.F_q6 sc_q6 fun cdv A outer s H E B EE hr ux=>?_;have hU:=hr.units;have hu:=cC hr;unfold vB
 exact (aj (aH (i:=1) sc_q6.nd rfl (Or.inl rfl) (bu af))
  (aj (fu PassesOwn.leaving rfl (fP (ap 0)) (aL (i:=2) sc_q6.nd rfl (Or.inl rfl)) (aj (bG (aO (pk hU) (aI (ay hu) (ap 2) ah (fun _ _=>rfl)) (ao (bu (aa aJ (aa aJ af)))) (by rfl)) (av (aH (i:=2) sc_q6.nd rfl (Or.inl rfl) (ao (aP aG (ao (aY (ap 2) bj (bd ah))) (dY dL rfl En.z_tuple dI (aa (ao (f_ (ls:=["some"]) (fs:=[]) (js:=[]) rfl (ib rfl (by decide +kernel) (by decide +kernel)) (fP (ao (aY (ap 2) (bd ah) bj))) (fun C' s₀ H₀ fp pl'=>⟨(aL (i:=0) (show List.Nodup [("some":Str)] from (by decide +kernel)) rfl (Or.inl rfl)),jk,(ao (aw G_q6 (hr.mono (by lia)) rfl En.m_q6 En.k_q6 En.b_q6 pI uxN (aa (ap 0) af)))⟩))) af)))))) ba)
   (aj (bG (aO (bL hU) (aI (ay hu) (ap 2) ah (fun _ _=>rfl)) aJ (aM _)) (av (aH (i:=2) sc_q6.nd rfl (Or.inl rfl) (az (aa aJ (aa (aI (ay hu) (ap 2) ah (fun _ _=>rfl)) (aa ah af)))))) ba)
   (av (dz (fD (Or.inl rfl) PySem.F.plainAttrs_list PySem.F.slot_list_append PySem.F.type_list_append dg (ap 1) (aa (ap 2) af)))))))
  (av (a_ (dY dL rfl En.z_tuple dI (aa (ap 1) af))))))
theorem eI(En:En K mg ad)  : ∀n:Nat,FnOk P w K mg base (cQ P w) (0+n) ad.a_q6 ad.d_q6 ["rows"] (aR K 1 (S_q6 ad n))
 |0=>fX
 |n+1=>h9 En  n (eI En  n)
theorem gC(En:En K mg ad)(G_q17:O7 P w K mg base ad)(G_q6:O11 P w K mg base ad)(G_q21:O9 P w K mg base ad)(n:Nat)(G_q2:FnOk P w K mg base (cQ P w) (24+n) ad.a_q2 ad.d_q2 ["pot","work","rows","place"] (aR K 4 (S_q2 ad n))):FnOk P w K mg base (cQ P w) (24+n+1) ad.a_q2 ad.d_q2 ["pot","work","rows","place"] (aR K 4 (S_q2 ad (n+1))):=by
 refine jc (k:=24+n) (T:=ut ad (S_q2 ad n)) En.F_q2 sc_q2 fun cdv A outer s H E B EE hr ux=>?_;have hU:=hr.units;have hu:=cC hr;unfold ut
 exact (aj (aH (i:=4) sc_q2.nd rfl (Or.inl rfl) (bu af))
  (aj (fu PassesOwn.leaving rfl (qI rfl En.z_enumerate (aa (ap 2) af)) (de (n:=2) rfl (aN (aL (i:=5) sc_q2.nd rfl (Or.inl rfl)) (aN (aL (i:=6) sc_q2.nd rfl (Or.inl rfl)) cy))) (aj (aH (i:=7) sc_q2.nd rfl (Or.inl rfl) (aP aG (ap 3) (az (aa (ap 5) af))))
   (aj (bG (aO (bL hU) (aI (ay hu) (ap 6) ah (fun _ _=>rfl)) aJ (aM _)) (aj (aH (i:=8) sc_q2.nd rfl (Or.inl rfl) (ao (aw G_q2 (hr.mono (by lia)) rfl En.m_q2 En.k_q2 En.b_q2 aQ ux (aa (ap 0) (aa (ap 1) (aa (aI (ay hu) (ap 6) ah (fun _ _=>rfl)) (aa (aP aG (ap 7) (az (aa ah af))) af)))))))
    (aj (aH (i:=9) sc_q2.nd rfl (Or.inl rfl) (ao (aw G_q2 (hr.mono (by lia)) rfl En.m_q2 En.k_q2 En.b_q2 aQ ux (aa (ap 0) (aa (ap 1) (aa (aI (ay hu) (ap 6) ah (fun _ _=>rfl)) (aa (aP aG (ap 7) (az (aa ah af))) af)))))))
    (av (aH (i:=6) sc_q2.nd rfl (Or.inl rfl) (aP aG (ao (aY (ap 6) bj (bd ah))) (az (aa (ap 9) (aa (ap 8) af)))))))) (av (bG (aO (bL hU) (aI (ay hu) (ap 6) ah (fun _ _=>rfl)) aJ (aM _)) (aj (aH (i:=10) sc_q2.nd rfl (Or.inl rfl) (ao (aw G_q2 (hr.mono (by lia)) rfl En.m_q2 En.k_q2 En.b_q2 aQ ux (aa (ap 0) (aa (ap 1) (aa (aI (ay hu) (ap 6) ah (fun _ _=>rfl)) (aa (aP aG (ap 7) (az (aa ah af))) af)))))))
     (av (aH (i:=6) sc_q2.nd rfl (Or.inl rfl) (aP aG (ao (aY (ap 6) bj (bd ah))) (az (aa (ap 10) af)))))) (av (bG (cK (cH (aO fK (aI (ay hu) (ap 1) ah (fun _ _=>rfl)) ah (aM _)) (cS (aO (bL hU) (ao (aw G_q17 (hr.mono (by lia)) rfl En.m_q17 En.k_q17 En.b_q17 aQ ux (aa (ap 0) (aa ah af)))) ah (aM _))))) (aj (aH (i:=11) sc_q2.nd rfl (Or.inl rfl) (aI (ay hu) (ao (aw G_q6 (hr.mono (by lia)) rfl En.m_q6 En.k_q6 En.b_q6 aQ ux (aa (az (aa (ao (aw G_q21 (hr.mono (by lia)) rfl En.m_q21 En.k_q21 En.b_q21 aQ ux (aa (ap 0) (aa (aI (ay hu) (ap 1) ah (fun _ _=>rfl)) af)))) af)) af))) ah (fun _ _=>rfl)))
      (av (bG (aO (cW hU) (ap 11) (ap 6) (aM _)) (aj (cU (aP gW (aI (ay hu) (ap 1) ah (fun _ _=>rfl)) ah) (iK hu (ap 1) ah))
       (aj (dz (fD (Or.inl rfl) PySem.F.plainAttrs_list PySem.F.slot_list_append PySem.F.type_list_append dg (aI (ay hu) (ap 1) ah (fun _ _=>rfl)) (aa (ap 7) af)))
       (av (aH (i:=6) sc_q2.nd rfl (Or.inl rfl) (ap 11))))) ba))) ba)))))
   (av (dz (fD (Or.inl rfl) PySem.F.plainAttrs_list PySem.F.slot_list_append PySem.F.type_list_append dg (ap 4) (aa (ap 6) af)))))))
  (av (a_ (dY dL rfl En.z_tuple dI (aa (ap 4) af))))))
theorem eF(En:En K mg ad)(G_q17:O7 P w K mg base ad)(G_q6:O11 P w K mg base ad)(G_q21:O9 P w K mg base ad):∀n:Nat,FnOk P w K mg base (cQ P w) (24+n) ad.a_q2 ad.d_q2 ["pot","work","rows","place"] (aR K 4 (S_q2 ad n))
 |0=>fX
 |n+1=>gC En G_q17 G_q6 G_q21 n (eF En G_q17 G_q6 G_q21 n)
theorem Ae(En:En K mg ad)(G_q6:O11 P w K mg base ad)(G_q19:O10 P w K mg base ad)(G_q2:FnOk P w K mg base (cQ P w) 48 ad.a_q2 ad.d_q2 ["pot","work","rows","place"] (aR K 4 (S_q2 ad 24))):O12 P w K mg base ad:=by
 refine jc (k:=48) (T:=nX ad) En.F_q15 sc_q15 fun cdv A outer s H E B EE hr ux=>?_;have hU:=hr.units;have hu:=cC hr;unfold nX
 exact (aj (aH (i:=3) sc_q15.nd rfl (Or.inl rfl) (ao (aw G_q19 (hr.mono (by decide)) rfl En.m_q19 En.k_q19 En.b_q19 aQ ux (aa (ap 0) (aa (ap 1) af)))))
  (aj (aH (i:=3) sc_q15.nd rfl (Or.inl rfl) (aP aG (ao (aY (ap 3) bj (bd ah))) (az (aa (ao (aw G_q6 (hr.mono (by decide)) rfl En.m_q6 En.k_q6 En.b_q6 aQ ux (aa (aI (ay hu) (ap 3) ah (fun _ _=>rfl)) af))) (aa (aI (ay hu) (ap 3) ah (fun _ _=>rfl)) af)))))
  (aj (aH (i:=4) sc_q15.nd rfl (Or.inl rfl) (bu (aa (aY (ap 3) bj (bd ah)) (aa (bu af) (aa (ap 2) af)))))
  (aj (aH (i:=5) sc_q15.nd rfl (Or.inl rfl) (ao (aw G_q2 (hr.mono (by decide)) rfl En.m_q2 En.k_q2 En.b_q2 aQ ux (aa (ap 0) (aa (ap 4) (aa (aI (ay hu) (ap 3) ah (fun _ _=>rfl)) (aa (az af) af)))))))
  (av (a_ (az (aa (ap 3) (aa (aP aG (ao (aY (ap 3) bj (bd ah))) (az (aa (ap 5) (aa (aI (ay hu) (ap 3) ah (fun _ _=>rfl)) af)))) (aa (aS h_ rfl En.z_sorted jV (aa (aI (ay hu) (ap 4) ah (fun _ _=>rfl)) af)) af))))))))))
theorem Au(En:En K mg ad)  : O13 P w K mg base ad:=by
 refine jc (k:=0) (T:=mG ad) En.F_q16 sc_q16 fun cdv A outer s H E B EE hr ux=>?_;have hU:=hr.units;have hu:=cC hr;unfold mG;refine aj ?_ ?_
 ·refine aH (i:=1) (hs:=?_) (hf:=?_) ?_ ?_ ?_ ?_
  ·exact sc_q16.nd
  ·rfl
  ·exact Or.inl rfl
  ·refine ao ?_
   refine bu ?_;refine bW ?_ ?_ ?_
   ·exact aJ
   ·refine bW ?_ ?_ ?_
    ·exact aJ
    ·refine bW ?_ ?_ ?_
     ·exact aJ
     ·refine bW ?_ ?_ ?_
      ·exact aJ
      ·refine bW ?_ ?_ ?_
       ·exact aJ
       ·refine bW ?_ ?_ ?_
        ·exact aJ
        ·refine bW ?_ ?_ ?_
         ·exact aJ
         ·refine bW ?_ ?_ ?_
          ·exact aJ
          ·refine bW ?_ ?_ ?_
           ·exact aJ
           ·refine bW ?_ ?_ ?_
            ·exact aJ
            ·exact af
            ·rfl
           ·rfl
          ·rfl
         ·rfl
        ·rfl
       ·rfl
      ·rfl
     ·rfl
    ·rfl
   ·rfl
  ·rfl
  ·exact .inl rfl
 refine aj ?_ ?_
 ·exact (bG (cK (fT (aO (cW hU) (aS bv rfl En.z_len bS (aa (ap 0) af)) ah (aM _)) (fT (aO (cW hU) (fD (Or.inl rfl) PySem.F.plainAttrs_list PySem.F.slot_list_count PySem.F.type_list_count sN (ao (aY (ap 0) bj (bd ah))) (aa gQ af)) ah (aM _)) (eT (fW (dh (aI (ay hu) (ap 0) ah (fun _ _=>rfl)))))))) (av (a_ aJ)) ba)
 refine av ?_;exact (a_ (aI (ay hu) (ap 1) (fD (Or.inl rfl) PySem.F.plainAttrs_list PySem.F.slot_list_index PySem.F.type_list_index sg (ap 0) (aa gQ af)) (fun _ _=>rfl)))
theorem BB(En:En K mg ad)  : FnOkN P w K mg base (cQ P w) 1 ad.a_q11 ad.d_q11 ["e"] (g9 K ad.C_NoBuild (na ad)):=by
 refine fnE (k:=0) (T:=nQ ad) En.F_q11 sc_q11 rfl fun ea cdv A outer s H E B EE hr ux h0=>?_;have hU:=hr.units;have hu:=hr.units;unfold nQ
 exact (aj (aH (i:=1) sc_q11.nd rfl (Or.inl rfl) (ao (bu (aa (eD h0 En.xc_NoBuild En.kt_NoCase rfl En.z_isinstance aF (aa (ap 0) (aa (dJ (v:=.ref ad.C_NoCase) rfl En.mC_NoCase rfl (fun _=>rfl)) af))) (aa (eD h0 En.xc_NoBuild En.kt_NoPlace rfl En.z_isinstance aF (aa (ap 0) (aa (dJ (v:=.ref ad.C_NoPlace) rfl En.mC_NoPlace rfl (fun _=>rfl)) af))) (aa (eD h0 En.xc_NoBuild En.kt_NoMoment rfl En.z_isinstance aF (aa (ap 0) (aa (dJ (v:=.ref ad.C_NoMoment) rfl En.mC_NoMoment rfl (fun _=>rfl)) af))) (aa (eD h0 En.xc_NoBuild En.kt_NoBuild rfl En.z_isinstance aF (aa (ap 0) (aa (dJ (v:=.ref ad.C_NoBuild) rfl En.mC_NoBuild rfl (fun _=>rfl)) af))) af)))))))
  (aj (aH (i:=1) sc_q11.nd rfl (Or.inl rfl) (ao (aP aG (ap 1) (ao (bu (aa (eD h0 En.xc_NoBuild En.kt_TooMany rfl En.z_isinstance aF (aa (ap 0) (aa (dJ (v:=.ref ad.C_TooMany) rfl En.mC_TooMany rfl (fun _=>rfl)) af))) (aa (eD h0 En.xc_NoBuild En.kt_TooBig rfl En.z_isinstance aF (aa (ap 0) (aa (dJ (v:=.ref ad.C_TooBig) rfl En.mC_TooBig rfl (fun _=>rfl)) af))) (aa (eD h0 En.xc_NoBuild En.kt_Dry rfl En.z_isinstance aF (aa (ap 0) (aa (dJ (v:=.ref ad.C_Dry) rfl En.mC_Dry rfl (fun _=>rfl)) af))) (aa (eD h0 En.xc_NoBuild En.kt_NoText rfl En.z_isinstance aF (aa (ap 0) (aa (dJ (v:=.ref ad.C_NoText) rfl En.mC_NoText rfl (fun _=>rfl)) af))) af)))))))))
  (av (a_ (aP aG (ap 1) (ao (bu (aa (eD h0 En.xc_NoBuild En.kt_NoLine rfl En.z_isinstance aF (aa (ap 0) (aa (dJ (v:=.ref ad.C_NoLine) rfl En.mC_NoLine rfl (fun _=>rfl)) af))) (aa (eD h0 En.xc_NoBuild En.kt_NoRow rfl En.z_isinstance aF (aa (ap 0) (aa (dJ (v:=.ref ad.C_NoRow) rfl En.mC_NoRow rfl (fun _=>rfl)) af))) (aa (eD h0 En.xc_NoBuild En.kt_ValueError rfl En.z_isinstance aF (aa (ap 0) (aa (eL rfl En.z_ValueError jP) af))) af))))))))))
theorem jA(En:En K mg ad)  (n:Nat)(G_q12:FnOk P w K mg base (cQ P w) (0+n) ad.a_q12 ad.d_q12 ["found","due"] (aR K 2 (S_q12 ad n))):FnOk P w K mg base (cQ P w) (0+n+1) ad.a_q12 ad.d_q12 ["found","due"] (aR K 2 (S_q12 ad (n+1))):=by
 refine jc (k:=0+n) (T:=fF ad (S_q12 ad n)) En.F_q12 AC fun cdv A outer s H E B EE hr ux=>?_;have hU:=hr.units;have hu:=cC hr;unfold fF
 exact (aj (bG (aO qK (ap 1) pM (aM _)) (av (a_ (iD qK (ap 0) pM (aM _)))) ba)
  (aj (bG (dh (aS bF rfl En.z_isinstance aF (aa (ap 1) (aa (eL rfl En.z_bool kj) af)))) (av (a_ (mi (aS bF rfl En.z_isinstance aF (aa (ap 0) (aa (eL rfl En.z_bool kj) af))) (lZ (iD (bL hU) (ap 0) (ap 1) (aM _)))))) ba)
  (aj (bG (dh (aS bF rfl En.z_isinstance aF (aa (ap 1) (aa (eL rfl En.z_int qS) af)))) (av (a_ (mi (aS bF rfl En.z_isinstance aF (aa (ap 0) (aa (eL rfl En.z_int qS) af))) (mi (B3 (aS bF rfl En.z_isinstance aF (aa (ap 0) (aa (eL rfl En.z_bool kj) af)))) (lZ (iD (bL hU) (ap 0) (ap 1) (aM _))))))) ba)
  (aj (bG (dh (aS bF rfl En.z_isinstance aF (aa (ap 1) (aa (eL rfl En.z_str jq) af)))) (av (a_ (mi (aS bF rfl En.z_isinstance aF (aa (ap 0) (aa (eL rfl En.z_str jq) af))) (lZ (iD (bL hU) (ap 0) (ap 1) (aM _)))))) ba)
  (aj (bG (cK (fT (aO (cW hU) (aS bF rfl En.z_isinstance aF (aa (ap 1) (aa (eL rfl En.z_tuple dI) af))) (aS bF rfl En.z_isinstance aF (aa (ap 0) (aa (eL rfl En.z_tuple dI) af))) (aM _)) (eT (aO (cW hU) (aS bF rfl En.z_isinstance aF (aa (ap 1) (aa (eL rfl En.z_list jK) af))) (aS bF rfl En.z_isinstance aF (aa (ap 0) (aa (eL rfl En.z_list jK) af))) (aM _))))) (av (a_ gQ)) ba)
  (aj (bG (aO (cW hU) (aS bv rfl En.z_len bS (aa (ap 0) af)) (aS bv rfl En.z_len bS (aa (ap 1) af)) (aM _)) (av (a_ gQ)) ba)
  (av (a_ (aS (sS rfl) rfl En.z_all xM (aa (ao (f_ (ls:=["one","other"]) (fs:=[]) (js:=[]) rfl (ib rfl (by decide +kernel) (by decide +kernel)) (BD rfl En.z_zip (aa (ap 0) (aa (ap 1) af))) (fun C' s₀ H₀ fp pl'=>⟨(de (n:=2) rfl (aN (aL (i:=0) (show List.Nodup [("one":Str),("other":Str)] from (by decide +kernel)) rfl (Or.inl rfl)) (aN (aL (i:=1) (show List.Nodup [("one":Str),("other":Str)] from (by decide +kernel)) rfl (Or.inl rfl)) cy))),jk,(ao (aw G_q12 (hr.mono (by lia)) rfl En.m_q12 En.k_q12 En.b_q12 pI uxN (aa (ap 0) (aa (ap 1) af))))⟩))) af))))))))))
theorem fO(En:En K mg ad)  : ∀n:Nat,FnOk P w K mg base (cQ P w) (0+n) ad.a_q12 ad.d_q12 ["found","due"] (aR K 2 (S_q12 ad n))
 |0=>fX
 |n+1=>jA En  n (fO En  n)
theorem zS(En:En K mg ad)(G_q11:FnOkN P w K mg base (cQ P w) 1 ad.a_q11 ad.d_q11 ["e"] (g9 K ad.C_NoBuild (na ad)))(G_q16:O13 P w K mg base ad)(G_q9:O4 P w K mg base ad):O14 P w K mg base ad:=by
 refine jc (k:=27) (T:=ou ad) En.F_q14 sc_q14 fun cdv A outer s H E B EE hr ux=>?_;have hU:=hr.units;have hu:=cC hr;unfold ou
 exact (aj (aH (i:=2) sc_q14.nd rfl (Or.inl rfl) pM)
  (aj (aH (i:=3) sc_q14.nd rfl (Or.inl rfl) (ao (bu af)))
  (aj (vi (C:=ad.C_NoBuild) rfl rfl rfl G_q9 (hr.mono (by decide)) rfl En.m_q9 En.k_q9 En.b_q9 (aa (ap 0) (aa (ap 1) af)) En.xs_StrideError rfl En.mC_StrideError G_q11 (hr.mono (by decide)) rfl En.m_q11 En.k_q11 En.b_q11 sc_q14.nd rfl (Or.inl rfl) rfl rfl rfl (Or.inl rfl))
  (av (a_ (h7 (aO (bL hU) (ap 3) (ao (bu af)) (aM _)) (ap 2) (aw G_q16 (hr.mono (by decide)) rfl En.m_q16 En.k_q16 En.b_q16 aQ ux (aa (ap 3) af))))))))
theorem B2(En:En K mg ad)(G_q17:O7 P w K mg base ad):O15 P w K mg base ad:=by
 refine jc (k:=2) (T:=oh ad) En.F_q20 sc_q20 fun cdv A outer s H E B EE hr ux=>?_;have hU:=hr.units;have hu:=cC hr;unfold oh;refine aj ?_ ?_
 ·exact (cU (ap 1) (de (n:=5) rfl (aN (aL (i:=2) sc_q20.nd rfl (Or.inl rfl)) (aN (aL (i:=3) sc_q20.nd rfl (Or.inl rfl)) (aN (aL (i:=4) sc_q20.nd rfl (Or.inl rfl)) (aN (aL (i:=5) sc_q20.nd rfl (Or.inl rfl)) (aN (aL (i:=6) sc_q20.nd rfl (Or.inr rfl)) cy)))))))
 refine aj ?_ ?_
 ·exact (aH (i:=7) sc_q20.nd rfl (Or.inl rfl) (ao (aw G_q17 (hr.mono (by decide)) rfl En.m_q17 En.k_q17 En.b_q17 aQ ux (aa (ap 0) (aa ah af)))))
 refine aj ?_ ?_
 ·exact (bG (cK (cH (aO (bL hU) (ap 7) ah (aM _)) (cS (aO eQ (ap 2) ah (aM _))))) (av (a_ (az (aa (aP aG (ap 2) ah) (aa (ap 3) (aa (ap 4) (aa (ap 5) (aa (ap 6) af)))))))) ba)
 refine aj ?_ ?_
 ·exact (bG (aO (bL hU) (ap 7) ah (aM _)) (av (a_ (az (aa (ap 2) (aa (h7 (aO eQ (aS bv rfl En.z_len bS (aa (ap 3) af)) ah (aM _)) (aP aG (ap 3) (az (aa aJ af))) (vt (ap 3) (bd (ug ah)))) (aa (ap 4) (aa (ap 5) (aa (ap 6) af)))))))) ba)
 refine aj ?_ ?_
 ·exact (bG (cK (cH (aO (bL hU) (ap 7) ah (aM _)) (cS (aO eQ (ap 4) ah (aM _))))) (av (a_ (az (aa (ap 2) (aa (ap 3) (aa (aP aG (ap 4) ah) (aa (ap 5) (aa (ap 6) af)))))))) ba)
 refine aj ?_ ?_
 ·exact (bG (cK (cH (aO (bL hU) (ap 7) ah (aM _)) (cS (aO fK (aS bv rfl En.z_len bS (aa (ap 3) af)) ah (aM _))))) (av (a_ (az (aa (ap 2) (aa (ap 3) (aa (ap 4) (aa (ap 5) (aa (aI (ay hu) (ao (f_ (ls:=["one"]) (fs:=["name"]) (js:=[6]) rfl (xH (cs:=[s.heap.objs.size+1]) rfl (by decide +kernel) (by decide +kernel) rfl rfl (memC rfl memZ) (.cons rfl (.inl rfl) (.inl rfl) .nil)) (fP (ap 3)) (fun C' s₀ H₀ fp pl'=>⟨(aL (i:=0) (show List.Nodup [("one":Str),("name":Str)] from (by decide +kernel)) rfl (Or.inl rfl)),(qj (aO (cW hU) (ap 0) (ap 1) (aM _))),(ap 0)⟩))) ah (fun _ _=>rfl)) af)))))))) ba)
 refine aj ?_ ?_
 ·exact (aH (i:=8) sc_q20.nd rfl (Or.inl rfl) (ao (aw G_q17 (hr.mono (by decide)) rfl En.m_q17 En.k_q17 En.b_q17 aQ ux (aa (ap 0) (aa (aP aG (aS bv rfl En.z_len bS (aa (ap 5) af)) ah) af)))))
 refine aj ?_ ?_
 ·exact (bG (cK (cH (aO (bL hU) (ap 7) ah (aM _)) (cS (aO eQ (ap 8) (aS bv rfl En.z_len bS (aa (ap 5) af)) (aM _))))) (av (a_ (az (aa (ap 2) (aa (ap 3) (aa (ap 4) (aa (aP aG (ao (aY (ap 5) bj (bd (ap 8)))) (ao (aY (ap 5) (bd (aP aG (ap 8) ah)) bj))) (aa (ap 6) af)))))))) ba)
 refine aj ?_ ?_
 ·refine bG ?_ ?_ ?_
  ·exact (cK (cH (aO eQ (ap 7) ah (aM _)) (cH (aO fK (ap 4) ah (aM _)) (cH (aO eQ (ap 8) (aS bv rfl En.z_len bS (aa (ap 5) af)) (aM _)) (cS (aO (sj hU) (aI (ay hu) (aI (ay hu) (ap 5) (ap 8) (fun _ _=>rfl)) ah (fun _ _=>rfl)) (ao (bu (aa aJ (aa aJ af)))) (by rfl)))))))
  ·refine av ?_
   refine a_ ?_;refine az ?_;refine bW ?_ ?_ ?_
   ·exact (ap 2)
   ·refine bW ?_ ?_ ?_
    ·exact (ap 3)
    ·refine bW ?_ ?_ ?_
     ·exact (ap 4)
     ·refine bW ?_ ?_ ?_
      ·exact (aP aG (aP aG (ao (aY (ap 5) bj (bd (ap 8)))) (az (aa (az (aa aJ (aa (aI (ay hu) (ap 3) ah (fun _ _=>rfl)) (aa (ap 6) af)))) af))) (ao (aY (ap 5) (bd (aP aG (ap 8) ah)) bj)))
      ·refine bW ?_ ?_ ?_
       ·exact (ap 6)
       ·exact af
       ·rfl
      ·rfl
     ·rfl
    ·rfl
   ·rfl
  ·exact ba
 refine av ?_;refine a_ ?_;refine az ?_;refine bW ?_ ?_ ?_
 ·exact (ap 2)
 ·refine bW ?_ ?_ ?_
  ·exact (ap 3)
  ·refine bW ?_ ?_ ?_
   ·exact (ap 4)
   ·refine bW ?_ ?_ ?_
    ·exact (aP aG (aP aG (ao (aY (ap 5) bj (bd (ap 8)))) (az (aa (az (aa aJ (aa (aI (ay hu) (ap 3) ah (fun _ _=>rfl)) (aa ah af)))) af))) (ao (aY (ap 5) (bd (ap 8)) bj)))
    ·refine bW ?_ ?_ ?_
     ·exact (ap 6)
     ·exact af
     ·rfl
    ·rfl
   ·rfl
  ·rfl
 ·rfl
theorem CW(En:En K mg ad)(G_q17:O7 P w K mg base ad):O16 P w K mg base ad:=by
 refine jc (k:=2) (T:=sZ ad) En.F_q1 sc_q1 fun cdv A outer s H E B EE hr ux=>?_;have hU:=hr.units;have hu:=cC hr;unfold sZ;refine aj ?_ ?_
 ·exact (cU (ap 1) (de (n:=5) rfl (aN (aL (i:=2) sc_q1.nd rfl (Or.inl rfl)) (aN (aL (i:=3) sc_q1.nd rfl (Or.inl rfl)) (aN (aL (i:=4) sc_q1.nd rfl (Or.inl rfl)) (aN (aL (i:=5) sc_q1.nd rfl (Or.inl rfl)) (aN (aL (i:=6) sc_q1.nd rfl (Or.inl rfl)) cy)))))))
 refine aj ?_ ?_
 ·exact (aH (i:=7) sc_q1.nd rfl (Or.inl rfl) (az (aa (az (aa aJ (aa (ap 6) (aa ah af)))) af)))
 refine aj ?_ ?_
 ·refine aH (i:=8) (hs:=?_) (hf:=?_) ?_ ?_ ?_ ?_
  ·exact sc_q1.nd
  ·rfl
  ·exact Or.inl rfl
  ·refine ao ?_
   refine bu ?_;refine bW ?_ ?_ ?_
   ·exact (az (aa aJ (aa (ap 6) (aa (ap 7) (aa (az af) af)))))
   ·refine bW ?_ ?_ ?_
    ·exact (az (aa aJ (aa (ap 6) (aa (ap 7) af))))
    ·refine bW ?_ ?_ ?_
     ·exact (az (aa aJ (aa (ap 6) (aa ah af))))
     ·refine bW ?_ ?_ ?_
      ·exact (az (aa aJ (aa (aI (ay hu) (ap 3) ah (fun _ _=>rfl)) (aa (ap 7) (aa (ap 7) af)))))
      ·exact af
      ·rfl
     ·rfl
    ·rfl
   ·rfl
  ·rfl
  ·exact .inl rfl
 refine aj ?_ ?_
 ·refine aH (i:=8) (hs:=?_) (hf:=?_) ?_ ?_ ?_ ?_
  ·exact sc_q1.nd
  ·rfl
  ·exact Or.inl rfl
  ·refine ao ?_
   refine aP ?_ ?_ ?_
   ·exact aG
   ·exact (ap 8)
   ·refine ao ?_
    refine bu ?_;refine bW ?_ ?_ ?_
    ·exact (az (aa aJ (aa (aI (ay hu) (ap 3) ah (fun _ _=>rfl)) (aa (az af) af))))
    ·refine bW ?_ ?_ ?_
     ·exact (az (aa aJ (aa (aI (ay hu) (ap 3) (ug ah) (fun _ _=>rfl)) (aa (ap 7) (aa (az af) af)))))
     ·exact af
     ·rfl
    ·rfl
  ·rfl
  ·exact .inl rfl
 refine aj ?_ ?_
 ·exact (aH (i:=9) sc_q1.nd rfl (Or.inl rfl) (aI (ay hu) (ap 8) (ao (aw G_q17 (hr.mono (by decide)) rfl En.m_q17 En.k_q17 En.b_q17 aQ ux (aa (ap 0) (aa ah af)))) (fun _ _=>rfl)))
 refine aj ?_ ?_
 ·exact (aH (i:=10) sc_q1.nd rfl (Or.inl rfl) (aI (ay hu) (ap 8) (ao (aw G_q17 (hr.mono (by decide)) rfl En.m_q17 En.k_q17 En.b_q17 aQ ux (aa (ap 0) (aa ah af)))) (fun _ _=>rfl)))
 refine aj ?_ ?_
 ·exact (aH (i:=11) sc_q1.nd rfl (Or.inl rfl) (C9 (iD (bL hU) (ao (aY (ap 9) bj (bd ah))) (ao (aY (ap 10) bj (bd ah))) (aM _)) (lZ (uu (bL hU) (bL hU) (aI (ay hu) (ap 9) ah (fun _ _=>rfl)) (aI (ay hu) (ap 10) ah (fun _ _=>rfl)) aJ))))
 refine aj ?_ ?_
 ·exact (bG (cK (cH (dh (ap 11)) (cS (aO (pk hU) (aI (ay hu) (ap 9) ah (fun _ _=>rfl)) (ao (bu (aa aJ (aa aJ af)))) (by rfl))))) (av (aH (i:=11) sc_q1.nd rfl (Or.inl rfl) (iD (bL hU) (ao (f_ (ls:=["rest"]) (fs:=[]) (js:=[]) rfl (ib rfl (by decide +kernel) (by decide +kernel)) (fP (ao (aY (ap 9) (bd ah) bj))) (fun C' s₀ H₀ fp pl'=>⟨(aL (i:=0) (show List.Nodup [("rest":Str)] from (by decide +kernel)) rfl (Or.inl rfl)),jk,(aS bv rfl En.z_len bS (aa (ap 0) af))⟩))) (ao (f_ (ls:=["rest"]) (fs:=[]) (js:=[]) rfl (ib rfl (by decide +kernel) (by decide +kernel)) (fP (ao (aY (ap 10) (bd ah) bj))) (fun C' s₀ H₀ fp pl'=>⟨(aL (i:=0) (show List.Nodup [("rest":Str)] from (by decide +kernel)) rfl (Or.inl rfl)),jk,(aS bv rfl En.z_len bS (aa (ap 0) af))⟩))) (aM _)))) ba)
 refine av ?_;refine a_ ?_;refine az ?_;refine bW ?_ ?_ ?_
 ·exact (az (aa (ap 2) (aa (ap 3) (aa (ap 4) (aa (aP aG (az (aa (ap 9) af)) (ap 5)) (aa (ap 6) af))))))
 ·refine bW ?_ ?_ ?_
  ·exact (az (aa (ap 2) (aa (ap 3) (aa (ap 4) (aa (aP aG (az (aa (ap 10) af)) (ap 5)) (aa (ap 6) af))))))
  ·refine bW ?_ ?_ ?_
   ·exact (ap 11)
   ·exact af
   ·rfl
  ·rfl
 ·rfl
theorem gS(En:En K mg ad)(G_q17:O7 P w K mg base ad)(n:Nat)(G_q5:FnOk P w K mg base (cQ P w) (2+n) ad.a_q5 ad.d_q5 ["pot","pair","news","deep"] (aR K 4 (S_q5 ad n))):FnOk P w K mg base (cQ P w) (2+n+1) ad.a_q5 ad.d_q5 ["pot","pair","news","deep"] (aR K 4 (S_q5 ad (n+1))):=by
 refine jc (k:=2+n) (T:=v_ ad (S_q5 ad n)) En.F_q5 sc_q5 fun cdv A outer s H E B EE hr ux=>?_;have hU:=hr.units;have hu:=cC hr;unfold v_
 exact (aj (cU (ap 1) (de (n:=2) rfl (aN (aL (i:=4) sc_q5.nd rfl (Or.inl rfl)) (aN (aL (i:=5) sc_q5.nd rfl (Or.inl rfl)) cy))))
  (aj (bG (aO (bL hU) (ap 4) (az af) (aM _)) (av (a_ (az (aa (aY (ap 2) bj (bd ah)) (aa (aY (ap 2) (bd ah) bj) af))))) ba)
  (aj (aH (i:=6) sc_q5.nd rfl (Or.inl rfl) (ao (aw G_q17 (hr.mono (by lia)) rfl En.m_q17 En.k_q17 En.b_q17 aQ ux (aa (ap 0) (aa (aS bv rfl En.z_len bS (aa (ap 4) af)) af)))))
  (aj (aH (i:=7) sc_q5.nd rfl (Or.inl rfl) (aI (ay hu) (ap 4) (ap 6) (fun _ _=>rfl)))
  (aj (aH (i:=8) sc_q5.nd rfl (Or.inl rfl) (aI (ay hu) (ap 5) (ap 6) (fun _ _=>rfl)))
  (aj (bG (cK (cH (aO (pk hU) (aI (ay hu) (ap 7) ah (fun _ _=>rfl)) (ao (bu (aa aJ (aa aJ af)))) (by rfl)) (cH (aO eQ (ap 3) ah (aM _)) (cS (aO fK (ao (aw G_q17 (hr.mono (by lia)) rfl En.m_q17 En.k_q17 En.b_q17 aQ ux (aa (ap 0) (aa ah af)))) ah (aM _)))))) (aj (aH (i:=9) sc_q5.nd rfl (Or.inl rfl) (aP aG ah (ao (aw G_q17 (hr.mono (by lia)) rfl En.m_q17 En.k_q17 En.b_q17 aQ ux (aa (ap 0) (aa (aP gW (aS bv rfl En.z_len bS (aa (ap 7) af)) ah) af))))))
   (aj (cU (ao (aw G_q5 (hr.mono (by lia)) rfl En.m_q5 En.k_q5 En.b_q5 aQ ux (aa (ap 0) (aa (az (aa (aI (ay hu) (ap 7) (ap 9) (fun _ _=>rfl)) (aa (aI (ay hu) (ap 8) (ap 9) (fun _ _=>rfl)) af))) (aa (ap 2) (aa (aP aG (ap 3) ah) af)))))) (de (n:=2) rfl (aN (aL (i:=10) sc_q5.nd rfl (Or.inl rfl)) (aN (aL (i:=11) sc_q5.nd rfl (Or.inl rfl)) cy))))
   (aj (aH (i:=7) sc_q5.nd rfl (Or.inl rfl) (ao (aP aG (aP aG (ao (aY (ap 7) bj (bd (ap 9)))) (az (aa (ap 10) af))) (ao (aY (ap 7) (bd (aP aG (ap 9) ah)) bj)))))
   (av (aH (i:=8) sc_q5.nd rfl (Or.inl rfl) (ao (aP aG (aP aG (ao (aY (ap 8) bj (bd (ap 9)))) (az (aa (ap 11) af))) (ao (aY (ap 8) (bd (aP aG (ap 9) ah)) bj))))))))) (av (cU (ap 2) (de (n:=2) rfl (aN (aL (i:=7) sc_q5.nd rfl (Or.inl rfl)) (aN (aL (i:=8) sc_q5.nd rfl (Or.inl rfl)) cy))))))
  (av (a_ (az (aa (aP aG (aP aG (ao (aY (ap 4) bj (bd (ap 6)))) (az (aa (ap 7) af))) (ao (aY (ap 4) (bd (aP aG (ap 6) ah)) bj))) (aa (aP aG (aP aG (ao (aY (ap 5) bj (bd (ap 6)))) (az (aa (ap 8) af))) (ao (aY (ap 5) (bd (aP aG (ap 6) ah)) bj))) af)))))))))))
theorem eK(En:En K mg ad)(G_q17:O7 P w K mg base ad):∀n:Nat,FnOk P w K mg base (cQ P w) (2+n) ad.a_q5 ad.d_q5 ["pot","pair","news","deep"] (aR K 4 (S_q5 ad n))
 |0=>fX
 |n+1=>gS En G_q17 n (eK En G_q17 n)
theorem CO(En:En K mg ad)(G_q17:O7 P w K mg base ad)(G_q5:FnOk P w K mg base (cQ P w) 26 ad.a_q5 ad.d_q5 ["pot","pair","news","deep"] (aR K 4 (S_q5 ad 24))):O17 P w K mg base ad:=by
 refine jc (k:=26) (T:=tK ad) En.F_q3 sc_q3 fun cdv A outer s H E B EE hr ux=>?_;have hU:=hr.units;have hu:=cC hr;unfold tK;refine aj ?_ ?_
 ·exact (aH (i:=3) sc_q3.nd rfl (Or.inl rfl) (aI (ay hu) (aI (ay hu) (ap 1) ah (fun _ _=>rfl)) (ao (aw G_q17 (hr.mono (by decide)) rfl En.m_q17 En.k_q17 En.b_q17 aQ ux (aa (ap 0) (aa (aS bv rfl En.z_len bS (aa (aI (ay hu) (ap 1) ah (fun _ _=>rfl)) af)) af)))) (fun _ _=>rfl)))
 refine aj ?_ ?_
 ·exact (aH (i:=4) sc_q3.nd rfl (Or.inl rfl) (aI (ay hu) (aI (ay hu) (ap 1) ah (fun _ _=>rfl)) (ao (aw G_q17 (hr.mono (by decide)) rfl En.m_q17 En.k_q17 En.b_q17 aQ ux (aa (ap 0) (aa (aS bv rfl En.z_len bS (aa (aI (ay hu) (ap 1) ah (fun _ _=>rfl)) af)) af)))) (fun _ _=>rfl)))
 refine aj ?_ ?_
 ·refine aH (i:=5) (hs:=?_) (hf:=?_) ?_ ?_ ?_ ?_
  ·exact sc_q3.nd
  ·rfl
  ·exact Or.inl rfl
  ·refine ao ?_
   refine bu ?_;refine bW ?_ ?_ ?_
   ·exact (az (aa aJ (aa (ap 3) (aa (az af) af))))
   ·refine bW ?_ ?_ ?_
    ·exact (az (aa aJ (aa (ap 3) (aa ah af))))
    ·refine bW ?_ ?_ ?_
     ·refine az ?_
      refine bW ?_ ?_ ?_
      ·exact aJ
      ·refine bW ?_ ?_ ?_
       ·exact (ap 3)
       ·refine bW ?_ ?_ ?_
        ·exact (az (aa (az (aa aJ (aa (ap 4) (aa ah af)))) af))
        ·refine bW ?_ ?_ ?_
         ·exact (az af)
         ·exact af
         ·rfl
        ·rfl
       ·rfl
      ·rfl
     ·refine bW ?_ ?_ ?_
      ·refine az ?_
       refine bW ?_ ?_ ?_
       ·exact aJ
       ·refine bW ?_ ?_ ?_
        ·exact (ap 3)
        ·refine bW ?_ ?_ ?_
         ·exact (az af)
         ·refine bW ?_ ?_ ?_
          ·exact (az (aa (az (aa aJ (aa (ap 4) (aa ah af)))) af))
          ·exact af
          ·rfl
         ·rfl
        ·rfl
       ·rfl
      ·exact af
      ·rfl
     ·rfl
    ·rfl
   ·rfl
  ·rfl
  ·exact .inl rfl
 refine aj ?_ ?_
 ·refine aH (i:=6) (hs:=?_) (hf:=?_) ?_ ?_ ?_ ?_
  ·exact sc_q3.nd
  ·rfl
  ·exact Or.inl rfl
  ·refine az ?_
   refine bW ?_ ?_ ?_
   ·exact (az (aa aJ (aa (ap 3) (aa (az af) (aa (az af) af)))))
   ·refine bW ?_ ?_ ?_
    ·exact (aI (ay hu) (ap 5) (ao (aw G_q17 (hr.mono (by decide)) rfl En.m_q17 En.k_q17 En.b_q17 aQ ux (aa (ap 0) (aa ah af)))) (fun _ _=>rfl))
    ·exact af
    ·rfl
   ·rfl
  ·rfl
  ·exact .inl rfl
 refine aj ?_ ?_
 ·exact (bG (cK (cH (aO fK (aI (ay hu) (ap 1) ah (fun _ _=>rfl)) ah (aM _)) (cS (aO (bL hU) (ao (aw G_q17 (hr.mono (by decide)) rfl En.m_q17 En.k_q17 En.b_q17 aQ ux (aa (ap 0) (aa ah af)))) ah (aM _))))) (av (aH (i:=6) sc_q3.nd rfl (Or.inl rfl) (az (aa (az (aa aJ (aa (ap 3) (aa (ap 4) af)))) (aa (az (aa aJ (aa (ap 3) (aa (ap 4) af)))) af))))) ba)
 refine aj ?_ ?_
 ·exact (cU (ao (aw G_q5 (hr.mono (by decide)) rfl En.m_q5 En.k_q5 En.b_q5 aQ ux (aa (ap 0) (aa (az (aa (aI (ay hu) (ap 1) ah (fun _ _=>rfl)) (aa (aI (ay hu) (ap 2) ah (fun _ _=>rfl)) af))) (aa (ap 6) (aa ah af)))))) (de (n:=2) rfl (aN (aL (i:=7) sc_q3.nd rfl (Or.inl rfl)) (aN (aL (i:=8) sc_q3.nd rfl (Or.inl rfl)) cy))))
 refine av ?_;exact (a_ (az (aa (aP aG (ao (aY (ap 1) bj (bd ah))) (az (aa (ap 7) (aa (aI (ay hu) (ap 1) ah (fun _ _=>rfl)) af)))) (aa (aP aG (ao (aY (ap 2) bj (bd ah))) (az (aa (ap 8) (aa (aI (ay hu) (ap 2) ah (fun _ _=>rfl)) af)))) af))))
theorem Aw(En:En K mg ad)(G_q12:FnOk P w K mg base (cQ P w) 24 ad.a_q12 ad.d_q12 ["found","due"] (aR K 2 (S_q12 ad 24)))(G_q14:O14 P w K mg base ad)(G_q20:O15 P w K mg base ad)(G_q1:O16 P w K mg base ad)(G_q3:O17 P w K mg base ad)(G_q23:O6 P w K mg base ad)(G_q15:O12 P w K mg base ad)(G_q9:O4 P w K mg base ad):O18 P w K mg base ad:=by
 refine jc (k:=49) (T:=nN ad) En.F_law sc_law fun cdv A outer s H E B EE hr ux=>?_;have hU:=hr.units;have hu:=cC hr;unfold nN
 exact (aj (aH (i:=1) sc_law.nd rfl (Or.inl rfl) (aw G_q23 (hr.mono (by decide)) rfl En.m_q23 En.k_q23 En.b_q23 aQ ux (aa (ap 0) af)))
  (aj (cU (xV (aw G_q15 (hr.mono (by decide)) rfl En.m_q15 En.k_q15 En.b_q15 aQ ux (aa (ap 1) (aa ah (aa ah af))))) (de (n:=3) rfl (aN (aL (i:=2) sc_law.nd rfl (Or.inl rfl)) (aN (aL (i:=3) sc_law.nd rfl (Or.inl rfl)) (aN (aL (i:=4) sc_law.nd rfl (Or.inl rfl)) cy)))))
  (aj (aH (i:=5) sc_law.nd rfl (Or.inl rfl) (aw G_q14 (hr.mono (by decide)) rfl En.m_q14 En.k_q14 En.b_q14 aQ ux (aa (ap 2) (aa (ap 3) af))))
  (aj (bG (cK (fT (fW (dh (ao (aw G_q12 (hr.mono (by decide)) rfl En.m_q12 En.k_q12 En.b_q12 aQ ux (aa (ap 5) (aa (ap 4) af)))))) (eT (fW (dh (ao (aw G_q12 (hr.mono (by decide)) rfl En.m_q12 En.k_q12 En.b_q12 aQ ux (aa (ao (aw G_q9 (hr.mono (by decide)) rfl En.m_q9 En.k_q9 En.b_q9 aQ ux (aa (ap 3) (aa (ap 2) af)))) (aa (ap 4) af))))))))) (av (a_ gQ)) ba)
  (aj (dz (fD (Or.inl rfl) PySem.F.plainAttrs_list PySem.F.slot_list_append PySem.F.type_list_append dg (ap 5) (aa (az (aa ah af)) af)))
  (aj (dz (A6 (Or.inl rfl) PySem.F.plainAttrs_list PySem.F.slot_list_reverse PySem.F.type_list_reverse o3 (ap 5) ))
  (aj (bG (cK (fT (fW (dh (ao (aw G_q12 (hr.mono (by decide)) rfl En.m_q12 En.k_q12 En.b_q12 aQ ux (aa (ao (aw G_q9 (hr.mono (by decide)) rfl En.m_q9 En.k_q9 En.b_q9 aQ ux (aa (ap 2) (aa (ap 3) af)))) (aa (ap 4) af)))))) (eT (fW (dh (ao (aw G_q12 (hr.mono (by decide)) rfl En.m_q12 En.k_q12 En.b_q12 aQ ux (aa (ao (aw G_q9 (hr.mono (by decide)) rfl En.m_q9 En.k_q9 En.b_q9 aQ ux (aa (ap 2) (aa (ap 2) af)))) (aa (ao (bu af)) af))))))))) (av (a_ gQ)) ba)
  (aj (fu PassesOwn.leaving rfl (iG rfl En.z_range (aa ah af)) (aL (i:=6) sc_law.nd rfl (Or.inl rfl)) (aj (aH (i:=7) sc_law.nd rfl (Or.inl rfl) (ao (aw G_q20 (hr.mono (by decide)) rfl En.m_q20 En.k_q20 En.b_q20 aQ ux (aa (ap 1) (aa (ap 3) af)))))
   (aj (fu PassesOwn.leaving rfl (fP (ao (bu (aa (az (aa (ap 2) (aa (ap 7) af))) (aa (az (aa (ap 7) (aa (ap 2) af))) (aa (ao (aw G_q3 (hr.mono (by decide)) rfl En.m_q3 En.k_q3 En.b_q3 aQ ux (aa (ap 1) (aa (ap 2) (aa (ap 3) af))))) af)))))) (aL (i:=8) sc_law.nd rfl (Or.inl rfl)) (aj (aH (i:=9) sc_law.nd rfl (Or.inl rfl) (ao (aw G_q14 (hr.mono (by decide)) rfl En.m_q14 En.k_q14 En.b_q14 aQ ux (aa (aI (ay hu) (ap 8) ah (fun _ _=>rfl)) (aa (aI (ay hu) (ap 8) ah (fun _ _=>rfl)) af)))))
    (av (bG (cK (fT (fW (dh (aS bF rfl En.z_isinstance aF (aa (ap 9) (aa (eL rfl En.z_str jq) af))))) (eT (aO (cW hU) (ap 9) aJ (aM _))))) (av (a_ gQ)) ba))))
   (aj (cU (ao (aw G_q1 (hr.mono (by decide)) rfl En.m_q1 En.k_q1 En.b_q1 aQ ux (aa (ap 1) (aa (ap 2) af)))) (de (n:=3) rfl (aN (aL (i:=10) sc_law.nd rfl (Or.inl rfl)) (aN (aL (i:=11) sc_law.nd rfl (Or.inl rfl)) (aN (aL (i:=12) sc_law.nd rfl (Or.inl rfl)) cy)))))
   (aj (aH (i:=9) sc_law.nd rfl (Or.inl rfl) (ao (aw G_q14 (hr.mono (by decide)) rfl En.m_q14 En.k_q14 En.b_q14 aQ ux (aa (ap 10) (aa (ap 11) af)))))
   (av (bG (cK (fT (aO (cW hU) (ap 12) (ao (aw G_q12 (hr.mono (by decide)) rfl En.m_q12 En.k_q12 En.b_q12 aQ ux (aa (ap 9) (aa (ao (bu af)) af)))) (aM _)) (eT (cK (cH (fW (dh (ap 12))) (cS (cK (fT (fW (dh (aS bF rfl En.z_isinstance aF (aa (ap 9) (aa (eL rfl En.z_str jq) af))))) (eT (aO (cW hU) (ap 9) aJ (aM _))))))))))) (av (a_ gQ)) ba)))))))
  (av (a_ gQ))))))))))
theorem Ap(En:En K mg ad):O18 P w K mg base ad:=by
 have G_q8:=Ci (P:=P) (w:=w) (base:=base) En;have G_q22:=AI (P:=P) (w:=w) (base:=base) En;have G_q0:=CS (P:=P) (w:=w) (base:=base) En G_q8;obtain ⟨G_q24,G_q4⟩:=k8 (P:=P) (w:=w) (base:=base) En G_q22 G_q0 G_q8 24;have G_q9:=CJ (P:=P) (w:=w) (base:=base) En G_q24;have G_q7:=C3 (P:=P) (w:=w) (base:=base) En;have G_q23:=BC (P:=P) (w:=w) (base:=base) En;have G_q17:=A8 (P:=P) (w:=w) (base:=base) En G_q7;have G_q10:=BA (P:=P) (w:=w) (base:=base) En G_q17;have G_q21:=Bv (P:=P) (w:=w) (base:=base) En G_q17;obtain ⟨G_q13,G_q18⟩:=fR (P:=P) (w:=w) (base:=base) En G_q17 G_q21 24;have G_q19:=By (P:=P) (w:=w) (base:=base) En G_q17 G_q10 G_q18;have G_q6:=eI (P:=P) (w:=w) (base:=base) En  24;have G_q2:=eF (P:=P) (w:=w) (base:=base) En G_q17 G_q6 G_q21 24;have G_q15:=Ae (P:=P) (w:=w) (base:=base) En G_q6 G_q19 G_q2;have G_q16:=Au (P:=P) (w:=w) (base:=base) En;have G_q11:=BB (P:=P) (w:=w) (base:=base) En;have G_q12:=fO (P:=P) (w:=w) (base:=base) En  24;have G_q14:=zS (P:=P) (w:=w) (base:=base) En G_q11 G_q16 G_q9;have G_q20:=B2 (P:=P) (w:=w) (base:=base) En G_q17;have G_q1:=CW (P:=P) (w:=w) (base:=base) En G_q17;have G_q5:=eK (P:=P) (w:=w) (base:=base) En G_q17 24;have G_q3:=CO (P:=P) (w:=w) (base:=base) En G_q17 G_q5;have G_law:=Aw (P:=P) (w:=w) (base:=base) En G_q12 G_q14 G_q20 G_q1 G_q3 G_q23 G_q15 G_q9;exact G_law
end
end Tw
namespace L3
open PySem L2
theorem jF{T:Sd}{EE:DX}{ds:List D}{M:Mem}{Q:DK}{b:BxQ EE Q}{d:D}(hm:∀Q' E',Q' d M->T ds M Q' E')(h:Q d M):calls T EE ds M Q b:=
 aT fun Q' E' hq _=>hm Q' E' (hq d M h)
theorem cX{α:Type}{xs:List α}{i:Int}(h:0<=i):atI xs i=xs[i.toNat]?:=by
 unfold atI qh;rw [if_pos h]
 by_cases hi:i<xs.length
 ·rw [if_pos hi];rfl
 ·rw [if_neg hi,List.getElem?_eq_none (by lia)];rfl
@[simp] theorem atI_0 {α:Type} {xs:List α}:atI xs 0=xs[0]?:=cX (by decide)
@[simp] theorem atI_1 {α:Type} {xs:List α}:atI xs 1=xs[1]?:=cX (by decide)
@[simp] theorem atI_2 {α:Type} {xs:List α}:atI xs 2=xs[2]?:=cX (by decide)
@[simp] theorem atI_3 {α:Type} {xs:List α}:atI xs 3=xs[3]?:=cX (by decide)
@[simp] theorem atI_4 {α:Type} {xs:List α}:atI xs 4=xs[4]?:=cX (by decide)
theorem cY{g:jI}{tb:aZ}{DD:DEnds}{ok:Mem->Prop}{b:BxF g tb DD ok}(I:List D->Dl->Mem->Prop)(hok:∀xs δ M,I xs δ M->ok M)(h0:∀δ M,I [] δ M->DD.nx δ M)
  (hs:∀x xs δ M,I (x::xs) δ M->∀D':DEnds,(∀δ' M',I xs δ' M'->D'.nx δ' M')->(∀δ' M',I xs δ' M'->D'.ct δ' M')->D'.rt=DD.rt->D'.bk=DD.nx->g x δ M fun δ2 M2=>tb D' δ2 M2):∀xs δ M,I xs δ M->qg g tb DD ok b xs δ M
 |[],δ,M,h=>⟨hok _ _ _ h,h0 δ M h⟩
 |x::xs,δ,M,h=>⟨hok _ _ _ h,hs x xs δ M h _ (fun δ' M' h'=>cY I hok h0 hs xs δ' M' h') (fun δ' M' h'=>cY I hok h0 hs xs δ' M' h') rfl rfl⟩
theorem cM{g:jI}{tt:gr}{te:cj}{ok:Mem->Prop}{Q:List D->Mem->Prop}{b:BxC g tt te ok Q}(I:List D->List D->Dl->Mem->Prop)(hok:∀xs acc δ M,I xs acc δ M->ok M)(h0:∀acc δ M,I [] acc δ M->Q acc M)
  (hs:∀x xs acc δ M,I (x::xs) acc δ M->∀N:Bool->D->Dl->Mem->Prop,(∀y δ' M',acc.length<sizeLine->I xs (acc++[y]) δ' M'->N true y δ' M')->(∀y δ' M',I xs acc δ' M'->N false y δ' M')->g x δ M fun δ2 M2=>tt δ2 M2 fun c M3=>if c=true then te δ2 M3 fun y M4=>N true y δ2 M4 else N false .non δ2 M3)
  (hl:∀x xs acc δ M,I (x::xs) acc δ M->acc.length<sizeLine):∀xs acc δ M,I xs acc δ M->g_ g tt te ok Q b xs acc δ M
 |[],acc,δ,M,h=>⟨hok _ _ _ _ h,h0 acc δ M h⟩
 |x::xs,acc,δ,M,h=>⟨hok _ _ _ _ h,hs x xs acc δ M h (fun k y δ' M'=>if k=true then acc.length<sizeLine/\g_ g tt te ok Q b xs (acc++[y]) δ' M' else g_ g tt te ok Q b xs acc δ' M')
   (fun y δ' M' hlen h'=>by rw [if_pos rfl];exact ⟨hlen,cM I hok h0 hs hl xs _ δ' M' h'⟩) (fun y δ' M' h'=>by rw [if_neg (by simp)];exact cM I hok h0 hs hl xs _ δ' M' h') |> fun z=>by simpa using z⟩
theorem ci{n:Nat}(h:n<=1000000):n<=sizeLine:=Nat.le_trans h (by decide)
theorem kD{n:Nat}(h:n<1000000):n<sizeLine:=Nat.lt_of_lt_of_le h (by decide)
end L3
namespace Tw
open PySem L2 L3
inductive Rw where
 |put (x:Str) (k:Int)|take (x:Str) (i:Int)|pick (x y:Str)|two (w x y z:Str)|ifr (x:Str) (a b:List Rw)|again (x:Str) (a:List Rw)
mutual
def Rw.d:Rw->D
 |.put x k=>.tup [.str "put",.str x,.int k]
 |.take x i=>.tup [.str "take",.str x,.int i]
 |.pick x y=>.tup [.str "pick",.str x,.str y]
 |.two w x y z=>.tup [.str w,.str x,.str y,.str z]
 |.ifr x a b=>.tup [.str "if",.str x,.tup (aq a),.tup (aq b)]
 |.again x a=>.tup [.str "again",.str x,.tup (aq a)]
def aq:List Rw->List D
 |[]=>[]
 |r::rs=>r.d::aq rs
end
theorem cP:∀rs:List Rw,aq rs=rs.map Rw.d
 |[]=>rfl
 |r::rs=>by rw [aq,cP rs];rfl
theorem ofs_inj(a b:String):(Str.ofString a=Str.ofString b)=(a=b):=by
 refine propext ⟨fun h=>?_,fun h=>by rw [h]⟩
 rw [Str.ofString_eq_byList] at h;have h1:=congrArg (fun x:Str=>x.cps.toList) h;simp only [Str.ofStringByList] at h1;exact String.toList_inj.mp ((List.map_inj_right fun x y e=>Char.toNat_inj.mp e).mp h1)
end Tw
namespace L3
open PySem L2
def fV:Nat->List D->List D
 |_,[]=>[]
 |k,x::xs=>.tup [.int (k:Nat),x]::fV (k+1) xs
theorem nL:∀(xs:List D) (k:Nat),(xs.zipIdx k).map (fun p=>D.tup [.int (p.2:Nat),p.1])=fV k xs
 |[],_=>rfl
 |x::xs,k=>by rw [List.zipIdx_cons,List.map_cons,nL xs (k+1)];rfl
theorem jE(xs:List D):mD xs=fV 0 xs:=nL xs 0
theorem cA{xs:List D}{M:Mem}:DIt.ok ⟨xs,[]⟩ M:=fun _ h=>by cases h
end L3
namespace Tw
open PySem L2 L3
def ie(names:List Str)(m many:Int):Rw->Prop
 |.put x k=>x∈names/\0<=k/\k<m
 |.take x i=>x∈names/\0<=i/\i<many
 |.pick x y=>x∈names/\y∈names/\0<many
 |.two w x y z=>(w="sum"\/w="by"\/w="less"\/w="same")/\x∈names/\y∈names/\z∈names
 |_=>False
mutual
def eG(names:List Str)(m many:Int):Rw->Prop
 |.ifr x a b=>x∈names/\bX names m many a/\bX names m many b
 |.again x a=>x∈names/\bX names m many a
 |.put x k=>ie names m many (.put x k)
 |.take x k=>ie names m many (.take x k)
 |.pick x k=>ie names m many (.pick x k)
 |.two w x y z=>ie names m many (.two w x y z)
def bX(names:List Str)(m many:Int):List Rw->Prop
 |[]=>True
 |r::rs=>eG names m many r/\bX names m many rs
end
mutual
def hR:Rw->Nat
 |.ifr _ a b=>1+max (cr a) (cr b)
 |.again _ a=>1+cr a
 |_=>0
def cr:List Rw->Nat
 |[]=>0
 |r::rs=>max (hR r) (cr rs)
end
end Tw
open PySem L2 L3 Tw
local macro_rules | `(tactic| simp! [$a,*]) => do let p <- ("pF vR oT lD lU lz lw lG m5 uk pq vO Bo wE yn yY wx zc xc wJ za ym y4 yH yj wN xX wt wm yr wI yS yz xp wO xQ vU uX yI xI yW z7 w_ wK wR xx xb xD yV y6 yX yk yf wS wn xj yy yA oJ qf mx ma tG p6 pj mo pf lH ph pG pX oV ji lT lP jr qX ly lJ l_ mv yo yx y3 xr xn xF y1 yG wq z8 xJ yO yC jl r9 rF xB qN yq qm xR wP qi rn qQ nH mU mW nZ oq nO u_ pS pH p9 u9 uy w6 vI tV uD tW pK o_ oM oW lF vL uv qo q_ qE tH vY p7 tX uU s_ ua qB jg m9 rj je qJ md qw rg n8 nW oj nj nU eW tj vj j6 pi mj lS ck startN aC bz aB dM xY aA dN fZ dv cB cG bq dH ae dC bC tm bg gy dA kI mF A2 zu oI y8 nS bB bR fH au frz bD yT zo zM aK am dl bp dj jb xT ac ai aU bT c_ cO uz eR dS dy Bb gw z_ cD iA bZ gg ya hV lR qV zI z9 gI pQ dw bi aD ax ft mT mC D3 cT kz uB v7 frzs oZ nu zw kc".splitOn " ").toArray.mapM (fun s => `(Lean.Parser.Tactic.simpLemma| ↓$(Lean.mkIdent s.toName):ident)); let q <- ("List.map_cons List.map_nil List.cons_append List.nil_append List.length_cons List.length_nil List.getElem?_cons_succ List.getElem?_cons_zero List.set_cons_succ List.set_cons_zero Nat.zero_add Nat.reduceAdd Nat.reduceSub List.replicate_succ List.replicate_zero List.append_nil true_and and_true if_true if_false Bool.false_eq_true decide_eq_true_eq decide_eq_false_iff_not Bool.not_true Bool.not_false Bool.and_true Bool.true_and Bool.and_false Bool.false_and Mem.upd_same Option.isSome_some Option.isSome_none ofs_inj String.reduceEq".splitOn " ").toArray.mapM (fun s => `(Lean.Parser.Tactic.simpLemma| $(Lean.mkIdent s.toName):ident)); let r : Lean.TSyntaxArray [`Lean.Parser.Tactic.simpStar, `Lean.Parser.Tactic.simpErase, `Lean.Parser.Tactic.simpLemma] := (p.map (⟨·.raw⟩)) ++ (q.map (⟨·.raw⟩)) ++ a.getElems; `(tactic| simp -dsimp only [$r,*])
namespace Tw
open PySem L2 L3
structure Pt where
 p:Addr
 q:Addr
 ne:p≠q
def Has(k:Pt)(M:Mem):Prop:=∃(cells:List Int) (t h sd:Int),cells.length<=63/\M k.p=some (.lst [.ref k.q,.int t,.int h,.int sd])/\M k.q=some (.lst (cells.map D.int))
def Dr(k:Pt)(M M':Mem):Prop:=Has k M'/\∀b,b≠k.p->b≠k.q->M' b=M b
theorem Has.refl{k:Pt}{M:Mem}(h:Has k M):Dr k M M:=⟨h,fun _ _ _=>rfl⟩
theorem Dr.trans{k:Pt}{M M1 M2:Mem}(a:Dr k M M1)(b:Dr k M1 M2):Dr k M M2:=⟨b.1,fun x h1 h2=>(b.2 x h1 h2).trans (a.2 x h1 h2)⟩
theorem Has.nep{k:Pt}{M:Mem}(h:Has k M){l:Addr}(hl:M l=none):l≠k.p/\l≠k.q:=by
 obtain ⟨cells,t,hh,sd,_,e1,e2⟩:=h;exact ⟨fun e=>(by rw [e,e1] at hl;cases hl),fun e=>(by rw [e,e2] at hl;cases hl)⟩
theorem Has.upd{k:Pt}{M:Mem}{l:Addr}{o:MO}(h:Has k M)(h1:l≠k.p/\l≠k.q):Has k (M.upd l o):=by
 obtain ⟨cells,t,hh,sd,hc,e1,e2⟩:=h;exact ⟨cells,t,hh,sd,hc,by rw [ar (Ne.symm h1.1)];exact e1,by rw [ar (Ne.symm h1.2)];exact e2⟩
theorem Has.del{k:Pt}{M:Mem}{l:Addr}(h:Has k M)(h1:l≠k.p/\l≠k.q):Has k (M.del l):=by
 obtain ⟨cells,t,hh,sd,hc,e1,e2⟩:=h;refine ⟨cells,t,hh,sd,hc,?_,?_⟩
 ·unfold Mem.del;rw [if_neg (Ne.symm h1.1)];exact e1
 ·unfold Mem.del;rw [if_neg (Ne.symm h1.2)];exact e2
theorem Dr.none{k:Pt}{M M':Mem}(h0:Has k M)(h:Dr k M M'){l:Addr}(hl:M l=none):M' l=none:=by
 have:=h0.nep hl;rw [h.2 l this.1 this.2];exact hl
theorem lj:∀(n:Nat) (cs:List Int),cG n (cs.map D.int)=true
 |_,[]=>by unfold cG;rfl
 |n,c::cs=>by
  rw [List.map_cons];unfold cG;rw [lj n cs];cases n<;>rfl
theorem ic{ad:Ad}{M:Mem}{Q:DK}{E:DX}{a b:Int}(h:∀r,Q (.int r) M):p8 ad [.int a,.int b] M Q E:=by
 simp! [u_q7,uw];refine ⟨.inr (by decide),.inr (by decide),by decide,⟨by decide,by decide⟩,.inr (by decide),by decide,⟨by decide,by decide⟩,br (h _)⟩
theorem uo{α:Type}{x:α}{xs:List α}:atI (x::xs) 0=some x:=by rw [atI_0];rfl
theorem mL{a m:Int}(h:0<m):0<=a % m/\a % m<m:=⟨Int.emod_nonneg _ (by lia),Int.emod_lt_of_pos _ h⟩
theorem uV{n:Nat}{i:Int}(h:0<=i)(h2:i<n):qh n i=some i.toNat:=by unfold qh;rw [if_pos h,if_pos h2]
theorem ix0{n:Nat}:qh (n+1) 0=some 0:=uV (by decide) (by lia)
theorem zn:qh 4 2=some 2:=rfl
theorem db{s u:aZ}{D0:DEnds}{δ:Dl}{M:Mem}(h:s { D0 with nx:=u D0 } δ M):aC s u D0 δ M:=h
theorem wF{D0:DEnds}{δ:Dl}{M:Mem}{k:Pt}{t hh sd:Int}(h0:δ[0]?=some (some (.ref k.p)))(e1:M k.p=some (.lst [.ref k.q,.int t,.int hh,.int sd]))(h:D0.nx δ (M.upd k.p (.lst [.ref k.q,.int (t+1),.int hh,.int sd]))):
  aK (aA bD (aA bB (ae 0) (dC (.int 1))) (dC (.int 1))) (jb (ae 0) (dC (.int 1))) D0 δ M:=by
 simp! [h0,e1,atI_1,uV (n:=4) (i:=1) (by decide) (by decide),show (1:Int).toNat=1 from rfl]
 exact h
theorem rB{ad:Ad}{EE:DX}{D0:DEnds}{M:Mem}{k:Pt}{t hh sd many:Int}{c2:Option D}(h0:0<many)(h1:many<2 ^ 62)(e1:M k.p=some (.lst [.ref k.q,.int t,.int hh,.int sd]))
  (ha:∀r,D0.rt (.int (r % many)) M) (hb:D0.rt (.int (hh % many)) (M.upd k.p (.lst [.ref k.q,.int t,.int (hh / many),.int sd]))):
  (aC (bz (aB (aA dN (aA bB (ae 0) (dC (.int 2))) (dC (.int 0)))) (bC (aA jY (au (ax (p8 ad) EE 2 (ac (aA bB (ae 0) (dC (.int 3))) (ac (aA bB (ae 0) (dC (.int 1))) ai)))) (ae 1))) bg)
  (aC (aK (aA jY (aA bB (ae 0) (dC (.int 2))) (ae 1)) (am 3))
  (aC (aK (aA ng (aA bB (ae 0) (dC (.int 2))) (ae 1)) (jb (ae 0) (dC (.int 2))))
  (bC (ae 3))))) D0 [some (.ref k.p),some (.int many),c2,none] M:=by
 simp! [e1,atI_1,atI_2,atI_3]
 by_cases ez:hh=0
 ·rw [if_pos ez]
  refine aT fun Q' E' hq _=>ic fun r=>hq _ _ ?_;simp! [];exact ⟨h0,ha r⟩
 ·rw [if_neg ez]
  simp! [e1,zn];exact ⟨h0,⟨h0,by lia⟩,hb⟩
theorem xA{ad:Ad}{EE:DX}{D0:DEnds}{M:Mem}{k:Pt}{t hh sd many:Int}{cells:List Int}(h0:0<many)(e1:M k.p=some (.lst [.ref k.q,.int t,.int hh,.int sd]))(e2:M k.q=some (.lst (cells.map D.int)))
  (hA:D0.nx [some (.ref k.p),some (.int many),none,none] M)
  (hB:∀c cs,hh=0->cells=c::cs->∀r,D0.rt (.int (r % many)) (M.upd k.q (.lst (cs.map D.int))))
  (hC:∀c cs,hh=0->cells=c::cs->¬c<10 ^ Int.toNat 18->D0.nx [some (.ref k.p),some (.int many),some (.int c),none] ((M.upd k.q (.lst (cs.map D.int))).upd k.p (.lst [.ref k.q,.int t,.int c,.int sd]))):
  bz (dA (aB (aA dN (aA bB (ae 0) (dC (.int 2))) (dC (.int 0)))) (aB (aA fZ (aA bB (ae 0) (dC (.int 0))) (au (bT ai))))) (aC (aK (iA "list" ya (aA bB (ae 0) (dC (.int 0))) (ac (dC (.int 0)) ai)) (am 2))
   (aC (bz (aB (aA oG (ae 2) (aA Bj (dC (.int 10)) (dC (.int 18))))) (bC (aA jY (au (ax (p8 ad) EE 2 (ac (ae 2) (ac (aA bB (ae 0) (dC (.int 1))) ai)))) (ae 1))) bg)
   (aK (ae 2) (jb (ae 0) (dC (.int 2)))))) bg D0 [some (.ref k.p),some (.int many),none,none] M:=by
 have hne:=k.ne;simp! [e1,atI_2,uo]
 by_cases ez:hh=0
 ·rw [if_pos ez]
  refine ⟨ci (by decide),fun p hp=>?_⟩
  simp only [Mem.upd_del,aW hp,e2];cases cells with
  |nil=>
   simp! [];exact hA
  |cons c cs=>
   have g2:∀o',(M.upd k.q o') k.p=some (.lst [.ref k.q,.int t,.int hh,.int sd]):=fun o'=>by rw [ar hne,e1]
   simp! [uo,e1,e2,g2,lj,ix0,zn,List.eraseIdx_zero,List.tail_cons,atI_1,atI_2,atI_3];refine ⟨⟨by decide,by decide,by decide⟩,?_⟩
   by_cases hb:c<10 ^ Int.toNat 18
   ·rw [if_pos hb]
    refine aT fun Q' E' hq _=>ic fun r=>hq _ _ ?_;simp! [];exact ⟨h0,hB c cs ez rfl r⟩
   ·rw [if_neg hb]
    exact hC c cs ez rfl hb
 ·rw [if_neg ez]
  exact hA
theorem iL{ad:Ad}{M:Mem}{Q:DK}{E:DX}{k:Pt}{many:Int}(hp:Has k M)(h0:0<many)(h1:many<2 ^ 62)(h:∀r M',0<=r->r<many->Dr k M M'->Q (.int r) M'):
  bE ad [.ref k.p,.int many] M Q E:=by
 obtain ⟨cells,t,hh,sd,hc,e1,e2⟩:=hp;have hne:=k.ne;have fin:∀(r:Int) (M':Mem) (cells':List Int) (t' hh' sd':Int),cells'.length<=63->(∀b,b≠k.p->b≠k.q->M' b=M b)->M' k.p=some (.lst [.ref k.q,.int t',.int hh',.int sd'])->M' k.q=some (.lst (cells'.map D.int))->drp Q (.int (r % many)) M':=by
  intro r M' cells' t' hh' sd' a1 a2 a3 a4;exact br (h _ _ (mL h0).1 (mL h0).2 ⟨⟨cells',t',hh',sd',a1,a3,a4⟩,a2⟩)
 have g1:∀o,(M.upd k.p o) k.q=some (.lst (cells.map D.int)):=fun o=>by rw [ar (Ne.symm hne)];exact e2
 rw [BV (n:=0)];unfold o6;refine db (wF rfl e1 ?_);dsimp only;refine db (xA h0 Mem.upd_same (g1 _) ?_ (fun c cs ez ec r=>?_) (fun c cs ez ec hb=>?_))
 ·dsimp only
  refine rB h0 h1 Mem.upd_same (fun r=>?_) ?_
  ·exact fin _ _ cells _ _ _ hc (fun b b1 b2=>ar b1) Mem.upd_same (g1 _)
  ·exact fin _ _ cells _ _ _ hc (fun b b1 b2=>by rw [ar b1,ar b1]) Mem.upd_same (by rw [ar (Ne.symm hne),g1])
 ·subst ec
  exact fin _ _ cs _ _ _ (by simp at hc;lia) (fun b b1 b2=>by rw [ar b2,ar b1]) (by rw [ar hne,Mem.upd_same]) Mem.upd_same
 ·subst ec
  dsimp only;refine rB h0 h1 Mem.upd_same (fun r=>?_) ?_
  ·exact fin _ _ cs _ _ _ (by simp at hc;lia) (fun b b1 b2=>by rw [ar b1,ar b2,ar b1]) Mem.upd_same (by rw [ar (Ne.symm hne),Mem.upd_same])
  ·exact fin _ _ cs _ _ _ (by simp at hc;lia) (fun b b1 b2=>by rw [ar b1,ar b1,ar b2,ar b1]) Mem.upd_same (by rw [ar (Ne.symm hne),ar (Ne.symm hne),Mem.upd_same])
end Tw
namespace Tw
open PySem L2 L3
theorem dX{xs:List D}{k:Nat}:fv xs none (some (k:Int))=xs.take k:=by
 unfold fv;rw [HT.nT,HT.qU,List.drop_zero,Nat.sub_zero];rcases Nat.le_total k xs.length with h|h
 ·rw [Nat.min_eq_left h]
 ·rw [Nat.min_eq_right h,List.take_of_length_le (Nat.le_refl _),List.take_of_length_le h]
theorem lQ{xs:List D}{k:Nat}:fv xs (some (k:Int)) none=xs.drop k:=by
 unfold fv;rw [HT.nT,HT.qU];rcases Nat.le_total k xs.length with h|h
 ·rw [Nat.min_eq_left h,List.take_of_length_le (by simp)]
 ·rw [Nat.min_eq_right h,List.drop_of_length_le (Nat.le_refl _),List.drop_of_length_le h];simp
theorem uf{ad:Ad}{M:Mem}{Q:DK}{E:DX}{ns:List Int}(h:∀(k:Pt) M',Has k M'->(∀b,b≠k.p->b≠k.q->M' b=M b)->Q (.ref k.p) M'):rl ad [.ml (ns.map D.int)] M Q E:=by
 have c63:fv (ns.map D.int) none (some 63)=(ns.take 63).map D.int:=by rw [List.map_take];exact dX (k:=63)
 simp! [CD,nh,fo,c63];intro a ha;refine cY (fun xs δ M'=>∃(cs:List Int) (sd:Int) (c2:Option D),xs=cs.map D.int/\δ=[some (.ml (ns.map D.int)),some (.int sd),c2]/\M'=M) (fun _ _ _ _=>cA) ?_ ?_ _ _ _ ⟨ns.take 63,7,none,rfl,rfl,by rw [Mem.upd_del,aW ha]⟩
 ·rintro δ M' ⟨cs,sd,c2,_,rfl,rfl⟩
  simp! [c63];intro b hb;rw [Mem.upd_del,aW hb];intro q hq;refine ⟨ci (by decide),fun p hp=>?_⟩
  have ne:p≠q:=by intro e;subst e;rw [Mem.upd_same] at hp;cases hp
  refine br (h ⟨p,q,ne⟩ _ ⟨ns.take 63,0,0,sd,by simp;lia,Mem.upd_same,?_⟩ fun b b1 b2=>?_)
  ·show ((M'.upd q _).upd p _) q=_
   rw [ar (Ne.symm ne),Mem.upd_same]
  ·rw [ar b1,ar b2]
 ·rintro x xs δ M' ⟨cs,sd,c2,e1,rfl,rfl⟩ D' hnx _ _ _
  cases cs with
  |nil=>simp at e1
  |cons c cs=>
   simp only [List.map_cons,List.cons.injEq] at e1;obtain ⟨rfl,rfl⟩:=e1;simp! [];exact ⟨.inr (by decide),by decide,hnx _ _ ⟨cs,_,_,rfl,rfl,rfl⟩⟩
def alpha:Str:="abcdefghijklmnopqrstuvwxyz"
theorem vM:∀i<26,alpha.cps.toList[i]?=some (97+i):=by decide +kernel
theorem rR:alpha.length<=sizeLine:=Nat.le_trans (show alpha.length<=100 by decide +kernel) (by decide)
theorem m_{names:List Str}{t:Nat}(hl:names.length<=12)(h:∀(j:Nat) (hj:j<names.length),names[j].cps[0]?=some (97+(t+7*j) % 26)):names.Nodup:=by
 refine List.pairwise_iff_getElem.mpr fun i j hi hj hij e=>?_;have h1:=h i hi;have h2:=h j hj;rw [e,h2] at h1;have h3:=Option.some.inj h1;lia
def Ag(x:Str):Prop:=∃(n c:Nat),1<=n/\n<=8/\97<=c/\c<=122/\x=⟨Array.replicate n c⟩
theorem pA{ad:Ad}{M:Mem}{Q:DK}{E:DX}{k:Pt}{many:Nat}(hp:Has k M)(h1:many<=12)(h:∀(names:List Str) (M':Mem),names.length=many->names.Nodup->(∀x∈names,Ag x)->Dr k M M'->Q (.tup (names.map D.str)) M'):qM ad [.ref k.p,.int many] M Q E:=by
 simp! [CM,mO,fo];refine aT fun Q' E' hq _=>iL hp (by decide) (by decide) fun turn M1 t0 t1 d1=>hq _ _ ?_
 simp! [];refine ⟨ci (by decide),fun l hl=>?_⟩
 have nel:=d1.1.nep hl;refine ⟨by lia,by lia,?_⟩
 obtain ⟨t,rfl⟩:=Int.eq_ofNat_of_zero_le t0
 refine cY (fun xs δ M'=>∃(j:Nat) (acc:List Str) (c4 c5:Option D),j<=many/\xs=(List.range' j (many-j)).map (fun (i:Nat)=>D.int (0+(i:Int)))/\δ=[some (.ref k.p),some (.int (many:Nat)),some (.int (t:Nat)),some (.ref l),c4,c5]/\acc.length=j/\(∀(i:Nat) (hi:i<acc.length),acc[i].cps[0]?=some (97+(t+7*i) % 26))/\(∀x∈acc,Ag x)/\
  Has k M'/\M' l=some (.lst (acc.map D.str))/\∀b,b≠k.p->b≠k.q->b≠l->M' b=M1 b) (fun _ _ _ _=>cA) ?_ ?_ _ _ _ ⟨0,[],none,none,Nat.zero_le _,?_,rfl,rfl,?_,by simp,d1.1.upd nel,Mem.upd_same,fun b _ _ hb=>ar hb⟩
 ·rintro δ M' ⟨j,acc,c4,c5,hj,e,rfl,ha,hf,hone,hh,hm,hs⟩
  have:j=many:=by
   have:=congrArg List.length e;simp at this;lia
  subst this;simp! [hm];refine ⟨M'.del l,fun b o e=>?_,h acc _ ha (m_ (by lia) hf) hone ⟨hh.del nel,fun b b1 b2=>?_⟩⟩
  ·unfold Mem.del at e;split at e
   ·cases e
   ·exact e
  ·unfold Mem.del
   split
   ·rename_i e;subst e;rw [<- d1.2 b b1 b2];exact hl.symm
   ·rename_i e;rw [hs b b1 b2 e,d1.2 b b1 b2]
 ·rintro x xs δ M' ⟨j,acc,c4,c5,hj,e,rfl,ha,hf,hone,hh,hm,hs⟩ D' hnx _ _ _
  have hjl:j<many:=by
   have:=congrArg List.length e;simp at this;lia
  obtain ⟨n,hn⟩:∃n,many-j=n+1:=⟨many-j-1,by lia⟩
  rw [hn,List.range'_succ,List.map_cons,List.cons.injEq] at e;obtain ⟨rfl,rfl⟩:=e;have hidx:atI alpha.cps.toList (((t:Nat)+7*(0+(j:Int))) % 26)=some (97+(t+7*j) % 26):=by
   have:(((t:Nat):Int)+7*(0+(j:Int))) % 26=(((t+7*j) % 26:Nat):Int):=by lia
   rw [this,cX (by lia),Int.toNat_natCast,vM _ (by lia)]
  simp only [alpha] at hidx;simp! [hidx,hm];refine ⟨.inl (by decide),by decide,rR,?_⟩
  refine aT fun Q' E' hq _=>iL hh (by decide) (by decide) fun r M2 r0 r1 d2=>hq _ _ ?_
  have hm2:M2 l=some (.lst (acc.map D.str)):=by rw [d2.2 l nel.1 nel.2];exact hm
  simp! [hm2];refine ⟨by lia,by lia,by simp;exact kD (by lia),hnx _ _ ⟨j+1,acc++[⟨Array.replicate (1+r).toNat (97+(t+7*j) % 26)⟩],_,_,by lia,?_,rfl,by simp [ha],?_,?_,d2.1.upd nel,?_,?_⟩⟩
  ·rw [show many-(j+1)=n by lia]
  ·intro i hi
   by_cases hij:i<acc.length
   ·rw [List.getElem_append_left hij];exact hf i hij
   ·have:i=acc.length:=by simp at hi;lia
    subst this;rw [List.getElem_append_right (Nat.le_refl _)];simp only [Nat.sub_self,List.getElem_cons_zero];rw [Array.getElem?_replicate,if_pos (by lia),ha]
  ·intro x hx
   rcases List.mem_append.mp hx with hx|hx
   ·exact hone x hx
   ·simp at hx;subst hx
    exact ⟨(1+r).toNat,97+(t+7*j) % 26,by lia,by lia,by lia,by lia,rfl⟩
  ·rw [Mem.upd_same];simp
  ·intro b b1 b2 b3
   rw [ar b3,d2.2 b b1 b2,hs b b1 b2 b3]
 ·simp [oN,List.range_eq_range']
 ·intro i hi;simp at hi
end Tw
namespace Tw
open PySem L2 L3
@[simp] theorem atI_5 {α:Type} {xs:List α}:atI xs 5=xs[5]?:=cX (by decide)
@[simp] theorem atI_6 {α:Type} {xs:List α}:atI xs 6=xs[6]?:=cX (by decide)
@[simp] theorem atI_7 {α:Type} {xs:List α}:atI xs 7=xs[7]?:=cX (by decide)
@[simp] theorem atI_8 {α:Type} {xs:List α}:atI xs 8=xs[8]?:=cX (by decide)
theorem gl{names:List Str}{r:Int}(h0:0<=r)(h1:r<names.length):∃y,y∈names/\atI (names.map D.str) r=some (.str y):=by
 have hr:r.toNat<names.length:=by lia
 refine ⟨names[r.toNat],List.getElem_mem hr,?_⟩;rw [cX h0,List.getElem?_map,List.getElem?_eq_getElem hr];rfl
structure ToldOk(names:List Str)(m many:Int):Prop where
 m2:2<=m
 m1:m<=997
 n0:0<names.length
 n1:names.length<=12
 k0:0<=many
 k1:many<=40
def du(names:List Str)(m many:Int):D:=.tup [.int m,.tup (names.map D.str),.int many]
theorem bI{ad:Ad}{M:Mem}{Q:DK}{EE:DX}{b:BxQ EE Q}{k:Pt}{many:Int}(hp:Has k M)(h0:0<many)(h1:many<2 ^ 62)(h:∀r M',0<=r->r<many->Dr k M M'->Q (.int r) M'):calls (bE ad) EE [.ref k.p,.int many] M Q b:=
 aT fun Q' E' hq _=>iL hp h0 h1 fun r M' r0 r1 d=>hq _ _ (h r M' r0 r1 d)
section
variable {ad:Ad}{EE:DX}{D0:DEnds}{δ:Dl}{M:Mem}{k:Pt}
theorem AB{te:cj}{i:Nat}(h:te δ M fun d M1=>D0.nx (δ.set i (some d)) M1):aK te (am i) D0 δ M:=h
theorem tw{i:Nat}{d:D}(h:δ[i]?=some (some d)){K:DK}(hK:K d M):ae i δ M K:=by simp only [ae,h];exact hK
theorem pZ{i:Nat}{w c:Str}{A B:aZ}(hv:δ[i]?=some (some (.str w)))(h1:w=c->A D0 δ M)(h2:w≠c->B D0 δ M):bz (aB (aA dN (ae i) (dC (.str c)))) A B D0 δ M:=by
 have e:bz (aB (aA dN (ae i) (dC (.str c)))) A B D0 δ M=(if w=c then A D0 δ M else B D0 δ M):=by
  simp [bz,aB,aA,ae,dC,dN,cB,dv,bq,hv]
 rw [e]
 by_cases q:w=c
 ·rw [if_pos q];exact h1 q
 ·rw [if_neg q];exact h2 q
theorem Bf{te:cj}{v:Int}{K:DK}(h0:δ[0]?=some (some (.ref k.p)))(ht:∀K:DK,K (.int v) M->te δ M K)(hp:Has k M)(v0:0<v)(v1:v<2 ^ 62)(h:∀r M',0<=r->r<v->Dr k M M'->K (.int r) M'):
  ax (bE ad) EE 2 (ac (ae 0) (ac te ai)) δ M K:=by
 simp only [ax,ac,ae,ai,h0];refine ht _ ?_;exact ⟨rfl,bI hp v0 v1 h⟩
theorem yi{K:DK}{te:cj}(h:te δ M fun d M'=>frz d M' K):au te δ M K:=h
theorem fc{te:cj}{v:Int}{K:DK}(h0:δ[0]?=some (some (.ref k.p)))(ht:∀K:DK,K (.int v) M->te δ M K)(hp:Has k M)(v0:0<v)(v1:v<2 ^ 62)(h:∀r M',0<=r->r<v->Dr k M M'->K (.int r) M'):
  au (ax (bE ad) EE 2 (ac (ae 0) (ac te ai))) δ M K:=
 yi (Bf h0 ht hp v0 v1 fun r M' a b d=>by simp only [frz];exact h r M' a b d)
theorem Bp{i:Nat}{names:List Str}{K:DK}(h0:δ[0]?=some (some (.ref k.p)))(h3:δ[i]?=some (some (.tup (names.map D.str))))(hp:Has k M)(n0:0<names.length)(n1:names.length<=12)(h:∀x M',x∈names->Dr k M M'->K (.str x) M'):
  aA bB (ae i) (au (ax (bE ad) EE 2 (ac (ae 0) (ac (c_ cO (ac (ae i) ai)) ai)))) δ M K:=by
 have hl:∀K:DK,K (.int names.length) M->c_ cO (ac (ae i) ai) δ M K:=fun K hK=>by
  simp! [h3,List.length_map];exact hK
 simp only [aA];refine tw h3 (fc h0 hl hp (by lia) (by lia) fun r M' a b d=>?_)
 obtain ⟨x,hx,ex⟩:=gl a b;simp! [ex];exact h x M' hx d
theorem AG{a b:D}{i j:Nat}{te:cj}(hi:δ[i]?=some (some a))(hj:δ[j]?=some (some b))(h:te δ M fun d M'=>3<=sizeLine/\D0.rt (.tup [a,b,d]) M'):bC (aU (ac (ae i) (ac (ae j) (ac te ai)))) D0 δ M:=by
 simp only [bC,aU,ac,ai,ae,hi,hj];exact h
theorem ret4{a b c:D}{i j l:Nat}{te:cj}(hi:δ[i]?=some (some a))(hj:δ[j]?=some (some b))(hl:δ[l]?=some (some c))(h:te δ M fun d M'=>4<=sizeLine/\D0.rt (.tup [a,b,c,d]) M'):bC (aU (ac (ae i) (ac (ae j) (ac (ae l) (ac te ai))))) D0 δ M:=by
 simp only [bC,aU,ac,ai,ae,hi,hj,hl];exact h
theorem xq{a:Option D}{names:List Str}{m many:Int}{s:Dl}(h:D0.nx (a::some (du names m many)::some (.int m)::some (.tup (names.map D.str))::some (.int many)::s) M){b c d:Option D}:
  aK (ae 1) (dl 3 (bp (am 2) (bp (am 3) (bp (am 4) dj)))) D0 (a::some (du names m many)::b::c::d::s) M:=by
 unfold du at h ⊢;simp! [];exact h
end
def waysL:List Str:=["put","sum","by","less","same","sum","put","take","pick"]
def zg(many:Int)(w:Str):Prop:=w="put"\/(w="sum"\/w="by"\/w="less"\/w="same")\/(0<many/\(w="take"\/w="pick"))
section
variable {ad:Ad}{EE:DX}{D0:DEnds}{δ:Dl}{M:Mem}{k:Pt}{many:Int}
theorem yu(h:D0.nx (δ.set 5 (some (.lst (waysL.map D.str)))) M):
  aK (au (bT (ac (dC (.str "put")) (ac (dC (.str "sum")) (ac (dC (.str "by")) (ac (dC (.str "less")) (ac (dC (.str "same")) (ac (dC (.str "sum")) (ac (dC (.str "put")) (ac (dC (.str "take")) (ac (dC (.str "pick")) ai))))))))))) (am 5) D0 δ M:=by
 simp! [];refine ⟨ci (by decide),fun p hpn=>?_⟩
 rw [Mem.upd_del,aW hpn];exact h
theorem A5(r:Nat)(h1:r<if 0<many then 9 else 7):∃w,atI (waysL.map D.str) (r:Int)=some (.str w)/\zg many w:=by
 rw [cX (by lia),Int.toNat_natCast]
 by_cases hm:0<many
 ·rw [if_pos hm] at h1
  match r,h1 with
  |0,_=>exact ⟨_,rfl,.inl rfl⟩
  |1,_=>exact ⟨_,rfl,.inr (.inl (.inl rfl))⟩
  |2,_=>exact ⟨_,rfl,.inr (.inl (.inr (.inl rfl)))⟩
  |3,_=>exact ⟨_,rfl,.inr (.inl (.inr (.inr (.inl rfl))))⟩
  |4,_=>exact ⟨_,rfl,.inr (.inl (.inr (.inr (.inr rfl))))⟩
  |5,_=>exact ⟨_,rfl,.inr (.inl (.inl rfl))⟩
  |6,_=>exact ⟨_,rfl,.inl rfl⟩
  |7,_=>exact ⟨_,rfl,.inr (.inr ⟨hm,.inl rfl⟩)⟩
  |8,_=>exact ⟨_,rfl,.inr (.inr ⟨hm,.inr rfl⟩)⟩
 ·rw [if_neg hm] at h1
  match r,h1 with
  |0,_=>exact ⟨_,rfl,.inl rfl⟩
  |1,_=>exact ⟨_,rfl,.inr (.inl (.inl rfl))⟩
  |2,_=>exact ⟨_,rfl,.inr (.inl (.inr (.inl rfl)))⟩
  |3,_=>exact ⟨_,rfl,.inr (.inl (.inr (.inr (.inl rfl))))⟩
  |4,_=>exact ⟨_,rfl,.inr (.inl (.inr (.inr (.inr rfl))))⟩
  |5,_=>exact ⟨_,rfl,.inr (.inl (.inl rfl))⟩
  |6,_=>exact ⟨_,rfl,.inl rfl⟩
theorem Cw{K:DK}(h0:δ[0]?=some (some (.ref k.p)))(h4:δ[4]?=some (some (.int many)))(h5:δ[5]?=some (some (.lst (waysL.map D.str))))(hp:Has k M)(h:∀w M',zg many w->Dr k M M'->K (.str w) M'):
  aA bB (ae 5) (au (ax (bE ad) EE 2 (ac (ae 0) (ac (tm (aB (aA oF (ae 4) (dC (.int 0)))) (dC (.int 9)) (dC (.int 7))) ai)))) δ M K:=by
 have hl:∀K:DK,K (.int (if 0<many then 9 else 7)) M->tm (aB (aA oF (ae 4) (dC (.int 0)))) (dC (.int 9)) (dC (.int 7)) δ M K:=fun K hK=>by
  simp! [h4]
  by_cases hm:0<many
  ·rw [if_pos hm] at hK ⊢;exact hK
  ·rw [if_neg hm] at hK ⊢;exact hK
 simp only [aA];refine tw h5 (fc h0 hl hp (by split<;>decide) (by split<;>decide) fun r M' a b d=>?_)
 obtain ⟨r,rfl⟩:=Int.eq_ofNat_of_zero_le a;obtain ⟨w,ew,hw⟩:=A5 (many:=many) r (by split at b<;>(split<;>lia))
 simp! [ew];exact h w M' hw d
end
theorem nF{ad:Ad}{M:Mem}{Q:DK}{E:DX}{k:Pt}{names:List Str}{m many:Int}(hp:Has k M)(ht:ToldOk names m many)(h:∀(r:Rw) M',ie names m many r->Dr k M M'->Q r.d M'):kQ ad [.ref k.p,du names m many] M Q E:=by
 obtain ⟨m2,m1,n0,n1,k0,k1⟩:=ht;rw [C4 (n:=0)];unfold ow;refine db (xq ?_);dsimp only;refine db (yu ?_);dsimp only;refine db (AB (Cw rfl rfl rfl hp fun w M1 hw d1=>?_));dsimp only;refine db (AB (Bp rfl rfl d1.1 n0 n1 fun x M2 hx d2=>?_));dsimp only;refine db (pZ rfl (fun e=>?_) fun e1=>?_)
 ·subst e
  refine AG rfl rfl (Bf rfl (fun K q=>tw rfl q) d2.1 (by lia) (by lia) fun r M3 a b d3=>?_)
  exact ⟨ci (by decide),br (h (.put x r) M3 ⟨hx,a,b⟩ (d1.trans (d2.trans d3)))⟩
 dsimp only [bg];refine db (pZ rfl (fun e=>?_) fun e2=>?_)
 ·subst e
  have hm:0<many:=by
   rcases hw with e|(e|e|e|e)|e
   ·exact (e1 e).elim
   ·exact absurd e (by decide +kernel)
   ·exact absurd e (by decide +kernel)
   ·exact absurd e (by decide +kernel)
   ·exact absurd e (by decide +kernel)
   ·exact e.1
  refine AG rfl rfl (Bf rfl (fun K q=>tw rfl q) d2.1 (by lia) (by lia) fun r M3 a b d3=>?_)
  exact ⟨ci (by decide),br (h (.take x r) M3 ⟨hx,a,b⟩ (d1.trans (d2.trans d3)))⟩
 dsimp only [bg];refine db (AB (Bp rfl rfl d2.1 n0 n1 fun y M3 hy d3=>?_));dsimp only;refine db (pZ rfl (fun e=>?_) fun e3=>?_)
 ·subst e
  have hm:0<many:=by
   rcases hw with e|(e|e|e|e)|e
   ·exact (e1 e).elim
   ·exact absurd e (by decide +kernel)
   ·exact absurd e (by decide +kernel)
   ·exact absurd e (by decide +kernel)
   ·exact absurd e (by decide +kernel)
   ·exact e.1
  exact AG rfl rfl (tw rfl ⟨ci (by decide),br (h (.pick x y) M3 ⟨hx,hy,hm⟩ (d1.trans (d2.trans d3)))⟩)
 dsimp only [bg];have w4:w="sum"\/w="by"\/w="less"\/w="same":=by
  rcases hw with e|e|⟨_,e|e⟩
  ·exact (e1 e).elim
  ·exact e
  ·exact (e2 e).elim
  ·exact (e3 e).elim
 refine ret4 rfl rfl rfl (Bp rfl rfl d3.1 n0 n1 fun z M4 hz d4=>?_);exact ⟨ci (by decide),br (h (.two w x y z) M4 ⟨w4,hx,hy,hz⟩ (d1.trans (d2.trans (d3.trans d4))))⟩
end Tw
namespace Tw
open PySem L2 L3
mutual
def BK:Rw->Prop
 |.ifr _ a b=>(a.length<=200/\fC a)/\b.length<=200/\fC b
 |.again _ a=>a.length<=200/\fC a
 |_=>True
def fC:List Rw->Prop
 |[]=>True
 |r::rs=>BK r/\fC rs
end
theorem LnRs_append:∀{a b:List Rw},fC (a++b)↔fC a/\fC b
 |[],b=>by simp [fC]
 |r::a,b=>by simp [fC,LnRs_append,and_assoc]
mutual
def cR:Rw->Nat
 |.ifr _ a b=>1+cRs a+cRs b
 |.again _ a=>1+cRs a
 |.put _ _=>1
 |.take _ _=>1
 |.pick _ _=>1
 |.two _ _ _ _=>1
def cRs:List Rw->Nat
 |[]=>0
 |r::rs=>cR r+cRs rs
end
theorem bM:∀{a b:List Rw},cRs (a++b)=cRs a+cRs b
 |[],b=>by simp [cRs]
 |r::a,b=>by simp only [List.cons_append,cRs,bM];lia
theorem zv{names:List Str}{m many:Int}{r:Rw}(h:ie names m many r):cR r=1:=by
 cases r with
 |ifr=>exact h.elim
 |again=>exact h.elim
 |_=>simp only [cR]
def Rv(rm:Addr)(M:Mem)(v:Int):Prop:=M rm=some (.lst [.int v])/\0<=v
def Kp(k:Pt)(rm:Addr)(M M':Mem):Prop:=Has k M'/\(∃v:Int,M' rm=some (.lst [.int v]))/\∀b o,b≠k.p->b≠k.q->b≠rm->M b=some o->M' b=some o
theorem Kp.trans{k:Pt}{rm:Addr}{M M1 M2:Mem}(a:Kp k rm M M1)(b:Kp k rm M1 M2):Kp k rm M M2:=⟨b.1,b.2.1,fun x o h1 h2 h3 h=>b.2.2 x o h1 h2 h3 (a.2.2 x o h1 h2 h3 h)⟩
structure Rm(k:Pt)(rm:Addr)(M:Mem):Prop where
 h:Has k M
 n1:rm≠k.p
 n2:rm≠k.q
 v:∃v:Int,M rm=some (.lst [.int v])
theorem Rm.kp{k:Pt}{rm:Addr}{M:Mem}(r:Rm k rm M):Kp k rm M M:=⟨r.h,r.v,fun _ _ _ _ _ e=>e⟩
theorem Rm.go{k:Pt}{rm:Addr}{M M':Mem}(r:Rm k rm M)(d:Kp k rm M M'):Rm k rm M':=⟨d.1,r.n1,r.n2,d.2.1⟩
theorem Rm.dr{k:Pt}{rm:Addr}{M M':Mem}(r:Rm k rm M)(d:Dr k M M'):Kp k rm M M':=⟨d.1,by obtain ⟨v,e⟩:=r.v;exact ⟨v,by rw [d.2 rm r.n1 r.n2];exact e⟩,fun b o h1 h2 _ e=>by rw [d.2 b h1 h2];exact e⟩
theorem Rm.new{k:Pt}{rm:Addr}{M:Mem}(r:Rm k rm M){l:Addr}(hl:M l=none)(o:MO):Kp k rm M (M.upd l o):=by
 have a:=r.h.nep hl;obtain ⟨v,e⟩:=r.v;have b:rm≠l:=Mem.ne e hl;exact ⟨r.h.upd a,⟨v,by rw [ar b];exact e⟩,fun c o _ _ _ e=>by rw [ar (Mem.ne e hl)];exact e⟩
theorem Rm.set{k:Pt}{rm:Addr}{M:Mem}(r:Rm k rm M)(v:Int):Kp k rm M (M.upd rm (.lst [.int v])):=
 ⟨r.h.upd ⟨r.n1,r.n2⟩,⟨v,Mem.upd_same⟩,fun c o _ _ h e=>by rw [ar h];exact e⟩
section
variable {ad:Ad}{k:Pt}{rm:Addr}{names:List Str}{m many:Int}
def PRo(ad:Ad)(k:Pt)(rm:Addr)(names:List Str)(m many:Int)(n:Nat):Prop:=∀(deep:Nat) (most:Int) (M:Mem) (Q:DK) (E:DX),deep<=4->2*(4-deep)+1<=n->0<most->most<=30->Rm k rm M->∀v:Int,Rv rm M v->
 (∀(rs:List Rw) (M':Mem),(∃v',Rv rm M' v'/\(cRs rs:Int)+v'<=v)->bX names m many rs/\fC rs->cr rs+deep<=4->rs.length<=100->Kp k rm M M'->Q (.tup (aq rs)) M')->S_q18 ad n [.ref k.p,du names m many,.ref rm,.int deep,.int most] M Q E
def PBl(ad:Ad)(k:Pt)(rm:Addr)(names:List Str)(m many:Int)(n:Nat):Prop:=∀(deep:Nat) (M:Mem) (Q:DK) (E:DX),deep<4->2*(4-deep)<=n->Rm k rm M->∀v:Int,Rv rm M v->
 (∀(rs:List Rw) (l:Addr) (M':Mem),(∃v',Rv rm M' v'/\(cRs rs:Int)+v'<=v+4)->bX names m many rs/\fC rs->cr rs+deep<=4->rs.length<=3->Kp k rm M M'->M' l=none->Q (.ref l) (M'.upd l (.lst (aq rs))))->S_q13 ad n [.ref k.p,du names m many,.ref rm,.int deep] M Q E
theorem OkRs_append:∀{a b:List Rw},bX names m many (a++b)↔bX names m many a/\bX names m many b
 |[],b=>by simp [bX]
 |r::a,b=>by simp [bX,OkRs_append,and_assoc]
theorem bU:∀{a b:List Rw},cr (a++b)=max (cr a) (cr b)
 |[],b=>by simp [cr]
 |r::a,b=>by simp only [List.cons_append,cr,bU,Nat.max_assoc]
theorem bA:∀{a b:List Rw},aq (a++b)=aq a++aq b
 |[],b=>rfl
 |r::a,b=>by simp [aq,bA]
theorem bb:∀{a:List Rw},(aq a).length=a.length
 |[]=>rfl
 |r::a=>by simp [aq,bb]
theorem pE{r:Rw}(h:ie names m many r):eG names m many r:=by
 cases r with
 |ifr=>exact h.elim
 |again=>exact h.elim
 |_=>simpa only [eG] using h
theorem zC{r:Rw}(h:ie names m many r):hR r=0:=by
 cases r with
 |ifr=>exact h.elim
 |again=>exact h.elim
 |_=>simp only [hR]
theorem AY{r:Rw}(h:ie names m many r):BK r:=by
 cases r with
 |ifr=>exact h.elim
 |again=>exact h.elim
 |_=>simp only [BK]
theorem oS(ht:ToldOk names m many){n:Nat}(ih:PRo ad k rm names m many n):PBl ad k rm names m many (n+1):=by
 intro deep M Q E hd hn r v rv h;obtain ⟨m2,m1,n0,n1,k0,k1⟩:=ht;have dd:(deep:Int)+1=((deep+1:Nat):Int):=by lia
 simp! [CV,nC,du,List.length_map];refine bI r.h (by lia) (by lia) fun r1 M1 a1 b1 d1=>?_
 have R1:=r.go (r.dr d1);have rv1:Rv rm M1 v:=⟨by rw [d1.2 rm r.n1 r.n2];exact rv.1,rv.2⟩
 obtain ⟨x,hx,ex⟩:=gl a1 b1;simp! [ex,dd];refine aT fun Q' E' hq _=>ih (deep+1) 5 M1 Q' E' (by lia) (by lia) (by decide) (by decide) R1 v rv1 fun first M2 c2 o2 h2 l2 d2=>hq _ _ ?_
 obtain ⟨v2,rv2,c2⟩:=c2;have R2:=R1.go d2;simp! [];refine bI R2.h (by decide) (by decide) fun w M3 a3 b3 d3=>?_
 have R3:=R2.go (R2.dr d3);have rv3:Rv rm M3 v2:=⟨by rw [d3.2 rm r.n1 r.n2];exact rv2.1,rv2.2⟩
 simp! [dd]
 by_cases hw:w<2
 ·rw [if_pos hw]
  refine aT fun Q' E' hq _=>ih (deep+1) 5 M3 Q' E' (by lia) (by lia) (by decide) (by decide) R3 v2 rv3 fun second M4 c4 o4 h4 l4 d4=>hq _ _ ?_
  obtain ⟨v4,rv4,c4⟩:=c4;simp! [];refine ⟨ci (by decide),ci (by decide),fun l hl=>br (h [.ifr x first second] l M4 ⟨v4,rv4,by simp only [cRs,cR];lia⟩ ?_ ?_ (by simp) ((r.dr d1).trans (d2.trans ((R2.dr d3).trans d4))) hl)⟩
  ·simp only [bX,eG,fC,BK];exact ⟨⟨⟨hx,o2.1,o4.1⟩,trivial⟩,⟨⟨by lia,o2.2⟩,by lia,o4.2⟩,trivial⟩
  ·simp only [cr,hR];lia
 ·rw [if_neg hw]
  by_cases hw2:w=2
  ·rw [if_pos hw2]
   refine ⟨ci (by decide),ci (by decide),fun l hl=>br (h [.again x first] l M3 ⟨v2,rv3,by simp only [cRs,cR];lia⟩ ?_ ?_ (by simp) ((r.dr d1).trans (d2.trans (R2.dr d3))) hl)⟩
   ·simp only [bX,eG,fC,BK];exact ⟨⟨⟨hx,o2.1⟩,trivial⟩,⟨by lia,o2.2⟩,trivial⟩
   ·simp only [cr,hR];lia
  ·rw [if_neg hw2]
   simp only [List.length_map];refine bI R3.h (by lia) (by lia) fun r4 M4 a4 b4 d4=>?_
   have R4:=R3.go (R3.dr d4);obtain ⟨y,hy,ey⟩:=gl a4 b4;simp! [ey];refine bI R4.h (by split<;>lia) (by split<;>lia) fun r5 M5 a5 b5 d5=>?_
   have b5':r5<m:=by split at b5<;>lia
   simp! [];refine ⟨ci (by decide),ci (by decide),ci (by decide),ci (by decide),ci (by rw [bb];lia),ci (by decide),ci (by decide),fun l hl=>br ?_⟩
   have:=h [.put x r5,.put y (m-1),.again x (first++[.two "sum" x x y])] l M5 ⟨v2,⟨by rw [d5.2 rm r.n1 r.n2,d4.2 rm r.n1 r.n2];exact rv3.1,rv3.2⟩,by simp only [cRs,cR,bM];lia⟩ ?_ ?_ (by simp) ((r.dr d1).trans (d2.trans ((R2.dr d3).trans ((R3.dr d4).trans (R4.dr d5))))) hl
   ·simp only [aq,Rw.d,bA] at this
    exact this
   ·simp only [bX,eG,ie,OkRs_append,fC,BK,LnRs_append]
    exact ⟨⟨⟨hx,a5,b5'⟩,⟨hy,by lia,by lia⟩,⟨hx,o2.1,⟨.inl trivial,hx,hx,hy⟩,trivial⟩,trivial⟩,trivial,trivial,⟨by simp;lia,o2.2,trivial,trivial⟩,trivial⟩
   ·simp only [cr,hR,bU];lia
theorem zA{r:Rw}{M:Mem}{Q:DK}:frz r.d M Q=Q r.d M:=by cases r<;>rfl
theorem qP{c v:Int}{D0:DEnds}{δ:Dl}{M:Mem}(h2:δ[2]?=some (some (.ref rm)))(hv:M rm=some (.lst [.int v]))(h:D0.nx δ (M.upd rm (.lst [.int (v-c)]))):
  aK (aA kG (aA bB (ae 2) (dC (.int 0))) (dC (.int c))) (jb (ae 2) (dC (.int 0))) D0 δ M:=by
 simp! [h2,hv,uo,ix0];exact h
theorem An{EE:DX}{A B:aZ}{D0:DEnds}{δ:Dl}{M:Mem}{v:Int}{deep:Int}(h0:δ[0]?=some (some (.ref k.p)))(h2:δ[2]?=some (some (.ref rm)))(h3:δ[3]?=some (some (.int deep)))(hp:Has k M)(hv:M rm=some (.lst [.int v]))
  (hA:∀M',4<v->deep<4->Dr k M M'->A D0 δ M') (hB:∀M',Dr k M M'->B D0 δ M'):
  bz (dA (aB (aA oF (aA bB (ae 2) (dC (.int 0))) (dC (.int 4)))) (dA (aB (aA oG (ae 3) (dC (.int 4)))) (aB (aA dN (au (ax (bE ad) EE 2 (ac (ae 0) (ac (dC (.int 4)) ai)))) (dC (.int 0)))))) A B D0 δ M:=by
 simp! [h0,h2,h3,hv,uo]
 by_cases h4:4<v
 ·rw [if_pos h4]
  by_cases h5:deep<4
  ·rw [if_pos h5]
   refine bI hp (by decide) (by decide) fun w M2 a2 b2 d2=>?_
   simp! []
   by_cases h6:w=0
   ·rw [if_pos h6];exact hA _ h4 h5 d2
   ·rw [if_neg h6];exact hB _ d2
  ·rw [if_neg h5];exact hB _ hp.refl
 ·rw [if_neg h4];exact hB _ hp.refl
theorem xP{A:aZ}{D0:DEnds}{δ:Dl}{M:Mem}{v:Int}(h2:δ[2]?=some (some (.ref rm)))(hv:M rm=some (.lst [.int v]))(hA:0<v->A D0 δ M)(hB:D0.nx δ M):
  bz (aB (aA oF (aA bB (ae 2) (dC (.int 0))) (dC (.int 0)))) A bg D0 δ M:=by
 simp! [h2,hv,uo]
 by_cases h4:0<v
 ·rw [if_pos h4];exact hA h4
 ·rw [if_neg h4];exact hB
theorem yv{EE:DX}{D0:DEnds}{δ:Dl}{M:Mem}{l:Addr}{acc:List Rw}(h0:δ[0]?=some (some (.ref k.p)))(h1:δ[1]?=some (some (du names m many)))(h5:δ[5]?=some (some (.ref l)))(hp:Has k M)(ht:ToldOk names m many)(n1:l≠k.p)(n2:l≠k.q)
  (hl:M l=some (.lst (aq acc))) (ha:acc.length<=1000) (h:∀(r:Rw) M',ie names m many r->Dr k M M'->D0.nx δ (M'.upd l (.lst (aq acc++[r.d])))):
  cD (iA "list" bZ (ae 5) (ac (au (ax (kQ ad) EE 2 (ac (ae 0) (ac (ae 1) ai)))) ai)) D0 δ M:=by
 simp! [h0,h1,h5,hl];refine aT fun Q' E' hq _=>nF hp ht fun rw1 M3 ok3 d3=>hq _ _ ?_;have hl3:M3 l=some (.lst (aq acc)):=by rw [d3.2 l n1 n2];exact hl
 have fin:=h rw1 M3 ok3 d3;have sz:(aq acc).length+1<=sizeLine:=by rw [bb];exact kD (by lia)
 rw [zA];simp! [hl3];exact ⟨sz,fin⟩
theorem xS{n:Nat}(ih:PBl ad k rm names m many n){EE:DX}{D0:DEnds}{δ:Dl}{M:Mem}{l:Addr}{acc:List Rw}{deep:Nat}(h0:δ[0]?=some (some (.ref k.p)))(h1:δ[1]?=some (some (du names m many)))(h2:δ[2]?=some (some (.ref rm)))(h3:δ[3]?=some (some (.int deep)))(h5:δ[5]?=some (some (.ref l)))
  (hd:deep<4) (hn:2*(4-deep)<=n) (R:Rm k rm M) (n1:l≠k.p) (n2:l≠k.q) (n3:l≠rm) (hl:M l=some (.lst (aq acc))) (ha:acc.length<=1000) {v:Int} (rv:Rv rm M v)
  (h:∀(rs:List Rw) (l3:Addr) (M':Mem),(∃v',Rv rm M' v'/\(cRs rs:Int)+v'<=v+4)->bX names m many rs/\fC rs->cr rs+deep<=4->rs.length<=3->Kp k rm M M'->M' l3=none->D0.nx (δ.set 5 (some (.ref l3))) (M'.upd l3 (.lst (aq acc++aq rs)))):
  aK (aA bD (ae 5) (au (ax (S_q13 ad n) EE 4 (ac (ae 0) (ac (ae 1) (ac (ae 2) (ac (ae 3) ai))))))) (am 5) D0 δ M:=by
 simp! [h0,h1,h2,h3,h5];refine aT fun Q' E' hq _=>ih deep M Q' E' hd hn R v rv fun bl l2 M3 c3 ok3 hh len3 k3 nl3=>hq _ _ ?_;have hm3:M3 l=some (.lst (aq acc)):=k3.2.2 l _ n1 n2 n3 hl;simp! [Mem.upd_del,aW nl3,hm3];exact ⟨by rw [bb,bb];exact ci (by lia),fun l3 hl3=>h bl l3 M3 c3 ok3 hh len3 k3 hl3⟩
structure RInv(k:Pt)(rm:Addr)(names:List Str)(m many:Int)(M:Mem)(v:Int)(deep:Nat)(n j:Nat)(acc:List Rw)(l:Addr)(M':Mem):Prop where
 cv:∃v',Rv rm M' v'/\(cRs acc:Int)+v'<=v
 hj:n+j<=30
 ha:acc.length<=3*j
 ok:bX names m many acc
 ln:fC acc
 hh:cr acc+deep<=4
 kp:Kp k rm M M'
 hm:M' l=some (.lst (aq acc))
 n1:l≠k.p
 n2:l≠k.q
 n3:l≠rm
 h0:M l=none
theorem RInv.len{M:Mem}{v:Int}{deep n j:Nat}{acc:List Rw}{l:Addr}{M':Mem}(I:RInv k rm names m many M v deep n j acc l M'):acc.length<=100:=by
 have:=I.hj;have:=I.ha;lia
theorem km(ht:ToldOk names m many){n:Nat}(ih:PBl ad k rm names m many n):PRo ad k rm names m many (n+1):=by
 intro deep most M Q E hd hn h0 h1 r v0 rv0 h;simp! [CI,nG,fo];refine ⟨ci (by decide),fun l hl=>?_⟩
 have R1:=r.go (r.new hl (.lst []));refine bI R1.h h0 (by lia) fun cnt M1 a1 b1 d1=>?_
 have nel:=r.h.nep hl;simp! [];refine ⟨by lia,by lia,?_⟩
 refine cY (fun xs δ M'=>∃(j:Nat) (acc:List Rw) (l:Addr) (c6:Option D),RInv k rm names m many M v0 deep xs.length j acc l M'/\δ=[some (.ref k.p),some (du names m many),some (.ref rm),some (.int deep),some (.int most),some (.ref l),c6]) (fun _ _ _ _=>cA) ?_ ?_ _ _ _ ⟨0,[],l,none,⟨⟨v0,⟨?_,rv0.2⟩,by simp [cRs]⟩,?_,by simp,by simp only [bX],by simp only [fC],by simp only [cr];lia,(r.new hl _).trans (R1.dr d1),?_,nel.1,nel.2,?_,hl⟩,rfl⟩
 ·rintro δ M' ⟨j,acc,l,c6,I,rfl⟩
  simp! [I.hm];exact br (h acc M' I.cv ⟨I.ok,I.ln⟩ I.hh I.len I.kp)
 ·rintro x xs δ M' ⟨j,acc,l,c6,I,rfl⟩ D' hnx _ _ _
  have R:=r.go I.kp;have hj:=I.hj;have ha:=I.ha;simp only [List.length_cons] at hj;obtain ⟨v,⟨hv,hv0⟩,hcv⟩:=I.cv;refine An rfl rfl rfl R.h hv (fun M2 h4 h5 d2=>?_) fun M2 d2=>?_
  ·have k2:=I.kp.trans (R.dr d2)
   have R2:=r.go k2;refine db (qP rfl (by rw [d2.2 rm r.n1 r.n2];exact hv) ?_)
   have hs:=R2.set (v-4);dsimp only;refine xS (deep:=deep) (acc:=acc) ih rfl rfl rfl rfl rfl (by lia) (by lia) (R2.go hs) I.n1 I.n2 I.n3 (by rw [ar I.n3,d2.2 l I.n1 I.n2];exact I.hm) (by lia) (v:=v-4) ⟨Mem.upd_same,by lia⟩ fun bl l3 M3 c3 ok3 hh3 len3 k3 hl3=>?_
   have hk3:=(k2.trans hs).trans k3;have R3:=r.go hk3;have ne3:=R3.h.nep hl3;have ner:l3≠rm:=by
    obtain ⟨u,eu⟩:=R3.v;exact fun e=>by rw [e,eu] at hl3;cases hl3
   have hM3:M l3=none:=by
    cases e:M l3 with
    |none=>rfl
    |some o=>rw [hk3.2.2 l3 o ne3.1 ne3.2 ner e] at hl3;cases hl3
   obtain ⟨v3,rv3,c3⟩:=c3;exact hnx _ _ ⟨j+1,acc++bl,l3,_,⟨⟨v3,⟨by rw [ar (Ne.symm ner)];exact rv3.1,rv3.2⟩,by rw [bM];lia⟩,by lia,by rw [List.length_append];lia,OkRs_append.mpr ⟨I.ok,ok3.1⟩,LnRs_append.mpr ⟨I.ln,ok3.2⟩,by rw [bU];exact Nat.le_trans (Nat.le_of_eq (Nat.add_max_add_right ..).symm) (Nat.max_le.mpr ⟨I.hh,hh3⟩),hk3.trans (R3.new hl3 _),by rw [Mem.upd_same,bA],ne3.1,ne3.2,ner,hM3⟩,rfl⟩
  ·have k2:=I.kp.trans (R.dr d2)
   have R2:=r.go k2;have hm2:M2 l=some (.lst (aq acc)):=by rw [d2.2 l I.n1 I.n2];exact I.hm
   refine xP rfl (by rw [d2.2 rm r.n1 r.n2];exact hv) (fun hz=>?_) ?_
   ·refine db (qP rfl (by rw [d2.2 rm r.n1 r.n2];exact hv) ?_)
    have hs:=R2.set (v-1);dsimp only;refine yv (acc:=acc) rfl rfl rfl hs.1 ht I.n1 I.n2 (by rw [ar I.n3];exact hm2) (by lia) fun rw1 M3 ok3 d3=>?_
    have hk3:=(k2.trans hs).trans ((R2.go hs).dr d3);refine hnx _ _ ⟨j+1,acc++[rw1],l,_,⟨⟨v-1,⟨by rw [ar (Ne.symm I.n3),d3.2 rm r.n1 r.n2,Mem.upd_same],by lia⟩,by rw [bM];simp only [cRs,zv ok3];lia⟩,by lia,by rw [List.length_append,List.length_singleton];lia,OkRs_append.mpr ⟨I.ok,by simp only [bX];exact ⟨pE ok3,trivial⟩⟩,LnRs_append.mpr ⟨I.ln,by simp only [fC];exact ⟨AY ok3,trivial⟩⟩,by rw [bU];simp only [cr,zC ok3,Nat.max_zero,Nat.max_self];exact I.hh,?_,by rw [Mem.upd_same,bA];rfl,I.n1,I.n2,I.n3,I.h0⟩,rfl⟩
    refine ⟨hk3.1.upd ⟨I.n1,I.n2⟩,?_,fun b o h1 h2 h3 e=>?_⟩
    ·obtain ⟨u,eu⟩:=hk3.2.1
     exact ⟨u,by rw [ar (Ne.symm I.n3)];exact eu⟩
    ·rw [ar (Mem.ne e I.h0)];exact hk3.2.2 b o h1 h2 h3 e
   ·exact hnx _ _ ⟨j,acc,l,_,⟨⟨v,⟨by rw [d2.2 rm r.n1 r.n2];exact hv,hv0⟩,hcv⟩,by lia,ha,I.ok,I.ln,I.hh,k2,hm2,I.n1,I.n2,I.n3,I.h0⟩,rfl⟩
 ·rw [d1.2 rm r.n1 r.n2,ar (fun z=>by rw [<- z,rv0.1] at hl;cases hl)];exact rv0.1
 ·simp [oN];lia
 ·rw [d1.2 l nel.1 nel.2,Mem.upd_same];rfl
 ·obtain ⟨v,e⟩:=r.v
  exact fun e'=>by rw [e',e] at hl;cases hl
theorem iM(ht:ToldOk names m many):∀n:Nat,PRo ad k rm names m many n/\PBl ad k rm names m many n
 |0=>⟨fun deep most M Q E _ h=>by lia,fun deep M Q E _ h=>by lia⟩
 |n+1=>⟨km ht (iM ht n).2,oS ht (iM ht n).1⟩
end
end Tw
namespace Tw
open PySem L2 L3
section
variable {ad:Ad}{k:Pt}{M:Mem}{Q:DK}{E:DX}
def Kq(k:Pt)(M M':Mem):Prop:=Has k M'/\∀b o,b≠k.p->b≠k.q->M b=some o->M' b=some o
theorem Kq.trans{M1 M2:Mem}(a:Kq k M M1)(b:Kq k M1 M2):Kq k M M2:=⟨b.1,fun x o h1 h2 h=>b.2 x o h1 h2 (a.2 x o h1 h2 h)⟩
theorem Dr.kq{M':Mem}(d:Dr k M M'):Kq k M M':=⟨d.1,fun b o h1 h2 e=>by rw [d.2 b h1 h2];exact e⟩
structure PlG(m many:Int)(names:List Str)(rows:List Rw)(mk:Str):Prop where
 t:ToldOk names m many
 nd:names.Nodup
 ok:bX names m many rows
 h:cr rows<=4
 cn:cRs rows<=60
 l:rows.length<=100
 ln:fC rows
 mkm:mk∈names
 one:∀x∈names,Ag x
def bH(m many:Int)(names:List Str)(rows:List Rw)(mk:Str):D:=.tup [.int m,.tup (names.map D.str),.int many,.tup (aq rows),.str mk]
theorem rN{v:Int}(v0:0<=v)(v60:v<=60)(hp:Has k M)(h:∀(m many:Int) (names:List Str) (rows:List Rw) (mk:Str) (M':Mem),PlG m many names rows mk->Kq k M M'->Q (bH m many names rows mk) M'):qD ad [.ref k.p,.int v] M Q E:=by
 simp! [C1,nR];refine bI hp (by decide) (by decide) fun x1 M1 a1 b1 d1=>?_
 simp! [];refine bI d1.1 (by decide) (by decide) fun x2 M2 a2 b2 d2=>?_
 simp! [];refine ⟨ci (by decide),fun p hpn=>?_⟩
 rw [Mem.upd_del,aW hpn];refine bI d2.1 (by decide) (by decide) fun x3 M3 a3 b3 d3=>?_
 obtain ⟨m,em,m2,m1⟩:∃m:Int,atI [D.int 2,.int 3,.int (2+x1),.int (2+x2)] x3=some (.int m)/\2<=m/\m<=997:=by
  have:x3=0\/x3=1\/x3=2\/x3=3:=by lia
  rcases this with rfl|rfl|rfl|rfl
  ·exact ⟨2,by simp,by lia,by lia⟩
  ·exact ⟨3,by simp,by lia,by lia⟩
  ·exact ⟨2+x1,by simp,by lia,by lia⟩
  ·exact ⟨2+x2,by simp,by lia,by lia⟩
 simp! [em];refine ⟨ci (by decide),fun p hpn=>?_⟩
 rw [Mem.upd_del,aW hpn];refine bI d3.1 (by decide) (by decide) fun x4 M4 a4 b4 d4=>?_
 obtain ⟨w,ew,w2,w1⟩:∃m:Int,atI [D.int 3,.int 5,.int 12] x4=some (.int m)/\0<m/\m<=12:=by
  have:x4=0\/x4=1\/x4=2:=by lia
  rcases this with rfl|rfl|rfl
  ·exact ⟨3,by simp,by lia,by lia⟩
  ·exact ⟨5,by simp,by lia,by lia⟩
  ·exact ⟨12,by simp,by lia,by lia⟩
 simp! [ew];refine bI d4.1 w2 (by lia) fun x5 M5 a5 b5 d5=>?_
 simp! [];obtain ⟨nn,hnn⟩:∃nn:Nat,(1:Int)+x5=nn:=⟨(1+x5).toNat,by lia⟩
 rw [hnn];refine aT fun Q' E' hq _=>pA d5.1 (by lia) fun names M6 n6 nd6 on6 d6=>hq _ _ ?_
 simp! [];refine bI d6.1 (by decide) (by decide) fun x7 M7 a7 b7 d7=>?_
 simp! [];refine bI d7.1 (by decide) (by decide) fun x8 M8 a8 b8 d8=>?_
 simp! [];refine ⟨ci (by decide),fun p hpn=>?_⟩
 rw [Mem.upd_del,aW hpn];refine bI d8.1 (by decide) (by decide) fun x9 M9 a9 b9 d9=>?_
 obtain ⟨many,ek,k0,k1⟩:∃m:Int,atI [D.int 0,.int (1+x7),.int x8] x9=some (.int m)/\0<=m/\m<=40:=by
  have:x9=0\/x9=1\/x9=2:=by lia
  rcases this with rfl|rfl|rfl
  ·exact ⟨0,by simp,by lia,by lia⟩
  ·exact ⟨1+x7,by simp,by lia,by lia⟩
  ·exact ⟨x8,by simp,by lia,by lia⟩
 simp! [ek];refine ⟨ci (by decide),ci (by decide),fun rm hrm=>⟨ci (by decide),fun p hpn=>?_⟩⟩
 rw [Mem.upd_del,aW hpn];have D9:=d1.trans (d2.trans (d3.trans (d4.trans (d5.trans (d6.trans (d7.trans (d8.trans d9)))))));have nrm:=d9.1.nep hrm;have R9:Rm k rm (M9.upd rm (.lst [.int v])):=⟨d9.1.upd nrm,nrm.1,nrm.2,v,Mem.upd_same⟩;refine bI R9.h (by decide) (by decide) fun x10 M10 a10 b10 d10=>?_
 have R10:=R9.go (R9.dr d10);obtain ⟨most,eo,o0,o1⟩:∃m:Int,atI [D.int 6,.int 12,.int 30] x10=some (.int m)/\0<m/\m<=30:=by
  have:x10=0\/x10=1\/x10=2:=by lia
  rcases this with rfl|rfl|rfl
  ·exact ⟨6,by simp,by lia,by lia⟩
  ·exact ⟨12,by simp,by lia,by lia⟩
  ·exact ⟨30,by simp,by lia,by lia⟩
 simp! [eo];have ht:ToldOk names m many:=⟨m2,m1,by lia,by lia,k0,k1⟩
 refine aT fun Q' E' hq _=>(iM ht 24).1 0 most M10 Q' E' (by decide) (by decide) o0 o1 R10 v ⟨by rw [d10.2 rm nrm.1 nrm.2,Mem.upd_same],v0⟩ fun rows M11 c11 ok11 h11 l11 k11=>hq _ _ ?_
 obtain ⟨v11,rv11,c11⟩:=c11;have v110:=rv11.2;simp! [List.length_map];refine bI k11.1 (by lia) (by lia) fun x12 M12 a12 b12 d12=>?_
 obtain ⟨mk,hmk,emk⟩:=gl a12 b12;simp! [emk];refine ⟨ci (by decide),br (h m many names rows mk M12 ⟨ht,nd6,ok11.1,by lia,by lia,l11,ok11.2,hmk,on6⟩ ?_)⟩
 refine D9.kq.trans (Kq.trans ?_ d12.kq);refine ⟨k11.1,fun b o h1 h2 e=>?_⟩;have hb:b≠rm:=Mem.ne e hrm;have:=(R9.dr d10).2.2 b o h1 h2 hb (by rw [ar hb];exact e)
 exact k11.2.2 b o h1 h2 hb this
end
end Tw
namespace Tw
open PySem L2 L3
def wf:Nat->D->Prop
 |_,.non=>True
 |_,.bl _=>True
 |_,.int _=>True
 |_,.str _=>True
 |n+1,.tup xs=>xs.length<=100000/\∀x∈xs,wf n x
 |n+1,.lst xs=>xs.length<=100000/\∀x∈xs,wf n x
 |_,_=>False
theorem fB:∀n:Nat,gw (List.replicate n (.bl true))=some (List.replicate n true)
 |0=>rfl
 |n+1=>by rw [List.replicate_succ,gw,fB n];rfl
theorem k7{n:Nat}:(List.replicate n true).all id=true:=by simp
theorem i1:cm "tuple" "bool"=false:=by decide +kernel
theorem i2:cm "tuple" "int"=false:=by decide +kernel
theorem i3:cm "tuple" "str"=false:=by decide +kernel
theorem i4:cm "tuple" "tuple"=true:=by decide +kernel
theorem i5:cm "tuple" "list"=false:=by decide +kernel
theorem i6:cm "list" "bool"=false:=by decide +kernel
theorem i7:cm "list" "int"=false:=by decide +kernel
theorem i8:cm "list" "str"=false:=by decide +kernel
theorem i9:cm "list" "tuple"=false:=by decide +kernel
theorem i10:cm "list" "list"=true:=by decide +kernel
theorem i11:cm "bool" "bool"=true:=by decide +kernel
theorem i12:cm "int" "bool"=false:=by decide +kernel
theorem i13:cm "int" "int"=true:=by decide +kernel
theorem i14:cm "str" "bool"=false:=by decide +kernel
theorem i15:cm "str" "int"=false:=by decide +kernel
theorem i16:cm "str" "str"=true:=by decide +kernel
theorem t1:oY "bool"=true:=by decide +kernel
theorem t2:oY "int"=true:=by decide +kernel
theorem t3:oY "str"=true:=by decide +kernel
theorem t4:oY "tuple"=true:=by decide +kernel
theorem t5:oY "list"=true:=by decide +kernel
theorem iy:∀xs:List D,oQ xs xs=xs.map (fun z=>D.tup [z,z])
 |[]=>rfl
 |x::xs=>by
  have:=iy xs;simp only [oQ] at this ⊢;simp [this]
theorem df{ad:Ad}:∀(n:Nat) (x:D) (M:Mem) (Q:DK) (E:DX),wf n x->Q (.bl true) M->S_q12 ad (n+1) [x,x] M Q E
 |n,x,M,Q,E,hx,h=>by
  cases x with
  |non=>simp! [iV,fF];exact br h
  |bl b=>simp! [iV,fF,i11,t1,beq_self_eq_true];exact br h
  |int i=>simp! [iV,fF,i12,i13,t1,t2];exact br h
  |str i=>simp! [iV,fF,i14,i15,i16,t1,t2,t3];exact br h
  |tup xs=>
   cases n with
   |zero=>exact hx.elim
   |succ n=>
    obtain ⟨hl,hx⟩:=hx;simp! [iV,fF,i1,i2,i3,i4,i5,t1,t2,t3,t4,t5,dE];rw [if_neg (by decide),if_neg (by decide),if_neg (by decide)]
    refine cM (fun ys acc δ M'=>∃(zs:List D) (j:Nat) (c0 c1:Option D),ys=zs.map (fun z=>D.tup [z,z])/\(∀z∈zs,wf n z)/\zs.length+j<=100000/\acc=List.replicate j (.bl true)/\δ=[c0,c1]/\M'=M) (fun _ _ _ _ _=>cA) ?_ ?_ ?_ _ _ _ _ ⟨xs,0,none,none,iy xs,hx,by omega,rfl,rfl,rfl⟩
    ·rintro acc δ M' ⟨zs,j,c0,c1,e1,e2,e3,rfl,rfl,rfl⟩ p hpn
     simp! [Mem.upd_del,aW hpn,fB,k7];exact br h
    ·rintro y ys acc δ M' ⟨zs,j,c0,c1,e1,e2,e3,rfl,rfl,rfl⟩ N hN _
     cases zs with
     |nil=>simp at e1
     |cons z zs=>
      simp only [List.map_cons,List.cons.injEq] at e1;obtain ⟨rfl,rfl⟩:=e1;simp only [List.length_cons] at e3;simp! [];refine jF (d:=.bl true) (fun Q' E' q=>df n z M' Q' E' (e2 z (List.mem_cons_self ..)) q) ?_;simp! [];exact hN _ _ _ (by simp;exact kD (by omega)) ⟨zs,j+1,_,_,rfl,fun w hw=>e2 w (List.mem_cons_of_mem _ hw),by omega,by rw [List.replicate_succ'],rfl,rfl⟩
    ·rintro y ys acc δ M' ⟨zs,j,c0,c1,e1,e2,e3,rfl,rfl,rfl⟩
     simp;exact kD (by omega)
  |lst xs=>
   cases n with
   |zero=>exact hx.elim
   |succ n=>
    obtain ⟨hl,hx⟩:=hx;simp! [iV,fF,i6,i7,i8,i9,i10,t1,t2,t3,t4,t5,dE];rw [if_neg (by decide),if_neg (by decide),if_neg (by decide)]
    refine cM (fun ys acc δ M'=>∃(zs:List D) (j:Nat) (c0 c1:Option D),ys=zs.map (fun z=>D.tup [z,z])/\(∀z∈zs,wf n z)/\zs.length+j<=100000/\acc=List.replicate j (.bl true)/\δ=[c0,c1]/\M'=M) (fun _ _ _ _ _=>cA) ?_ ?_ ?_ _ _ _ _ ⟨xs,0,none,none,iy xs,hx,by omega,rfl,rfl,rfl⟩
    ·rintro acc δ M' ⟨zs,j,c0,c1,e1,e2,e3,rfl,rfl,rfl⟩ p hpn
     simp! [Mem.upd_del,aW hpn,fB,k7];exact br h
    ·rintro y ys acc δ M' ⟨zs,j,c0,c1,e1,e2,e3,rfl,rfl,rfl⟩ N hN _
     cases zs with
     |nil=>simp at e1
     |cons z zs=>
      simp only [List.map_cons,List.cons.injEq] at e1;obtain ⟨rfl,rfl⟩:=e1;simp only [List.length_cons] at e3;simp! [];refine jF (d:=.bl true) (fun Q' E' q=>df n z M' Q' E' (e2 z (List.mem_cons_self ..)) q) ?_;simp! [];exact hN _ _ _ (by simp;exact kD (by omega)) ⟨zs,j+1,_,_,rfl,fun w hw=>e2 w (List.mem_cons_of_mem _ hw),by omega,by rw [List.replicate_succ'],rfl,rfl⟩
    ·rintro y ys acc δ M' ⟨zs,j,c0,c1,e1,e2,e3,rfl,rfl,rfl⟩
     simp;exact kD (by omega)
  |_=>cases n<;>exact hx.elim
end Tw
namespace Tw
open PySem L2 L3 LS
def cZ:Rw->Bool
 |.pick _ _=>true
 |_=>false
def bN:Rw->Bool
 |.ifr _ _ _=>true
 |.again _ _=>true
 |_=>false
abbrev Tr:=List Int×Rw×Rw
mutual
def fE(pl:List Int):Rw->Rw->Option (List Tr)
 |.ifr x a b,o=>match o with
  |.ifr y a' b'=>if x=y then (match dF (pl++[1]) 0 a a',dF (pl++[0]) 0 b b' with
   |some l1,some l2=>some (l1++l2)
   |_,_=>none) else none
  |_=>none
 |.again x a,o=>match o with
  |.again y a'=>if x=y then dF (pl++[0]) 0 a a' else none
  |_=>none
 |r,o=>if (cZ r||cZ o||bN o)=true then none else some [(pl,r,o)]
def dF(pl:List Int):Nat->List Rw->List Rw->Option (List Tr)
 |_,[],os=>match os with
  |[]=>some []
  |_=>none
 |j,r::rs,os=>match os with
  |[]=>none
  |o::os=>match fE (pl++[(j:Int)]) r o,dF pl (j+1) rs os with
   |some l1,some l2=>some (l1++l2)
   |_,_=>none
end
mutual
def dP:Rw->Rw->Bool
 |.ifr x a b,o=>match o with
  |.ifr y a' b'=>decide (x=y)&&(b_ a a'&&b_ b b')
  |_=>false
 |.again x a,o=>match o with
  |.again y a'=>decide (x=y)&&b_ a a'
  |_=>false
 |r,o=>!(cZ r||cZ o||bN o)
def b_:List Rw->List Rw->Bool
 |[],os=>os.isEmpty
 |r::rs,os=>match os with
  |[]=>false
  |o::os=>dP r o&&b_ rs os
end
def sY(r o:Rw):Bool:=!bq r.d o.d
mutual
def dB(pl:List Int):Rw->Rw->List (List Int)
 |.ifr _ a b,o=>match o with
  |.ifr _ a' b'=>ce (pl++[0]) 0 b b'++ce (pl++[1]) 0 a a'
  |_=>[]
 |.again _ a,o=>match o with
  |.again _ a'=>ce (pl++[0]) 0 a a'
  |_=>[]
 |r,o=>if sY r o=true then [pl] else []
def ce(pl:List Int):Nat->List Rw->List Rw->List (List Int)
 |_,[],_=>[]
 |j,r::rs,os=>match os with
  |[]=>[]
  |o::os=>dB (pl++[(j:Int)]) r o++ce pl (j+1) rs os
end
def mm(l:List Tr):List (List Int):=(l.filter fun t=>sY t.2.1 t.2.2).map (·.1)
theorem rG{a b:List Tr}:mm (a++b)=mm a++mm b:=by simp [mm]
mutual
theorem zW:∀(r o:Rw) (pl:List Int),(fE pl r o).isSome=dP r o
 |.ifr x a b,o,pl=>by
  have h1:=fm a;have h2:=fm b;cases o with
  |ifr y a' b'=>
   simp only [fE,dP]
   by_cases c:x=y
   ·rw [if_pos c,decide_eq_true c,Bool.true_and,<- h1 a' (pl++[1]) 0,<- h2 b' (pl++[0]) 0]
    cases dF (pl++[1]) 0 a a'<;>cases dF (pl++[0]) 0 b b'<;>rfl
   ·rw [if_neg c,decide_eq_false c,Bool.false_and];rfl
  |_=>rfl
 |.again x a,o,pl=>by
  have h1:=fm a;cases o with
  |again y a'=>
   simp only [fE,dP]
   by_cases c:x=y
   ·rw [if_pos c,decide_eq_true c,Bool.true_and,h1]
   ·rw [if_neg c,decide_eq_false c,Bool.false_and];rfl
  |_=>rfl
 |.put x k,o,pl=>by cases o<;>rfl
 |.take x k,o,pl=>by cases o<;>rfl
 |.pick x k,o,pl=>by cases o<;>rfl
 |.two w x y z,o,pl=>by cases o<;>rfl
theorem fm:∀(rs os:List Rw) (pl:List Int) (j:Nat),(dF pl j rs os).isSome=b_ rs os
 |[],os,pl,j=>by cases os<;>rfl
 |r::rs,os,pl,j=>by
  cases os with
  |nil=>rfl
  |cons o os=>
   simp only [dF,b_];rw [<- zW r o (pl++[(j:Int)]),<- fm rs os pl (j+1)];cases fE (pl++[(j:Int)]) r o<;>cases dF pl (j+1) rs os<;>rfl
end
mutual
theorem xf:∀(r o:Rw) (pl:List Int) (l:List Tr),fE pl r o=some l->(mm l).Perm (dB pl r o)
 |.ifr x a b,o,pl,l,h=>by
  have h1:=fQ a;have h2:=fQ b;cases o with
  |ifr y a' b'=>
   simp only [fE] at h
   split at h
   ·split at h
    ·rename_i e1 e2
     cases h;rw [rG];exact (List.Perm.append (h1 _ _ _ _ e1) (h2 _ _ _ _ e2)).trans List.perm_append_comm
    ·cases h
   ·cases h
  |_=>cases h
 |.again x a,o,pl,l,h=>by
  have h1:=fQ a;cases o with
  |again y a'=>
   simp only [fE] at h
   split at h
   ·exact h1 _ _ _ _ h
   ·cases h
  |_=>cases h
 |.put x k,o,pl,l,h=>by
  simp only [fE] at h
  split at h
  ·cases h
  ·cases h;simp only [dB,mm,List.filter_cons,List.filter_nil];split<;>simp
 |.take x k,o,pl,l,h=>by
  simp only [fE] at h
  split at h
  ·cases h
  ·cases h;simp only [dB,mm,List.filter_cons,List.filter_nil];split<;>simp
 |.pick x k,o,pl,l,h=>by
  simp only [fE] at h
  split at h
  ·cases h
  ·cases h;simp only [dB,mm,List.filter_cons,List.filter_nil];split<;>simp
 |.two w x y z,o,pl,l,h=>by
  simp only [fE] at h
  split at h
  ·cases h
  ·cases h;simp only [dB,mm,List.filter_cons,List.filter_nil];split<;>simp
theorem fQ:∀(rs os:List Rw) (pl:List Int) (j:Nat) (l:List Tr),dF pl j rs os=some l->(mm l).Perm (ce pl j rs os)
 |[],os,pl,j,l,h=>by
  cases os with
  |nil=>cases h;exact List.Perm.refl _
  |cons _ _=>cases h
 |r::rs,os,pl,j,l,h=>by
  cases os with
  |nil=>cases h
  |cons o os=>
   simp only [dF] at h
   split at h
   ·rename_i e1 e2
    cases h;rw [rG];exact List.Perm.append (xf r o _ _ e1) (fQ rs os _ _ _ e2)
   ·cases h
end
mutual
theorem mw:∀(r o:Rw) (pl:List Int) (l:List Tr),fE pl r o=some l->l.length<=cR r
 |.ifr x a b,o,pl,l,h=>by
  have h1:=eB a;have h2:=eB b;cases o with
  |ifr y a' b'=>
   simp only [fE] at h
   split at h
   ·split at h
    ·rename_i e1 e2
     cases h;have q1:=h1 _ _ _ _ e1;have q2:=h2 _ _ _ _ e2;simp only [List.length_append,cR];lia
    ·cases h
   ·cases h
  |_=>cases h
 |.again x a,o,pl,l,h=>by
  have h1:=eB a;cases o with
  |again y a'=>
   simp only [fE] at h
   split at h
   ·have:=h1 _ _ _ _ h
    simp only [cR];lia
   ·cases h
  |_=>cases h
 |.put x k,o,pl,l,h=>by
  simp only [fE] at h
  split at h
  ·cases h
  ·cases h;simp [cR]
 |.take x k,o,pl,l,h=>by
  simp only [fE] at h
  split at h
  ·cases h
  ·cases h;simp [cR]
 |.pick x k,o,pl,l,h=>by
  simp only [fE] at h
  split at h
  ·cases h
  ·cases h;simp [cR]
 |.two w x y z,o,pl,l,h=>by
  simp only [fE] at h
  split at h
  ·cases h
  ·cases h;simp [cR]
theorem eB:∀(rs os:List Rw) (pl:List Int) (j:Nat) (l:List Tr),dF pl j rs os=some l->l.length<=cRs rs
 |[],os,pl,j,l,h=>by
  cases os with
  |nil=>cases h;simp [cRs]
  |cons _ _=>cases h
 |r::rs,os,pl,j,l,h=>by
  cases os with
  |nil=>cases h
  |cons o os=>
   simp only [dF] at h
   split at h
   ·rename_i e1 e2
    cases h;have q1:=mw r o _ _ e1;have q2:=eB rs os _ _ _ e2;simp only [List.length_append,cRs];lia
   ·cases h
end
theorem et:∀{rs os:List Rw},b_ rs os=true->rs.length=os.length
 |[],os,h=>by cases os with|nil=>rfl|cons _ _=>cases h
 |r::rs,os,h=>by
  cases os with
  |nil=>cases h
  |cons o os=>
   simp only [b_,Bool.and_eq_true] at h;simp [et h.2]
end Tw
namespace Tw
open PySem L2 L3 LS
def da:Rw->Str
 |.put _ _=>"put"
 |.take _ _=>"take"
 |.pick _ _=>"pick"
 |.two w _ _ _=>w
 |.ifr _ _ _=>"if"
 |.again _ _=>"again"
def gK:Rw->Str
 |.put x _=>x
 |.take x _=>x
 |.pick x _=>x
 |.two _ x _ _=>x
 |.ifr x _ _=>x
 |.again x _=>x
def zT:Rw->List D
 |.put _ k=>[.int k]
 |.take _ k=>[.int k]
 |.pick _ y=>[.str y]
 |.two _ _ y z=>[.str y,.str z]
 |.ifr _ a b=>[.tup (aq a),.tup (aq b)]
 |.again _ a=>[.tup (aq a)]
theorem gn(r:Rw):r.d=.tup (.str (da r)::.str (gK r)::zT r):=by cases r<;>rfl
def BG:Rw->List D
 |.ifr _ a b=>[.tup (aq a),.tup (aq b)]
 |.again _ a=>[.tup (aq a)]
 |_=>[]
def iH:Rw->Bool
 |.ifr _ _ _=>true
 |_=>false
def om:Rw->Bool
 |.again _ _=>true
 |_=>false
section
variable {ad:Ad}{M N:Mem}{Q:DK}{E:DX}{r o:Rw}{names:List Str}{m many:Int}
theorem mE{w x y z:Str}(h:eG names m many (.two w x y z)):w≠"if"/\w≠"again"/\w≠"pick":=by
 obtain ⟨hw,_⟩:=(show ie names m many (.two w x y z) from h);rcases hw with rfl|rfl|rfl|rfl<;>decide +kernel
theorem ir(h:eG names m many r):decide (da r="if")=iH r:=by
 cases r with
 |two w x y z=>exact decide_eq_false (mE h).1
 |_=>simp! [da,iH,not_false_eq_true]
theorem l0(h:eG names m many r):decide (da r="again")=om r:=by
 cases r with
 |two w x y z=>exact decide_eq_false (mE h).2.1
 |_=>simp! [da,om,not_false_eq_true]
theorem wb(h:eG names m many r):decide (da r="pick")=cZ r:=by
 cases r with
 |two w x y z=>exact decide_eq_false (mE h).2.2
 |_=>simp! [da,cZ,not_false_eq_true]
theorem o8(ok:eG names m many r)(h:∀p,M p=none->Q (.ref p) (M.upd p (.lst (BG r)))):lK ad [r.d] M Q E:=by
 have w1:=ir ok;have w2:=l0 ok;rw [u_q8 (n:=0)];unfold vb vR;generalize hK:pF ad (bV E)=K;generalize hL:aC (bz (aB (aA dN (aA bB (ae 0) (dC (.int 0))) (dC (.str "again")))) (bC (bT (ac (aA bB (ae 0) (dC (.int 2))) ai))) bg) (bC (bT ai))=L;have tL:iH r=false->L { nx:=fun _ M'=>drp Q .non M',rt:=drp Q } [some r.d] M:=fun e=>by
  rw [<- hL];generalize hG:bC (bT (ac (aA bB (ae 0) (dC (.int 2))) ai))=G;rw [gn];simp only [aC,bz,aB,aA,ae,dC,bB,bR,atI_0,dN,dv,bq,cB,List.getElem?_cons_succ,List.getElem?_cons_zero];rw [w2];refine ⟨trivial,trivial,?_⟩;cases r with
  |ifr x a b=>cases e
  |again x a=>
   show G _ _ M;rw [<- hG];exact ⟨ci (by simp),fun p hp=>br (h p hp)⟩
  |_=>exact ⟨ci (by simp),fun p hp=>br (h p hp)⟩
 rw [gn] at tL ⊢;simp only [aC,bz,aB,aA,ae,dC,bB,bR,atI_0,dN,dv,bq,cB,List.getElem?_cons_succ,List.getElem?_cons_zero];rw [w1];refine ⟨trivial,trivial,?_⟩;cases r with
 |ifr x a b=>
  show K _ _ M;rw [<- hK];unfold pF;exact ⟨ci (by simp),fun p hp=>br (h p hp)⟩
 |_=>exact tL rfl
theorem dQ{EE:DX}{bx:BxQ EE fun d M'=>frz d M' Q}(ok:eG names m many r)(h:Q (.lst (BG r)) M):calls (lK ad) EE [r.d] M (fun d M'=>frz d M' Q) bx:=
 aT fun Q' E' hq _=>o8 ok fun p hp=>hq _ _ (by simp only [frz,Mem.upd_same,Mem.upd_del,aW hp];exact h)
def ms(r o:Rw):Bool:=!cZ r&&!cZ o&&(!(bN r||bN o)||(decide (da r=da o)&&decide (gK r=gK o)))
theorem nt(ok:eG names m many r)(ok2:eG names m many o)(h1:ms r o=true->Q .non M)(h2:ms r o=false->E ad.C_NoBuild M):xZ ad [r.d,o.d] M Q E:=by
 have w1:=wb ok;have w2:=wb ok2;have hn:ms r o=true->drp Q .non M:=fun e=>br (h1 e);have hx:ms r o=false->bV E ad.C_NoBuild M:=fun e=>jn (h2 e);rw [u_q0 (n:=0)];unfold vN;generalize hK:oT ad (bV E)=K;generalize hD:({ nx:=fun _ M'=>drp Q .non M',rt:=drp Q }:DEnds)=DD;have t1:cZ r=false->cZ o=false->K DD [some r.d,some o.d] M:=fun p1 p2=>by
  rw [<- hK,<- hD];unfold oT;have eS:ms r o=(!(bN r||bN o)||(decide (da r=da o)&&decide (gK r=gK o))):=by unfold ms;rw [p1,p2];rfl
  have cmp:∀K:Bool->Mem->Prop,K (!(decide (da r=da o)&&decide (gK r=gK o))) M->aB (aA fZ (au (dw (ae 0) aD (bi (dC (.int 2))))) (au (dw (ae 1) aD (bi (dC (.int 2)))))) [some r.d,some o.d] M K:=fun K q=>by
   rw [gn r,gn o];have e2:∀(a b:D) (l:List D),fv (a::b::l) none (some 2)=[a,b]:=fun a b l=>dX (k:=2);simp only [aB,aA,au,dw,ae,aD,bi,dC,pQ,e2,frz,List.getElem?_cons_succ,List.getElem?_cons_zero];refine ⟨rfl,rfl,?_⟩;simp only [dv,bq,dH,Bool.and_true];exact q
  generalize hC:aB (aA fZ (au (dw (ae 0) aD (bi (dC (.int 2))))) (au (dw (ae 1) aD (bi (dC (.int 2))))))=CC at cmp ⊢;simp only [bz,dA,kI,dM,au,ax,ac,ae,ai,List.getElem?_cons_succ,List.getElem?_cons_zero];have fin:(bN r||bN o)=true->CC [some r.d,some o.d] M (fun b M1=>if b=true then gI ad.C_NoBuild (bV E) { nx:=fun _ M'=>drp Q .non M',rt:=drp Q } [some r.d,some o.d] M1 else bg { nx:=fun _ M'=>drp Q .non M',rt:=drp Q } [some r.d,some o.d] M1):=fun e=>by
   refine cmp _ ?_;rw [e] at eS;rw [Bool.not_true,Bool.false_or] at eS;rw [<- eS];cases c:ms r o with
   |true=>exact hn c
   |false=>exact hx c
  refine ⟨rfl,dQ ok ?_⟩;have tr:∀q:Rw,xY M (.lst (BG q))=some (bN q):=fun q=>by cases q<;>rfl
  simp only [tr];cases c1:bN r with
  |true=>
   rw [c1] at fin;exact fin rfl
  |false=>
   simp only [Bool.false_eq_true,if_false];refine ⟨rfl,dQ ok2 ?_⟩;simp only [tr];cases c2:bN o with
   |true=>
    rw [c1,c2] at fin;exact fin rfl
   |false=>
    rw [c1,c2] at eS;exact hn eS
 have a1:∀q:Rw,atI (.str (da q)::.str (gK q)::zT q) 0=some (.str (da q)):=fun q=>by rw [atI_0];rfl
 have no:(cZ r||cZ o)=true->ms r o=false:=fun e=>by
  unfold ms;cases c:cZ r with
  |true=>rfl
  |false=>rw [c,Bool.false_or] at e;rw [e];rfl
 have rd:∀(q:Rw),q.d=.tup (.str (da q)::.str (gK q)::zT q):=gn;rw [rd r,rd o] at t1 ⊢;simp only [aC,bz,kI,aB,aA,ae,dC,bB,bR,a1,dN,dv,bq,cB,List.getElem?_cons_succ,List.getElem?_cons_zero];rw [w1,w2];refine ⟨trivial,trivial,?_⟩;cases c1:cZ r with
 |true=>exact hx (no (by rw [c1];rfl))
 |false=>
  refine ⟨trivial,trivial,?_⟩;cases c2:cZ o with
  |true=>exact hx (no (by rw [c2,Bool.or_true]))
  |false=>
   rw [c1,c2] at t1;exact t1 rfl rfl
end
end Tw
namespace Tw
open PySem L2 L3 LS
def wG(t:Tr):D:=.tup [cg t.1,t.2.1.d,t.2.2.d]
theorem fh{M:Mem}{Q:DK}{p:Addr}{xs:List D}(hp:M p=none)(h:Q (.lst xs) M):frz (.ref p) (M.upd p (.lst xs)) Q:=by
 simp only [frz,Mem.upd_same,Mem.upd_del,aW hp];exact h
theorem vK{a b:List Rw}{o:Rw}:atI (aq (a++o::b)) (a.length:Nat)=some o.d:=by
 rw [cX (by lia),Int.toNat_natCast,cP,List.getElem?_map]
 simp
def PPa(ad:Ad)(n:Nat):Prop:=∀(rs os:List Rw) (pl:List Int) (M:Mem) (Q:DK) (E:DX) (names:List Str) (m many:Int),bX names m many rs->bX names m many os->2*cr rs+1<=n->cRs rs<=1000->pl.length+2*cr rs+1<=900->
 (∀l,dF pl 0 rs os=some l->∀p,M p=none->Q (.ref p) (M.upd p (.lst (l.map wG))))->(dF pl 0 rs os=none->E ad.C_NoBuild M)->S_q24 ad n [.tup (aq rs),.tup (aq os),cg pl] M Q E
def PWi(ad:Ad)(n:Nat):Prop:=∀(r o:Rw) (pl:List Int) (M:Mem) (Q:DK) (E:DX) (names:List Str) (m many:Int),eG names m many r->eG names m many o->bN r=true->ms r o=true->2*hR r<=n->cR r<=1000->pl.length+2*hR r<=900->
 (∀l,fE pl r o=some l->∀p,M p=none->Q (.ref p) (M.upd p (.lst (l.map wG))))->(fE pl r o=none->E ad.C_NoBuild M)->S_q4 ad n [r.d,o.d,cg pl] M Q E
section
variable {ad:Ad}{M N:Mem}{Q:DK}{E:DX}{r o:Rw}{names:List Str}{m many:Int}{n:Nat}
theorem mK{pl:List Int}(ok:eG names m many r)(ok2:eG names m many o)(h1:bN r=false):(ms r o=true->fE pl r o=some [(pl,r,o)])/\(ms r o=false->fE pl r o=none):=by
 cases r<;>first|cases h1|skip
 all_goals cases o<;>refine ⟨fun h=>?_,fun h=>?_⟩<;>first|rfl|(cases h;done)|(simp [ms,cZ,bN,fE,da] at h ⊢;done)|skip
 ·exact absurd (by simp [ms,cZ,bN,da] at h;exact of_decide_eq_true h.1) (mE ok).1
 ·exact absurd (by simp [ms,cZ,bN,da] at h;exact of_decide_eq_true h.1) (mE ok).2.1
theorem Bc{pl:List Int}(h1:bN r=true)(h:ms r o=false):fE pl r o=none:=by
 cases r<;>first|cases h1|skip
 all_goals cases o<;>first|rfl|skip
 ·rename_i x a b y a' b'
  have:¬x=y:=fun e=>by subst e;simp [ms,cZ,bN,da,gK] at h
  simp only [fE,if_neg this]
 ·rename_i x a y a'
  have:¬x=y:=fun e=>by subst e;simp [ms,cZ,bN,da,gK] at h
  simp only [fE,if_neg this]
theorem gD{pl:List Int}{i:Int}{K:DK}(hl:pl.length<=100000)(q:K (cg (pl++[i])) M):bD (cg pl) (.tup [.int i]) M K:=by
 have e:cg (pl++[i])=.tup (pl.map D.int++[.int i]):=by simp [cg]
 rw [e] at q;exact ⟨ci (by simp only [List.length_map,List.length_cons,List.length_nil];lia),q⟩
theorem wZ(ih:PWi ad n){pl:List Int}{rsD:D}{os1 os2:List Rw}{p:Addr}{acc:List Tr}{EE:DX}{D2:DEnds}(ok:eG names m many r)(ok2:eG names m many o)(hn:2*hR r<=n)(hc:cR r<=1000)(hl:pl.length+1+2*hR r<=900)(ha:acc.length<=100000)(hp:N p=some (.lst (acc.map wG)))
  (h1:∀l,fE (pl++[(os1.length:Int)]) r o=some l->D2.nx [some rsD,some (.tup (aq (os1++o::os2))),some (cg pl),some (.ref p),some (.int (os1.length:Nat)),some r.d] (N.upd p (.lst ((acc++l).map wG))))
  (h2:fE (pl++[(os1.length:Int)]) r o=none->EE ad.C_NoBuild N):
  lw ad (S_q24 ad n) (S_q4 ad n) EE D2 [some rsD,some (.tup (aq (os1++o::os2))),some (cg pl),some (.ref p),some (.int (os1.length:Nat)),some r.d] N:=by
 have eo:=vK (a:=os1) (b:=os2) (o:=o);unfold lw;generalize hK3:lz ad (S_q24 ad n) (S_q4 ad n) EE=K3;simp only [aC,cD,ax,ac,ae,aA,ai,bB,bR,eo,List.getElem?_cons_succ,List.getElem?_cons_zero];refine ⟨rfl,aT fun Q' E' hq hE=>nt ok ok2 (fun s=>hq _ _ ?_) fun s=>hE _ _ (h2 ?_)⟩
 ·rw [<- hK3]
  unfold lz;generalize hK1:lD ad (S_q24 ad n) (S_q4 ad n) EE=K1;generalize hK2:lU ad (S_q24 ad n) (S_q4 ad n) EE=K2;simp only [bz,dM,au,ax,ac,ae,ai,List.getElem?_cons_succ,List.getElem?_cons_zero];refine ⟨rfl,dQ ok ?_⟩;have tr:xY N (.lst (BG r))=some (bN r):=by cases r<;>rfl
  simp only [tr];cases cb:bN r with
  |true=>
   show K1 D2 _ N;rw [<- hK1];unfold lD;simp only [cD,iA,au,ax,ac,ae,aA,aU,ai,bB,bR,eo,dy,hp,List.getElem?_cons_succ,List.getElem?_cons_zero];refine ⟨trivial,ci (by simp),gD (by lia) ⟨rfl,aT fun Q2 E2 hq2 hE2=>ih r o _ N Q2 E2 names m many ok ok2 cb s hn hc (by simp;lia) (fun l el q hq=>hq2 _ _ (fh hq ?_)) fun e=>hE2 _ _ (h2 e)⟩⟩
   have hle:=mw r o _ _ el;simp only [gg,hp,fH];refine ⟨ci (by simp only [List.length_map];lia),?_⟩
   rw [<- List.map_append];exact h1 l el
  |false=>
   obtain ⟨s1,_⟩:=mK (pl:=pl++[(os1.length:Int)]) ok ok2 cb;show K2 D2 _ N;rw [<- hK2];unfold lU;simp only [cD,iA,ac,ae,aA,aU,ai,bB,bR,eo,dy,hp,List.getElem?_cons_succ,List.getElem?_cons_zero];refine ⟨trivial,ci (by simp),gD (by lia) ⟨ci (by simp),?_⟩⟩
   simp only [bZ,hp];refine ⟨kD (by simp only [List.length_map];lia),?_⟩
   have:=h1 _ (s1 s);rw [List.map_append] at this;exact this
 ·cases cb:bN r with
  |true=>exact Bc cb s
  |false=>exact (mK ok ok2 cb).2 s
theorem yD(ih:PWi ad n):PPa ad (n+1):=by
 intro rs os pl M Q E names m many ok ok2 hn hc hl h1 h2;rw [BZ (n:=n)];unfold nk;generalize hK5:lG ad (S_q24 ad n) (S_q4 ad n) (bV E)=K5;simp only [aC,bz,aB,aA,c_,ac,ae,ai,cO,bR,bb,fZ,dv,bq,cB,List.getElem?_cons_succ,List.getElem?_cons_zero];refine ⟨trivial,trivial,?_⟩
 by_cases c:((rs.length:Nat):Int)=(os.length:Nat)
 ·rw [decide_eq_true c,Bool.not_true,if_neg (by simp)]
  unfold bg;dsimp only;simp only [aC,aK];refine ⟨ci (by simp),fun p hp=>?_⟩
  simp only [am,List.set];rw [<- hK5];unfold lG;simp only [aC,fo,mC,ac,ae,ai,bR,cT,jE,List.getElem?_cons_succ,List.getElem?_cons_zero]
  refine cY (fun xs δ N=>∃(rs2 os1 os2:List Rw) (acc:List Tr) (c4 c5:Option D),xs=fV os1.length (aq rs2)/\os=os1++os2/\rs2.length=os2.length/\bX names m many rs2/\bX names m many os2/\2*cr rs2+1<=n+1/\acc.length+cRs rs2<=1000/\pl.length+2*cr rs2+1<=900/\δ=[some (.tup (aq rs)),some (.tup (aq os)),some (cg pl),some (.ref p),c4,c5]/\N=M.upd p (.lst (acc.map wG))/\
   (∀l,dF pl os1.length rs2 os2=some l->dF pl 0 rs os=some (acc++l))/\(dF pl os1.length rs2 os2=none->dF pl 0 rs os=none)) (fun _ _ _ _=>cA) ?_ ?_ _ _ _ ⟨rs,[],os,[],none,none,rfl,rfl,by lia,ok,ok2,by lia,by simpa using hc,by lia,rfl,rfl,fun l e=>by simpa using e,fun e=>e⟩
  ·rintro δ N ⟨rs2,os1,os2,acc,c4,c5,e1,e2,e3,o1,o2,b1,b2,b3,rfl,rfl,g1,g2⟩
   have:rs2=[]:=by cases rs2 with|nil=>rfl|cons _ _=>simp [aq,fV] at e1
   subst this;have:os2=[]:=List.length_eq_zero_iff.mp (by simpa using e3.symm)
   subst this;have:=g1 [] rfl;rw [List.append_nil] at this;exact br (h1 acc this p hp)
  ·rintro x xs δ N ⟨rs2,os1,os2,acc,c4,c5,e1,e2,e3,o1,o2,b1,b2,b3,rfl,rfl,g1,g2⟩ D' hnx _ _ _
   cases rs2 with
   |nil=>simp [aq,fV] at e1
   |cons r rs2=>
    cases os2 with
    |nil=>simp at e3
    |cons o os2=>
     simp only [aq,fV,List.cons.injEq] at e1;obtain ⟨rfl,rfl⟩:=e1;simp only [cr,cRs] at b1 b2 b3;have q1:2*max (hR r) (cr rs2)=max (2*hR r) (2*cr rs2):=by lia
     simp only [dl,bp,dj,am,List.set,List.length_cons,List.length_nil];subst e2;refine ⟨trivial,wZ ih o1.1 o2.1 (by lia) (by lia) (by lia) (by lia) Mem.upd_same (fun l el=>?_) fun e=>?_⟩
     ·rw [Mem.upd_upd]
      have le:=mw r o _ _ el;refine hnx _ _ ⟨rs2,os1++[o],os2,acc++l,_,_,by simp,by simp,by simpa using e3,o1.2,o2.2,by lia,by simp;lia,by lia,rfl,rfl,fun l2 el2=>?_,fun e=>?_⟩
      ·have:dF pl os1.length (r::rs2) (o::os2)=some (l++l2):=by
        simp only [List.length_append,List.length_cons,List.length_nil] at el2;simp only [dF,el,el2]
       rw [g1 _ this,List.append_assoc]
      ·apply g2
       simp only [List.length_append,List.length_cons,List.length_nil] at e;simp only [dF,el,e]
     ·refine ⟨M,fun b ob z=>by rw [ar (fun w=>by rw [w,hp] at z;cases z)];exact z,h2 (g2 ?_)⟩
      simp only [dF,e]
 ·rw [decide_eq_false c,Bool.not_false,if_pos rfl]
  unfold gI;refine jn (h2 ?_);cases e:dF pl 0 rs os with
  |none=>rfl
  |some l=>
   have:=fm rs os pl 0;rw [e] at this;have:=et this.symm;lia
end
end Tw
namespace Tw
open PySem L2 L3 LS
section
variable {ad:Ad}{M N:Mem}{Q:DK}{E:DX}{r o:Rw}{names:List Str}{m many:Int}{n:Nat}
def brD(r:Rw):List D:=if iH r=true then [.int 1,.int 0] else [.int 0]
theorem kx{EE:DX}{bx:BxQ EE fun d M'=>frz d M' Q}(ok:eG names m many r)(h:Q (.lst (brD r)) M):calls (qT ad) EE [r.d] M (fun d M'=>frz d M' Q) bx:=
 aT fun Q' E' hq _=>by
  have w1:=ir ok;rw [CH (n:=0)];unfold nK;rw [gn];simp only [bC,tm,aB,aA,ae,dC,bB,bR,atI_0,dN,dv,bq,cB,List.getElem?_cons_succ,List.getElem?_cons_zero];rw [w1];refine ⟨trivial,trivial,?_⟩;unfold brD at h;cases c:iH r with
  |true=>
   rw [c,if_pos rfl] at h;exact ⟨ci (by simp),fun p hp=>br (hq _ _ (fh hp h))⟩
  |false=>
   rw [c,if_neg (by simp)] at h
   exact ⟨ci (by simp),fun p hp=>br (hq _ _ (fh hp h))⟩
theorem lY(ih:PPa ad n){pl:List Int}{rd od:D}{a a':List Rw}{i:Int}{p:Addr}{acc:List Tr}{EE:DX}{D2:DEnds}(ok:bX names m many a)(ok2:bX names m many a')(hn:2*cr a+1<=n)(hc:cRs a<=1000)(hl:pl.length+1+2*cr a+1<=900)(ha:acc.length<=100000)(hp:N p=some (.lst (acc.map wG)))
  (h1:∀l,dF (pl++[i]) 0 a a'=some l->D2.nx [some rd,some od,some (cg pl),some (.ref p),some (.int i),some (.tup (aq a)),some (.tup (aq a'))] (N.upd p (.lst ((acc++l).map wG))))
  (h2:dF (pl++[i]) 0 a a'=none->EE ad.C_NoBuild N):
  m5 ad (S_q24 ad n) (S_q4 ad n) EE D2 [some rd,some od,some (cg pl),some (.ref p),some (.int i),some (.tup (aq a)),some (.tup (aq a'))] N:=by
 unfold m5;simp only [cD,iA,au,ax,ac,ae,aA,aU,ai,dy,hp,List.getElem?_cons_succ,List.getElem?_cons_zero];refine ⟨trivial,ci (by simp),gD (by lia) ⟨rfl,aT fun Q2 E2 hq2 hE2=>ih a a' _ N Q2 E2 names m many ok ok2 hn hc (by simp;lia) (fun l el q hq=>hq2 _ _ (fh hq ?_)) fun e=>hE2 _ _ (h2 e)⟩⟩
 have hle:=eB a a' _ _ _ el;simp only [gg,hp,fH];refine ⟨ci (by simp only [List.length_map];lia),?_⟩
 rw [<- List.map_append];exact h1 l el
theorem yb(ih:PPa ad n):PWi ad (n+1):=by
 intro r o pl M Q E names m many ok ok2 hb hs hn hc hl h1 h2;rw [u_q4 (n:=n)];unfold vS uk;generalize hK1:m5 ad (S_q24 ad n) (S_q4 ad n) (bV E)=K1;simp only [aC,aK];refine ⟨ci (by simp),fun p hp=>?_⟩
 simp only [am,List.set,fo,tj,ac,au,ax,ae,ai,List.getElem?_cons_succ,List.getElem?_cons_zero];refine ⟨rfl,kx ok ⟨rfl,dQ ok ⟨rfl,dQ ok2 ?_⟩⟩⟩;simp only [bR,cT,List.append_nil];have bad:∀{l:List D},fE pl r o=none->bV E ad.C_NoBuild (M.upd p (.lst l)):=fun e=>⟨M,fun b ob z=>by rw [ar (fun w=>by rw [w,hp] at z;cases z)];exact z,h2 e⟩
 simp only [ms,Bool.and_eq_true] at hs;have hs:=hs.2;rw [hb,Bool.true_or,Bool.not_true,Bool.false_or,Bool.and_eq_true] at hs;have e1:=of_decide_eq_true hs.1;have e2:=of_decide_eq_true hs.2;cases r with
 |ifr x a b=>
  have i2:=ir ok2;rw [<- e1,decide_eq_true (show da (.ifr x a b)="if" from rfl)] at i2;cases o with
  |ifr y a' b'=>
   have:x=y:=e2;subst this;simp only [hR,cR] at hn hc hl;simp only [BG,brD,iH,if_true,eX];refine ⟨cA,?_⟩;simp only [dl,bp,dj,am,List.set,List.length_cons,List.length_nil];refine ⟨trivial,?_⟩;rw [<- hK1];refine lY ih (acc:=[]) ok.2.1 ok2.2.1 (by lia) (by lia) (by lia) (by simp) Mem.upd_same (fun l1 el1=>⟨cA,?_⟩) fun e=>bad (by simp only [fE,e,if_true])
   simp only [dl,bp,dj,am,List.set,List.length_cons,List.length_nil];have q1:=eB a a' _ _ _ el1;refine ⟨trivial,lY ih ok.2.2 ok2.2.2 (by lia) (by lia) (by lia) (by simp;lia) Mem.upd_same (fun l2 el2=>⟨cA,?_⟩) fun e=>?_⟩
   ·rw [Mem.upd_upd,Mem.upd_upd]
    exact br (h1 _ (by simp only [fE,el1,el2,if_true,List.nil_append]) p hp)
   ·rw [Mem.upd_upd]
    exact bad (by simp only [fE,e,el1,if_true])
  |_=>simp [iH] at i2
 |again x a=>
  have i2:=l0 ok2;rw [<- e1,decide_eq_true (show da (.again x a)="again" from rfl)] at i2;cases o with
  |again y a'=>
   have:x=y:=e2;subst this;simp only [hR,cR] at hn hc hl;simp only [BG,brD,iH,Bool.false_eq_true,if_false,eX];refine ⟨cA,?_⟩;simp only [dl,bp,dj,am,List.set,List.length_cons,List.length_nil];refine ⟨trivial,?_⟩;rw [<- hK1];refine lY ih (acc:=[]) ok.2 ok2.2 (by lia) (by lia) (by lia) (by simp) Mem.upd_same (fun l1 el1=>⟨cA,?_⟩) fun e=>bad (by simp only [fE,e,if_true])
   rw [Mem.upd_upd];exact br (h1 _ (by simp only [fE,el1,if_true,List.nil_append]) p hp)
  |_=>simp [om] at i2
 |_=>cases hb
theorem pD:∀n:Nat,PPa ad n/\PWi ad n
 |0=>⟨fun _ _ _ _ _ _ _ _ _ _ _ h=>by lia,fun r _ _ _ _ _ _ _ _ _ _ hb _ h=>by
   cases r with
   |ifr x a b=>simp only [hR] at h;lia
   |again x a=>simp only [hR] at h;lia
   |_=>cases hb⟩
 |n+1=>⟨yD (pD n).2,yb (pD n).1⟩
end
end Tw
namespace Tw
open PySem L2 L3 LS
mutual
theorem Cd:∀(r:Rw) (n:Nat),2*hR r+1<=n->cB n r.d=true
 |.put _ _,n+1,_=>by simp [Rw.d,cB,cG]
 |.take _ _,n+1,_=>by simp [Rw.d,cB,cG]
 |.pick _ _,n+1,_=>by simp [Rw.d,cB,cG]
 |.two _ _ _ _,n+1,_=>by simp [Rw.d,cB,cG]
 |.ifr _ a b,n+2,h=>by
  simp only [hR] at h;have h1:=jH a n (by lia)
  have h2:=jH b n (by lia)
  simp [Rw.d,cB,cG,h1,h2]
 |.again _ a,n+2,h=>by
  simp only [hR] at h;have h1:=jH a n (by lia)
  simp [Rw.d,cB,cG,h1]
 |.ifr _ _ _,0,h=>by lia
 |.ifr _ _ _,1,h=>by simp only [hR] at h;lia
 |.again _ _,0,h=>by lia
 |.again _ _,1,h=>by simp only [hR] at h;lia
theorem jH:∀(rs:List Rw) (n:Nat),2*cr rs+1<=n->cG n (aq rs)=true
 |[],n,_=>by simp [aq,cG]
 |r::rs,n,h=>by
  simp only [cr] at h;simp [aq,cG,Cd r n (by lia),jH rs n (by lia)]
end
theorem mZ:∀(n:Nat) (l:List Str),cG n (l.map D.str)=true
 |n,[]=>by simp [cG]
 |n,x::l=>by simp [cG,cB,mZ n l]
mutual
theorem yN:∀(r o:Rw) (pl:List Int),pl≠[]->∀x∈dB pl r o,x≠[]
 |.ifr _ a b,o,pl,h=>by
  have h1:=eV a;have h2:=eV b;cases o with
  |ifr y a' b'=>
   intro x hx;simp only [dB,List.mem_append] at hx;rcases hx with hx|hx
   ·exact h2 _ _ _ x hx
   ·exact h1 _ _ _ x hx
  |_=>intro x hx;cases hx
 |.again _ a,o,pl,h=>by
  have h1:=eV a;cases o with
  |again y a'=>
   intro x hx;exact h1 _ _ _ x hx
  |_=>intro x hx;cases hx
 |.put _ _,o,pl,h=>by intro x hx;simp only [dB] at hx;split at hx<;>simp at hx;rw [hx];exact h
 |.take _ _,o,pl,h=>by intro x hx;simp only [dB] at hx;split at hx<;>simp at hx;rw [hx];exact h
 |.pick _ _,o,pl,h=>by intro x hx;simp only [dB] at hx;split at hx<;>simp at hx;rw [hx];exact h
 |.two _ _ _ _,o,pl,h=>by intro x hx;simp only [dB] at hx;split at hx<;>simp at hx;rw [hx];exact h
theorem eV:∀(rs os:List Rw) (pl:List Int) (j:Nat),∀x∈ce pl j rs os,x≠[]
 |[],os,pl,j=>by intro x hx;cases hx
 |r::rs,os,pl,j=>by
  cases os with
  |nil=>intro x hx;cases hx
  |cons o os=>
   intro x hx;simp only [ce,List.mem_append] at hx;rcases hx with hx|hx
   ·exact yN r o _ (by simp) x hx
   ·exact eV rs os _ _ x hx
end
mutual
theorem Al:∀(r o:Rw) (pl:List Int) (l:List Tr),fE pl r o=some l->∀t∈l,bN t.2.1=false/\bN t.2.2=false
 |.ifr x a b,o,pl,l,h=>by
  have h1:=ii a;have h2:=ii b;cases o with
  |ifr y a' b'=>
   simp only [fE] at h
   split at h
   ·split at h
    ·rename_i e1 e2
     cases h;intro t ht;rcases List.mem_append.mp ht with z|z
     ·exact h1 _ _ _ _ e1 t z
     ·exact h2 _ _ _ _ e2 t z
    ·cases h
   ·cases h
  |_=>cases h
 |.again x a,o,pl,l,h=>by
  have h1:=ii a;cases o with
  |again y a'=>
   simp only [fE] at h
   split at h
   ·exact h1 _ _ _ _ h
   ·cases h
  |_=>cases h
 |.put x k,o,pl,l,h=>by cases o<;>cases h<;>simp [bN]
 |.take x k,o,pl,l,h=>by cases o<;>cases h<;>simp [bN]
 |.pick x k,o,pl,l,h=>by cases o<;>cases h
 |.two w x y z,o,pl,l,h=>by cases o<;>cases h<;>simp [bN]
theorem ii:∀(rs os:List Rw) (pl:List Int) (j:Nat) (l:List Tr),dF pl j rs os=some l->∀t∈l,bN t.2.1=false/\bN t.2.2=false
 |[],os,pl,j,l,h=>by
  cases os with
  |nil=>cases h;simp
  |cons _ _=>cases h
 |r::rs,os,pl,j,l,h=>by
  cases os with
  |nil=>cases h
  |cons o os=>
   simp only [dF] at h
   split at h
   ·rename_i e1 e2
    cases h;intro t ht;rcases List.mem_append.mp ht with z|z
    ·exact Al r o _ _ e1 t z
    ·exact ii rs os _ _ _ e2 t z
   ·cases h
end
theorem sP{a b:List (List Int)}(h:a.Perm b):wA j_ a=wA j_ b:=vf j_ (m4 j_ a) ((fS j_ a).trans h)
theorem iQ:∀ks:List (List Int),kO (ks.map cg)=some ks
 |[]=>rfl
 |k::ks=>by
  have h:∀k:List Int,eh (k.map D.int)=some k:=fun k=>by
   induction k with
   |nil=>rfl
   |cons a k ih=>simp [eh,ih]
  rw [List.map_cons];simp only [cg,kO,h];rw [iQ ks]
theorem m7{r:Rw}(h:bN r=false):cB 60 r.d=true:=by cases r<;>first|rfl|cases h
theorem Ct{M:Mem}(r:Rw):dv M r.d=r.d:=by cases r<;>rfl
def mB(rs os:List Rw):List D:=(wA j_ (ce [] 0 rs os)).map cg
section
variable {ad:Ad}{M N:Mem}{Q:DK}{E:DX}{names names':List Str}{m many m' many':Int}{rs os:List Rw}{mk mk':Str}
theorem AN{a b a' b':Int}{l l':List Str}:dH [.int a,.tup (l.map D.str),.int b] [.int a',.tup (l'.map D.str),.int b']=decide (a=a'/\l=l'/\b=b'):=by
 have e:∀l l':List Str,dH (l.map D.str) (l'.map D.str)=decide (l=l'):=fun l=>by
  induction l with
  |nil=>intro l';cases l'<;>rfl
  |cons x l ih=>intro l';cases l' with
   |nil=>rfl
   |cons y l'=>simp only [List.map_cons,dH,bq,ih,List.cons.injEq,Bool.decide_and]
 simp only [dH,bq,e,Bool.and_true,Bool.decide_and]
theorem rD{A:aZ}{D0:DEnds}{cc:Option D}(h1:¬((m=m'/\names=names'/\many=many')/\mk=mk')->A D0 [some (bH m many names rs mk),some (bH m' many' names' os mk'),cc] M)(h2:(m=m'/\names=names'/\many=many')->mk=mk'->D0.nx [some (bH m many names rs mk),some (bH m' many' names' os mk'),cc] M):
  bz (kI (aB (aA fZ (au (dw (ae 0) aD (bi (dC (.int 3))))) (au (dw (ae 1) aD (bi (dC (.int 3))))))) (aB (aA fZ (aA bB (ae 0) (dC (.int 4))) (aA bB (ae 1) (dC (.int 4)))))) A bg D0 [some (bH m many names rs mk),some (bH m' many' names' os mk'),cc] M:=by
 have e3:∀(a b c:D) (l:List D),fv (a::b::c::l) none (some 3)=[a,b,c]:=fun a b c l=>dX (k:=3);have f3:∀(l:List Str) (a b:Int),cB 60 (.tup [.int a,.tup (l.map D.str),.int b])=true:=fun l a b=>by simp [cB,cG,mZ]
 simp only [bz,kI,aB,aA,au,dw,ae,aD,bi,dC,pQ,bH,e3,frz,fZ,dv,List.getElem?_cons_succ,List.getElem?_cons_zero];refine ⟨f3 _ _ _,f3 _ _ _,?_⟩;have hd:bq (.tup [.int m,.tup (names.map D.str),.int many]) (.tup [.int m',.tup (names'.map D.str),.int many'])=decide (m=m'/\names=names'/\many=many'):=by rw [<- AN];rfl
 rw [hd]
 by_cases c:m=m'/\names=names'/\many=many'
 ·rw [decide_eq_true c]
  simp only [Bool.not_true,Bool.false_eq_true,if_false,bB,bR,atI_4,List.getElem?_cons_succ,List.getElem?_cons_zero,fZ,dv,cB,bq];refine ⟨trivial,trivial,?_⟩;show if (!decide (mk=mk'))=true then A D0 [some (bH m many names rs mk),some (bH m' many' names' os mk'),cc] M else D0.nx [some (bH m many names rs mk),some (bH m' many' names' os mk'),cc] M
  by_cases c2:mk=mk'
  ·rw [if_neg (by rw [decide_eq_true c2];simp)]
   exact h2 c c2
  ·rw [if_pos (by rw [decide_eq_false c2];rfl)]
   exact h1 fun z=>c2 z.2
 ·rw [decide_eq_false c]
  exact h1 fun z=>c z.1
theorem mR(h:¬((m=m'/\names=names'/\many=many')/\mk=mk'))(hE:E ad.C_NoBuild M):j5 ad [bH m many names rs mk,bH m' many' names' os mk'] M Q E:=by
 rw [Cy (n:=0)];unfold sB;exact rD (fun _=>jn hE) fun a b=>absurd ⟨a,b⟩ h
theorem eM(ok:bX names m many rs)(ok2:bX names m many os)(hh:cr rs<=10)(hc:cRs rs<=63)(h1:b_ rs os=true->∀p,M p=none->Q (.ref p) (M.upd p (.lst (mB rs os))))(h2:b_ rs os=false->E ad.C_NoBuild M):j5 ad [bH m many names rs mk,bH m many names os mk] M Q E:=by
 rw [Cy (n:=0)];unfold sB;refine rD (fun z=>absurd ⟨⟨rfl,rfl,rfl⟩,rfl⟩ z) fun _ _=>?_;dsimp only;have pa:=(pD (ad:=ad) 24).1 rs os [] M;unfold vO;generalize hK:pq ad (bV E)=K;simp only [aC,aK,au,ax,ac,aA,ae,dC,aU,ai,bB,bH,bR,atI_3,List.getElem?_cons_succ,List.getElem?_cons_zero];refine ⟨ci (by simp),rfl,aT fun Q' E' hq hE=>pa Q' E' names m many ok ok2 (by lia) (by lia) (by simp;lia) (fun l el p hp=>hq _ _ (fh hp ?_)) fun e=>hE _ _ ?_⟩
 ·have eo:b_ rs os=true:=by rw [<- fm rs os [] 0,el];rfl
  have hlf:=ii _ _ _ _ _ el;have hle:=eB _ _ _ _ _ el;have hpm:=fQ _ _ _ _ _ el;simp only [am,List.set];rw [<- hK];unfold pq;simp only [bC,c_,ac,au,ai,dE,ft,ae,bR,cT,List.getElem?_cons_succ,List.getElem?_cons_zero];refine cM (fun ys acc δ M'=>∃(us zs:List Tr) (c0 c1 c2:Option D),l=us++zs/\ys=zs.map wG/\acc=(mm us).map cg/\δ=[c0,c1,c2]/\M=M') (fun _ _ _ _ _=>cA) ?_ ?_ ?_ _ _ _ _ ⟨[],l,none,none,none,rfl,rfl,rfl,rfl,rfl⟩
  ·rintro acc δ M' ⟨us,zs,c0,c1,c2,e1,e2,rfl,rfl,rfl⟩ p hp
   have ez:zs=[]:=by simpa using e2.symm
   subst ez;rw [List.append_nil] at e1;subst e1;refine fh hp ?_;simp only [eW,fH,iQ];have hul:(mm l).length<=l.length:=by simp only [mm,List.length_map];exact List.length_filter_le ..
   refine ⟨by lia,fun k hk=>eV _ _ _ _ k (hpm.mem_iff.mp hk),fun p hp=>?_⟩
   rw [sP hpm];exact br (h1 eo p hp)
  ·rintro y ys acc δ M' ⟨us,zs,c0,c1,c2,e1,e2,rfl,rfl,rfl⟩ N hN1 hN2
   cases zs with
   |nil=>simp at e2
   |cons z zs=>
    simp only [List.map_cons,List.cons.injEq] at e2;obtain ⟨rfl,rfl⟩:=e2;have hz:=hlf z (by rw [e1];simp)
    have hl:=congrArg List.length e1;simp only [List.length_append,List.length_cons] at hl;have hul:(mm us).length<=us.length:=by simp only [mm,List.length_map];exact List.length_filter_le ..
    simp only [wG,dl,bp,dj,am,List.set,aB,aA,ae,fZ,Ct,List.length_cons,List.length_nil,List.getElem?_cons_succ,List.getElem?_cons_zero];refine ⟨trivial,m7 hz.1,m7 hz.2,?_⟩;have en:(!bq z.2.1.d z.2.2.d)=sY z.2.1 z.2.2:=rfl;rw [en];cases c:sY z.2.1 z.2.2 with
    |true=>exact hN1 _ _ _ (by simp;exact kD (by lia)) ⟨us++[z],zs,_,_,_,by rw [e1];simp,rfl,by simp [mm,c],rfl,rfl⟩
    |false=>exact hN2 _ _ _ ⟨us++[z],zs,_,_,_,by rw [e1];simp,rfl,by simp [mm,c],rfl,rfl⟩
  ·rintro y ys acc δ M' ⟨us,zs,c0,c1,c2,e1,e2,rfl,rfl,rfl⟩
   have hl:=congrArg List.length e1;simp only [List.length_append] at hl;have hul:(mm us).length<=us.length:=by simp only [mm,List.length_map];exact List.length_filter_le ..
   simp;exact kD (by lia)
 ·refine jn (h2 ?_)
  rw [<- fm rs os [] 0];exact Option.not_isSome_iff_eq_none.mpr e |> Bool.eq_false_iff.mpr
end
end Tw
namespace Tw
open PySem L2 L3 LS
def flagsD:List D:=[.bl false,.bl false,.bl false,.bl true,.bl false,.bl false,.bl false,.bl false,.bl false,.bl false,.bl true]
section
variable {ad:Ad}{M N:Mem}{Q:DK}{E:DX}
theorem qk{Q:DK}{d:D}{M:Mem}{p:Addr}{o:MO}(hp:M p=none)(h:Q d M):drp Q d (M.upd p o):=
 ⟨M,fun b u e=>by rw [ar (fun z=>by rw [z,hp] at e;cases e)];exact e,h⟩
theorem oO{ea:Addr}(h:∀p,M p=none->Q (.ref p) (M.upd p (.lst flagsD))):na ad ea [.ref ea] M Q E:=by
 simp! [Cu,nQ];refine ⟨ci (by decide),fun p1 h1=>⟨ci (by decide),fun p2 h2=>⟨ci (by decide),fun p3 h3=>⟨ci (by decide),fun p4 h4=>⟨ci (by decide),fun p5 h5=>?_⟩⟩⟩⟩⟩
 simp only [Mem.upd_del,aW h1] at h2 h3 h4 h5 ⊢;simp only [aW h2] at h3 h4 h5 ⊢;simp only [aW h3] at h4 h5 ⊢;simp only [aW h4] at h5 ⊢;exact br (h p5 h5)
theorem sE{p:Addr}(hp:M p=some (.lst flagsD))(h:Q (.str (Str.ofString "build")) M):on ad [.ref p] M Q E:=by
 have ec:fv flagsD none (some (10:Int))=flagsD.take 10:=dX (k:=10);have eb:gw (flagsD.take 10)=some [false,false,false,true,false,false,false,false,false,false]:=rfl;have eb2:gw flagsD=some [false,false,false,true,false,false,false,false,false,false,true]:=rfl;have el:flagsD.length=11:=rfl;have e10:atI flagsD 10=some (.bl true):=by rw [cX (by lia)];rfl
 have ecn:List.countP (fun x=>x==true) [false,false,false,true,false,false,false,false,false,false]=1:=by decide
 have eix:List.findIdx? (fun x=>x==true) [false,false,false,true,false,false,false,false,false,false,true]=some 3:=by decide
 simp! [Cs,mG,hp];refine ⟨ci (by decide),fun p1 h1=>?_⟩
 simp only [Mem.upd_del,aW h1,hp,el];simp only [show decide (((11:Nat):Int)=11)=true from rfl,Bool.not_true,Bool.false_eq_true,if_false];intro p2 h2;simp only [aW h2,hp,ec,eb,ecn,e10];simp only [show decide (((1:Nat):Int)=1)=true from rfl,Bool.not_true,Bool.false_eq_true,if_false,eb2,eix];refine ⟨trivial,by decide,?_⟩
 rw [cX (by lia)]
 exact br h
theorem oR{a b:D}{G:Prop}{U:List D}(hU:∀Q' E',(G->∀p,M p=none->Q' (.ref p) (M.upd p (.lst U)))->(¬G->E' ad.C_NoBuild M)->j5 ad [a,b] M Q' E')(h1:G->∀p,M p=none->Q (.ref p) (M.upd p (.lst U)))(h2:¬G->Q (.str (Str.ofString "build")) M):jN ad [a,b] M Q E:=by
 rw [CL (n:=0)];unfold ou rF r9;generalize hK:jl ad (bV E)=K;simp only [aC,aK,dC,am,List.set,au,bT,ai];refine ⟨ci (by simp),fun p hp=>fh hp ?_⟩
 simp only [pi,ac,ae,ai,List.getElem?_cons_succ,List.getElem?_cons_zero];refine ⟨rfl,rfl,aT fun Q' E' hq hE=>hU Q' E' (fun g p hp=>hq _ _ ?_) fun g=>hE _ _ ⟨rfl,fun ea=>aT fun Q2 E2 hq2 _=>oO fun p hp=>hq2 _ _ ?_⟩⟩
 ·rw [<- hK]
  unfold jl;simp only [List.set,bC,tm,aB,aA,ae,au,bT,ai,List.getElem?_cons_succ,List.getElem?_cons_zero];refine ⟨ci (by simp),fun p2 hp2=>fh hp2 ⟨rfl,rfl,?_⟩⟩
  exact br (h1 g p hp)
 ·rw [<- hK]
  unfold jl;simp only [List.set,bC,tm,aB,aA,ae,au,bT,ai,List.getElem?_cons_succ,List.getElem?_cons_zero];refine ⟨ci (by simp),fun p2 hp2=>fh hp2 ?_⟩
  simp only [dN,dv,Mem.upd_same];refine ⟨rfl,rfl,?_⟩;show ax (on ad) (bV E) 1 (ac (ae 3) ai) _ _ _;exact ⟨rfl,aT fun Q3 E3 hq3 _=>sE Mem.upd_same (hq3 _ _ (qk hp (h2 g)))⟩
theorem gE{EE:DX}{a b:D}{G:Prop}{U:List D}{bx:BxQ EE Q}(hU:∀Q' E',(G->∀p,M p=none->Q' (.ref p) (M.upd p (.lst U)))->(¬G->E' ad.C_NoBuild M)->j5 ad [a,b] M Q' E')(h1:G->∀p,M p=none->Q (.ref p) (M.upd p (.lst U)))(h2:¬G->Q (.str (Str.ofString "build")) M):calls (jN ad) EE [a,b] M Q bx:=
 aT fun Q' E' hq _=>oR hU (fun g p hp=>hq _ _ (h1 g p hp)) fun g=>hq _ _ (h2 g)
end
end Tw
namespace Tw
open PySem L2 L3 LS
def BO:Rw->Rw
 |.pick x _=>.take x 0
 |r=>r
mutual
def mP:Rw->Rw
 |.ifr x a b=>.ifr x (dR a) (dR b)
 |.again x a=>.again x (dR a)
 |.pick x _=>.take x 0
 |r=>r
def dR:List Rw->List Rw
 |[]=>[]
 |r::rs=>mP r::dR rs
end
theorem nJ:∀{a b:List Rw},dR (a++b)=dR a++dR b
 |[],_=>rfl
 |r::a,b=>by simp only [List.cons_append,dR,nJ]
theorem u5:∀{a:List Rw},(dR a).length=a.length
 |[]=>rfl
 |r::a=>by simp only [dR,List.length_cons,u5]
theorem gb:∀{rs:List Rw},rs.length<=cRs rs
 |[]=>by simp
 |r::rs=>by
  have:=gb (rs:=rs);have:1<=cR r:=by cases r<;>simp [cR]<;>lia
  simp only [List.length_cons,cRs];lia
def gJ:Rw->List (List Rw)
 |.ifr _ a b=>[a,b]
 |.again _ a=>[a]
 |_=>[]
theorem zk{r:Rw}(h:bN r=true):zT r=(gJ r).map fun a=>D.tup (aq a):=by cases r<;>first|rfl|cases h
section
variable {ad:Ad}{M N:Mem}{Q:DK}{E:DX}{names:List Str}{m many:Int}{n:Nat}{r:Rw}
theorem vC(ok:eG names m many r){K:DK}(h:K (.bl (bN r)) M):zw (.str (da r)) (.lst [.str (Str.ofString "if"),.str (Str.ofString "again")]) M K:=by
 have w1:=ir ok;have w2:=l0 ok;have e:nu M (.str (da r)) (.lst [.str (Str.ofString "if"),.str (Str.ofString "again")])=some (bN r):=by
  have e1:decide (Str.ofString "if"=da r)=iH r:=by rw [<- w1];exact decide_eq_decide.mpr eq_comm
  have e2:decide (Str.ofString "again"=da r)=om r:=by rw [<- w2];exact decide_eq_decide.mpr eq_comm
  simp only [nu,bR,dv,cB,cG,bq,List.any_cons,List.any_nil,e1,e2,Bool.and_true,and_self,if_true,Bool.or_false];cases r<;>rfl
 simp only [zw,e];exact h
def C8(ad:Ad)(n:Nat):Prop:=∀(rs:List Rw) (M:Mem) (Q:DK) (E:DX) (names:List Str) (m many:Int),bX names m many rs->cr rs+1<=n->cRs rs<=1000->Q (.tup (aq (dR rs))) M->S_q6 ad n [.tup (aq rs)] M Q E
theorem np_e(ih:C8 ad n){δ:Dl}{w x:Str}{ps:List (List Rw)}{K:DK}(h2:δ[2]?=some (some (.tup (.str w::.str x::ps.map fun a=>D.tup (aq a)))))(hps:∀a∈ps,bX names m many a/\cr a+1<=n/\cRs a<=1000)(hl:ps.length<=10)(h:K (.lst (ps.map fun a=>D.tup (aq (dR a)))) M):
  au (dE (ft (au (dw (ae 2) (bi (dC (.int 2))) aD))) ["some"] [] (am 0) kz (au (ax (S_q6 ad n) we 1 (ac (ae 0) ai)))) δ M K:=by
 have e2:∀(a b:D) (l:List D),fv (a::b::l) (some 2) none=l:=fun a b l=>lQ (k:=2);simp only [au,dE,ft,dw,ae,bi,aD,dC,h2,pQ,e2,frz,bR,cT];refine cM (fun ys acc δ M'=>∃(us zs:List (List Rw)) (c0:Option D),ps=us++zs/\ys=(zs.map fun a=>D.tup (aq a))/\acc=(us.map fun a=>D.tup (aq (dR a)))/\δ=[c0]/\M=M') (fun _ _ _ _ _=>cA) ?_ ?_ ?_ _ _ _ _ ⟨[],ps,none,rfl,rfl,rfl,rfl,rfl⟩
 ·rintro acc δ M' ⟨us,zs,c0,e1,e2,rfl,rfl,rfl⟩ p hp
  have ez:zs=[]:=by simpa using e2.symm
  subst ez;rw [List.append_nil] at e1;subst e1;exact fh hp h
 ·rintro y ys acc δ M' ⟨us,zs,c0,e1,e2,rfl,rfl,rfl⟩ N hN1 hN2
  cases zs with
  |nil=>simp at e2
  |cons z zs=>
   simp only [List.map_cons,List.cons.injEq] at e2;obtain ⟨rfl,rfl⟩:=e2;have hl2:=congrArg List.length e1;simp only [List.length_append,List.length_cons] at hl2;have hz:=hps z (by rw [e1];simp)
   simp only [am,List.set,kz,if_true,ax,ac,ae,ai,List.getElem?_cons_zero];exact ⟨rfl,aT fun Q' E' hq _=>ih z M Q' E' names m many hz.1 hz.2.1 hz.2.2 (hq _ _ (hN1 _ _ _ (by simp;exact kD (by lia)) ⟨us++[z],zs,_,by rw [e1];simp,rfl,by simp,rfl,rfl⟩))⟩
 ·rintro y ys acc δ M' ⟨us,zs,c0,e1,e2,rfl,rfl,rfl⟩
  have hl2:=congrArg List.length e1;simp only [List.length_append] at hl2;simp;exact kD (by lia)
theorem uY{T:Sd}{rsD:D}{p:Addr}{acc:List Rw}{EE:DX}{D2:DEnds}(ok:decide (da r="pick")=cZ r)(ha:acc.length<=1000)(hp:N p=some (.lst (aq acc)))(h:∀c2,D2.nx [some rsD,some (.ref p),c2] (N.upd p (.lst (aq (acc++[BO r]))))):
  mx ad T EE D2 [some rsD,some (.ref p),some r.d] N:=by
 have app:∀q:Rw,q=BO r->cD (iA "list" bZ (ae 1) (ac (ae 2) ai)) D2 [some rsD,some (.ref p),some q.d] N:=fun q e=>by
  subst e;simp only [cD,iA,ac,ae,ai,dy,hp,bZ,List.getElem?_cons_succ,List.getElem?_cons_zero];refine ⟨trivial,kD (by rw [bb];lia),?_⟩
  have:=h (some (BO r).d);rw [bA] at this;exact this
 unfold mx;generalize hG:cD (iA "list" bZ (ae 1) (ac (ae 2) ai))=G at app ⊢;generalize hK:qf ad T EE=K;have app2:cZ r=false->G D2 [some rsD,some (.ref p),some r.d] N:=fun e=>app r (by cases r<;>first|rfl|cases e)
 rw [gn] at app2 ⊢;simp only [aC,bz,aB,aA,ae,dC,bB,bR,atI_0,dN,dv,bq,cB,List.getElem?_cons_succ,List.getElem?_cons_zero];rw [ok];refine ⟨trivial,trivial,?_⟩;cases r with
 |pick x y=>
  show K _ _ N;rw [<- hK];unfold qf;simp only [da,gK,aK,aU,ac,dC,aA,ae,ai,bB,bR,atI_1,am,List.set,List.getElem?_cons_succ,List.getElem?_cons_zero];exact ⟨ci (by simp),app (.take x 0) rfl⟩
 |_=>exact app2 rfl
theorem x_(ih:C8 ad n){rsD:D}{p:Addr}{acc:List Rw}{EE:DX}{D2:DEnds}(ok:eG names m many r)(hn:hR r<=n)(hc:cR r<=1000)(ha:acc.length<=1000)(hp:N p=some (.lst (aq acc)))(h:∀c2,D2.nx [some rsD,some (.ref p),c2] (N.upd p (.lst (aq (acc++[mP r]))))):
  ma ad (S_q6 ad n) EE D2 [some rsD,some (.ref p),some r.d] N:=by
 unfold ma;generalize hK3:mx ad (S_q6 ad n) EE=K3;generalize hK1:oJ ad (S_q6 ad n) EE=K1;have lf:bN r=false->K3 D2 [some rsD,some (.ref p),some r.d] N:=fun e=>by
  rw [<- hK3];refine uY (wb ok) ha hp ?_;have:BO r=mP r:=by cases r<;>first|rfl|cases e
  rw [this];exact h
 have bl:bN r=true->K1 { D2 with nx:=K3 D2 } [some rsD,some (.ref p),some r.d] N:=fun e=>by
  rw [<- hK1];unfold oJ;have hps:∀a∈gJ r,bX names m many a/\cr a+1<=n/\cRs a<=1000:=fun a ha=>by
   cases r with
   |ifr x a b=>
    simp only [hR,cR] at hn hc;simp only [gJ,List.mem_cons,List.not_mem_nil,or_false] at ha;rcases ha with rfl|rfl
    ·exact ⟨ok.2.1,by lia,by lia⟩
    ·exact ⟨ok.2.2,by lia,by lia⟩
   |again x a=>
    simp only [hR,cR] at hn hc;simp only [gJ,List.mem_cons,List.not_mem_nil,or_false] at ha;subst ha;exact ⟨ok.2,by lia,by lia⟩
   |_=>cases e
  have hpl:(gJ r).length<=2:=by cases r<;>simp [gJ]
  have key:∀K:DK,_->_:=fun K hK=>np_e (K:=K) (M:=N) (δ:=[some rsD,some (.ref p),some (.tup (.str (da r)::.str (gK r)::(gJ r).map fun a=>D.tup (aq a)))]) ih rfl hps (by lia) hK
  rw [gn,zk e];generalize (au (dE (ft (au (dw (ae 2) (bi (dC (.int 2))) aD))) ["some"] [] (am 0) kz (au (ax (S_q6 ad n) we 1 (ac (ae 0) ai)))))=Z at key ⊢;have e2:∀(a b:D) (l:List D),fv (a::b::l) none (some 2)=[a,b]:=fun a b l=>dX (k:=2);simp only [aK,au,aA,dw,ae,aD,bi,dC,pQ,e2,frz,c_,ac,List.getElem?_cons_succ,List.getElem?_cons_zero];refine key _ ?_;simp only [ai,eR,fH,bD];refine ⟨ci (by simp;lia),?_⟩
  simp only [frz,am,List.set];rw [<- hK3];have e3:D.tup ([D.str (da r),.str (gK r)]++(gJ r).map fun a=>D.tup (aq (dR a)))=(mP r).d:=by cases r<;>first|rfl|cases e
  rw [e3];refine uY ?_ ha hp ?_
  ·cases r<;>first|rfl|cases e
  ·have:BO (mP r)=mP r:=by cases r<;>first|rfl|cases e
   rw [this];exact h
 have rd:=gn r;rw [rd] at lf bl ⊢;simp only [aC,bz,aB,aA,ae,dC,bB,bR,atI_0,au,bT,ac,ai,List.getElem?_cons_succ,List.getElem?_cons_zero];refine ⟨ci (by simp),fun q hq=>fh hq (vC ok ?_)⟩
 cases c:bN r with
 |true=>exact bl c
 |false=>exact lf c
theorem wX(ih:C8 ad n):C8 ad (n+1):=by
 intro rs M Q E names m many ok hn hc h;rw [u_q6 (n:=n)];unfold vB tG;generalize hK4:ma ad (S_q6 ad n) (bV E)=K4;simp only [aC,aK];refine ⟨ci (by simp),fun p hp=>?_⟩
 simp only [am,List.set,fo,ft,ae,bR,cT,List.getElem?_cons_succ,List.getElem?_cons_zero];refine cY (fun xs δ N=>∃(us zs:List Rw) (c2:Option D),rs=us++zs/\xs=aq zs/\δ=[some (.tup (aq rs)),some (.ref p),c2]/\N=M.upd p (.lst (aq (dR us)))) (fun _ _ _ _=>cA) ?_ ?_ _ _ _ ⟨[],rs,none,rfl,rfl,rfl,rfl⟩
 ·rintro δ N ⟨us,zs,c2,e1,e2,rfl,rfl⟩
  have ez:zs=[]:=by cases zs with|nil=>rfl|cons _ _=>simp [aq] at e2
  subst ez;rw [List.append_nil] at e1;subst e1;simp only [bC,c_,ac,ae,ai,eR,fH,Mem.upd_same,List.getElem?_cons_succ,List.getElem?_cons_zero];exact qk hp h
 ·rintro x xs δ N ⟨us,zs,c2,e1,e2,rfl,rfl⟩ D' hnx _ _ _
  cases zs with
  |nil=>simp [aq] at e2
  |cons z zs=>
   simp only [aq,List.cons.injEq] at e2;obtain ⟨rfl,rfl⟩:=e2;have l1:=gb (rs:=rs);subst e1;rw [OkRs_append] at ok;simp only [bU,cr] at hn;simp only [bM,cRs] at hc;have l2:(dR us).length=us.length:=u5;simp only [bM,cRs,List.length_append,List.length_cons] at l1;simp only [am,List.set];rw [<- hK4];refine x_ ih ok.2.1 (by lia) (by lia) (by lia) Mem.upd_same fun c=>?_
   rw [Mem.upd_upd];exact hnx _ _ ⟨us++[z],zs,c,by simp,rfl,rfl,by rw [nJ];rfl⟩
theorem oX:∀n:Nat,C8 ad n
 |0=>fun _ _ _ _ _ _ _ _ h=>by lia
 |n+1=>wX (oX n)
end
mutual
def kE:Rw->Prop
 |.ifr _ a b=>dO a/\dO b
 |.again _ a=>dO a
 |.pick _ _=>False
 |_=>True
def dO:List Rw->Prop
 |[]=>True
 |r::rs=>kE r/\dO rs
end
theorem noPks_app:∀{a b:List Rw},dO (a++b)↔dO a/\dO b
 |[],b=>by simp [dO]
 |r::a,b=>by simp only [List.cons_append,dO,noPks_app,and_assoc]
mutual
theorem kN{names:List Str}{m many:Int}:∀r:Rw,eG names m many r->eG names m many (mP r)/\kE (mP r)/\hR (mP r)=hR r/\cR (mP r)=cR r
 |.ifr x a b,ok=>by
  have h1:=eA a ok.2.1;have h2:=eA b ok.2.2;exact ⟨⟨ok.1,h1.1,h2.1⟩,⟨h1.2.1,h2.2.1⟩,by simp only [mP,hR,h1.2.2.1,h2.2.2.1],by simp only [mP,cR,h1.2.2.2,h2.2.2.2]⟩
 |.again x a,ok=>by
  have h1:=eA a ok.2;exact ⟨⟨ok.1,h1.1⟩,h1.2.1,by simp only [mP,hR,h1.2.2.1],by simp only [mP,cR,h1.2.2.2]⟩
 |.pick x k,ok=>by
  obtain ⟨h1,h2,h3⟩:=(show ie names m many (.pick x k) from ok);exact ⟨⟨h1,by lia,h3⟩,trivial,rfl,rfl⟩
 |.put x k,ok=>⟨ok,trivial,rfl,rfl⟩
 |.take x k,ok=>⟨ok,trivial,rfl,rfl⟩
 |.two w x y z,ok=>⟨ok,trivial,rfl,rfl⟩
theorem eA{names:List Str}{m many:Int}:∀rs:List Rw,bX names m many rs->bX names m many (dR rs)/\dO (dR rs)/\cr (dR rs)=cr rs/\cRs (dR rs)=cRs rs
 |[],_=>⟨trivial,trivial,rfl,rfl⟩
 |r::rs,ok=>by
  have h1:=kN r ok.1;have h2:=eA rs ok.2;exact ⟨⟨h1.1,h2.1⟩,⟨h1.2.1,h2.2.1⟩,by simp only [dR,cr,h1.2.2.1,h2.2.2.1],by simp only [dR,cRs,h1.2.2.2,h2.2.2.2]⟩
end
end Tw
namespace Tw
open PySem L2 L3 LS
theorem jh{r o:Rw}(h1:bN r=false)(h2:bN o=false):sY r o=sY o r:=by
 cases r<;>first|cases h1|skip
 all_goals cases o<;>first|cases h2|skip
 all_goals simp only [sY,Rw.d,bq,dH,eq_comm]
theorem jx{r:Rw}(h1:bN r=false):sY r r=false:=by
 cases r<;>first|cases h1|skip
 all_goals simp [sY,Rw.d,bq,dH]
theorem bJ{r o:Rw}{pl:List Int}(h:bN r=false):dB pl r o=if sY r o=true then [pl] else []:=by cases r<;>first|rfl|cases h
theorem hW{r o:Rw}(h:bN r=false):dP r o=!(cZ r||cZ o||bN o):=by cases r<;>first|rfl|cases h
mutual
theorem lL:∀r o:Rw,dP r o=dP o r
 |.ifr x a b,o=>by
  have h1:=eY a;have h2:=eY b;cases o with
  |ifr y a' b'=>simp only [dP,h1 a',h2 b',eq_comm]
  |_=>simp [dP,bN]
 |.again x a,o=>by
  have h1:=eY a;cases o with
  |again y a'=>simp only [dP,h1 a',eq_comm]
  |_=>simp [dP,bN]
 |.put x k,o=>by cases o<;>rfl
 |.take x k,o=>by cases o<;>rfl
 |.pick x k,o=>by cases o<;>rfl
 |.two w x y z,o=>by cases o<;>rfl
theorem eY:∀rs os:List Rw,b_ rs os=b_ os rs
 |[],os=>by cases os<;>rfl
 |r::rs,os=>by
  cases os with
  |nil=>rfl
  |cons o os=>simp only [b_,lL r o,eY rs os]
end
mutual
theorem uI:∀(r o:Rw) (pl:List Int),dP r o=true->dB pl r o=dB pl o r
 |.ifr x a b,o,pl,h=>by
  have h1:=e_ a;have h2:=e_ b;cases o with
  |ifr y a' b'=>
   simp only [dP,Bool.and_eq_true] at h;simp only [dB,h1 a' _ _ h.2.1,h2 b' _ _ h.2.2]
  |_=>simp [dP] at h
 |.again x a,o,pl,h=>by
  have h1:=e_ a;cases o with
  |again y a'=>
   simp only [dP,Bool.and_eq_true] at h;simp only [dB,h1 a' _ _ h.2]
  |_=>simp [dP] at h
 |.put x k,o,pl,h=>by
  have ho:bN o=false:=by simp [dP] at h;exact h.2
  rw [bJ rfl,bJ ho,jh rfl ho]
 |.take x k,o,pl,h=>by
  have ho:bN o=false:=by simp [dP] at h;exact h.2
  rw [bJ rfl,bJ ho,jh rfl ho]
 |.pick x k,o,pl,h=>by simp [dP,cZ] at h
 |.two w x y z,o,pl,h=>by
  have ho:bN o=false:=by simp [dP] at h;exact h.2
  rw [bJ rfl,bJ ho,jh rfl ho]
theorem e_:∀(rs os:List Rw) (pl:List Int) (j:Nat),b_ rs os=true->ce pl j rs os=ce pl j os rs
 |[],os,pl,j,h=>by cases os with|nil=>rfl|cons _ _=>cases h
 |r::rs,os,pl,j,h=>by
  cases os with
  |nil=>cases h
  |cons o os=>
   simp only [b_,Bool.and_eq_true] at h;simp only [ce,uI r o _ h.1,e_ rs os _ _ h.2]
end
mutual
theorem r8:∀(r:Rw) (pl:List Int),kE r->dP r r=true/\dB pl r r=[]
 |.ifr x a b,pl,h=>by
  simp [dP,dB,(ee a (pl++[1]) 0 h.1).1,(ee a (pl++[1]) 0 h.1).2,(ee b (pl++[0]) 0 h.2).1,(ee b (pl++[0]) 0 h.2).2]
 |.again x a,pl,h=>by
  simp [dP,dB,(ee a (pl++[0]) 0 h).1,(ee a (pl++[0]) 0 h).2]
 |.put x k,pl,h=>by rw [bJ rfl,jx rfl];exact ⟨rfl,rfl⟩
 |.take x k,pl,h=>by rw [bJ rfl,jx rfl];exact ⟨rfl,rfl⟩
 |.pick x k,pl,h=>h.elim
 |.two w x y z,pl,h=>by rw [bJ rfl,jx rfl];exact ⟨rfl,rfl⟩
theorem ee:∀(rs:List Rw) (pl:List Int) (j:Nat),dO rs->b_ rs rs=true/\ce pl j rs rs=[]
 |[],pl,j,h=>⟨rfl,rfl⟩
 |r::rs,pl,j,h=>by
  simp [b_,ce,(r8 r (pl++[(j:Int)]) h.1).1,(r8 r (pl++[(j:Int)]) h.1).2,(ee rs pl (j+1) h.2).1,(ee rs pl (j+1) h.2).2]
end
theorem kZ{pl:List Int}:∀{a a' b b':List Rw} {j:Nat},a.length=a'.length->ce pl j (a++b) (a'++b')=ce pl j a a'++ce pl (j+a.length) b b'
 |[],[],b,b',j,_=>by simp [ce]
 |[],_::_,b,b',j,h=>by simp at h
 |_::_,[],b,b',j,h=>by simp at h
 |r::a,o::a',b,b',j,h=>by
  have:=kZ (pl:=pl) (a:=a) (a':=a') (b:=b) (b':=b') (j:=j+1) (by simpa using h)
  simp only [List.cons_append,ce,this,List.append_assoc,List.length_cons];rw [show j+1+a.length=j+(a.length+1) by lia]
theorem fL:∀{a a' b b':List Rw},a.length=a'.length->b_ (a++b) (a'++b')=(b_ a a'&&b_ b b')
 |[],[],b,b',_=>by simp [b_]
 |[],_::_,b,b',h=>by simp at h
 |_::_,[],b,b',h=>by simp at h
 |r::a,o::a',b,b',h=>by
  have:=fL (a:=a) (a':=a') (b:=b) (b':=b') (by simpa using h)
  simp only [List.cons_append,b_,this,Bool.and_assoc]
mutual
theorem vH:∀(r o:Rw) (pl:List Int),(dB pl r o).length<=cR r
 |.ifr x a b,o,pl=>by
  have h1:=dn a;have h2:=dn b;cases o with
  |ifr y a' b'=>
   have q1:=h1 a' (pl++[1]) 0;have q2:=h2 b' (pl++[0]) 0;simp only [dB,List.length_append,cR];lia
  |_=>simp [dB]
 |.again x a,o,pl=>by
  have h1:=dn a;cases o with
  |again y a'=>
   have q1:=h1 a' (pl++[0]) 0;simp only [dB,cR];lia
  |_=>simp [dB]
 |.put x k,o,pl=>by rw [bJ rfl];split<;>simp [cR]
 |.take x k,o,pl=>by rw [bJ rfl];split<;>simp [cR]
 |.pick x k,o,pl=>by rw [bJ rfl];split<;>simp [cR]
 |.two w x y z,o,pl=>by rw [bJ rfl];split<;>simp [cR]
theorem dn:∀(rs os:List Rw) (pl:List Int) (j:Nat),(ce pl j rs os).length<=cRs rs
 |[],os,pl,j=>by simp [ce]
 |r::rs,os,pl,j=>by
  cases os with
  |nil=>simp [ce]
  |cons o os=>
   have q1:=vH r o (pl++[(j:Int)]);have q2:=dn rs os pl (j+1);simp only [ce,List.length_append,cRs];lia
end
end Tw
namespace Tw
open PySem L2 L3 LS
structure Wk(k:Pt)(wk lp:Addr)(names:List Str)(m many:Int)(acc:List (List Int))(M:Mem):Prop where
 h:Has k M
 w:∃u:Int,M wk=some (.lst [du names m many,.ref lp,.int u])
 l:M lp=some (.lst (acc.map cg))
 n1:wk≠k.p
 n2:wk≠k.q
 n3:lp≠k.p
 n4:lp≠k.q
 n5:wk≠lp
def Fw(k:Pt)(wk lp:Addr)(M M':Mem):Prop:=∀b o,b≠k.p->b≠k.q->b≠wk->b≠lp->M b=some o->M' b=some o
theorem Fw.trans{k:Pt}{wk lp:Addr}{M M1 M2:Mem}(a:Fw k wk lp M M1)(b:Fw k wk lp M1 M2):Fw k wk lp M M2:=fun x o h1 h2 h3 h4 h=>b x o h1 h2 h3 h4 (a x o h1 h2 h3 h4 h)
structure Tn(names:List Str)(m many:Int)(rs rs':List Rw):Prop where
 ok:bX names m many rs'
 np:dO rs'
 k:b_ rs rs'=true
 h:cr rs'=cr rs
 c:cRs rs'=cRs rs
structure Tn1(names:List Str)(m many:Int)(r r':Rw):Prop where
 ok:eG names m many r'
 np:kE r'
 k:dP r r'=true
 h:hR r'=hR r
 c:cR r'=cR r
section
variable {ad:Ad}{M N:Mem}{Q:DK}{E:DX}{names:List Str}{m many:Int}{n:Nat}{r:Rw}{k:Pt}{wk lp:Addr}{acc:List (List Int)}
theorem Wk.dr{M':Mem}(w:Wk k wk lp names m many acc M)(d:Dr k M M'):Wk k wk lp names m many acc M':=by
 obtain ⟨u,e⟩:=w.w;exact ⟨d.1,⟨u,by rw [d.2 _ w.n1 w.n2];exact e⟩,by rw [d.2 _ w.n3 w.n4];exact w.l,w.n1,w.n2,w.n3,w.n4,w.n5⟩
theorem Dr.fw{M':Mem}(d:Dr k M M'):Fw k wk lp M M':=fun b o h1 h2 _ _ e=>by rw [d.2 b h1 h2];exact e
theorem Wk.upd{p:Addr}{o:MO}(w:Wk k wk lp names m many acc M)(h1:p≠k.p)(h2:p≠k.q)(h3:p≠wk)(h4:p≠lp):Wk k wk lp names m many acc (M.upd p o):=by
 obtain ⟨u,e⟩:=w.w;exact ⟨w.h.upd ⟨h1,h2⟩,⟨u,by rw [ar (Ne.symm h3)];exact e⟩,by rw [ar (Ne.symm h4)];exact w.l,w.n1,w.n2,w.n3,w.n4,w.n5⟩
theorem Wk.new{p:Addr}(w:Wk k wk lp names m many acc M)(hp:M p=none):p≠k.p/\p≠k.q/\p≠wk/\p≠lp:=by
 obtain ⟨u,e⟩:=w.w;obtain ⟨h1,h2⟩:=w.h.nep hp;exact ⟨h1,h2,fun z=>(by rw [z,e] at hp;cases hp),fun z=>(by rw [z,w.l] at hp;cases hp)⟩
def zL(ad:Ad)(k:Pt)(wk lp:Addr)(names:List Str)(m many:Int)(n:Nat):Prop:=∀(rs:List Rw) (pl:List Int) (acc:List (List Int)) (M:Mem) (Q:DK) (E:DX),bX names m many rs->dO rs->cr rs+1<=n->acc.length+cRs rs<=1000->pl.length+2*cr rs+1<=900->Wk k wk lp names m many acc M->
 (∀rs' M',Tn names m many rs rs'->Wk k wk lp names m many (acc++ce pl 0 rs rs') M'->Fw k wk lp M M'->Q (.tup (aq rs')) M')->S_q2 ad n [.ref k.p,.ref wk,.tup (aq rs),cg pl] M Q E
def qz(D2:DEnds)(k:Pt)(wk lp:Addr)(names:List Str)(m many:Int)(acc:List (List Int))(N:Mem)(r:Rw)(hr:List Int)(rsD plD:D)(p:Addr)(c5:Option D):Prop:=∀(r':Rw) (c8 c9 c10 c11:Option D) (N':Mem),Tn1 names m many r r'->Wk k wk lp names m many (acc++dB hr r r') N'->Fw k wk lp N N'->D2.nx [some (.ref k.p),some (.ref wk),some rsD,some plD,some (.ref p),c5,some r'.d,some (cg hr),c8,c9,c10,c11] N'
theorem jt{EE:DX}{rs:List Rw}{pl:List Int}{bx:BxQ EE fun d M'=>frz d M' Q}(ih:zL ad k wk lp names m many n)(ok:bX names m many rs)(np:dO rs)(hn:cr rs+1<=n)(ha:acc.length+cRs rs<=1000)(hl:pl.length+2*cr rs+1<=900)(w:Wk k wk lp names m many acc M)
  (h:∀rs' M',Tn names m many rs rs'->Wk k wk lp names m many (acc++ce pl 0 rs rs') M'->Fw k wk lp M M'->Q (.tup (aq rs')) M'):calls (S_q2 ad n) EE [.ref k.p,.ref wk,.tup (aq rs),cg pl] M (fun d M'=>frz d M' Q) bx:=
 aT fun Q' E' hq _=>ih rs pl acc M Q' E' ok np hn ha hl w fun rs' M' t w' f=>hq _ _ (h rs' M' t w' f)
theorem Ck(ih:zL ad k wk lp names m many n){x:Str}{a b:List Rw}{hr:List Int}{rsD plD:D}{p:Addr}{c5 c8 c9 c10 c11:Option D}{EE:DX}{D2:DEnds}(ok:eG names m many (.ifr x a b))(np:kE (.ifr x a b))(hn:hR (.ifr x a b)<=n)(ha:acc.length+cR (.ifr x a b)<=1000)(hl:hr.length+2*hR (.ifr x a b)<=900)(w:Wk k wk lp names m many acc N)
  (h:qz D2 k wk lp names m many acc N (.ifr x a b) hr rsD plD p c5):mo ad (S_q2 ad n) EE D2 [some (.ref k.p),some (.ref wk),some rsD,some plD,some (.ref p),c5,some (Rw.ifr x a b).d,some (cg hr),c8,c9,c10,c11] N:=by
 simp only [hR,cR] at hn ha hl;have i2:atI [D.str (Str.ofString "if"),.str x,.tup (aq a),.tup (aq b)] 2=some (.tup (aq a)):=by rw [atI_2];rfl
 have i3:atI [D.str (Str.ofString "if"),.str x,.tup (aq a),.tup (aq b)] 3=some (.tup (aq b)):=by rw [atI_3];rfl
 unfold mo;generalize hK2:pj ad (S_q2 ad n) EE=K2;simp only [Rw.d,aC,aK,au,ax,ac,ae,aA,dC,aU,ai,bB,bR,i3,List.getElem?_cons_succ,List.getElem?_cons_zero];refine ⟨ci (by simp),gD (by lia) ⟨rfl,jt ih ok.2.2 np.2 (by lia) (by lia) (by simp;lia) w fun b' N1 t1 w1 f1=>?_⟩⟩
 have q1:=dn b b' (hr++[0]) 0;simp only [am,List.set];rw [<- hK2];unfold pj;generalize hK1:p6 ad (S_q2 ad n) EE=K1;simp only [aC,aK,au,ax,ac,ae,aA,dC,aU,ai,bB,bR,i2,List.getElem?_cons_succ,List.getElem?_cons_zero];refine ⟨ci (by simp),gD (by lia) ⟨rfl,jt ih ok.2.1 np.1 (by lia) (by simp;lia) (by simp;lia) w1 fun a' N2 t2 w2 f2=>?_⟩⟩
 simp only [am,List.set];rw [<- hK1];unfold p6;have e2:∀(a b:D) (l:List D),fv (a::b::l) none (some 2)=[a,b]:=fun a b l=>dX (k:=2);simp only [aK,au,aA,dw,ae,aD,bi,dC,pQ,e2,frz,aU,ac,ai,bD,am,List.set,List.getElem?_cons_succ,List.getElem?_cons_zero];refine ⟨ci (by simp),ci (by simp),h (.ifr x a' b') _ _ _ _ N2 ⟨⟨ok.1,t2.ok,t1.ok⟩,⟨t2.np,t1.np⟩,?_,?_,?_⟩ ?_ (f1.trans f2)⟩
 ·simp [dP,t1.k,t2.k]
 ·simp only [hR,t1.h,t2.h]
 ·simp only [cR,t1.c,t2.c]
 ·rw [List.append_assoc] at w2
  exact w2
theorem Cm(ih:zL ad k wk lp names m many n){x:Str}{a:List Rw}{hr:List Int}{rsD plD:D}{p:Addr}{c5 c8 c9 c10 c11:Option D}{EE:DX}{D2:DEnds}(ok:eG names m many (.again x a))(np:kE (.again x a))(hn:hR (.again x a)<=n)(ha:acc.length+cR (.again x a)<=1000)(hl:hr.length+2*hR (.again x a)<=900)(w:Wk k wk lp names m many acc N)
  (h:qz D2 k wk lp names m many acc N (.again x a) hr rsD plD p c5):lH ad (S_q2 ad n) EE D2 [some (.ref k.p),some (.ref wk),some rsD,some plD,some (.ref p),c5,some (Rw.again x a).d,some (cg hr),c8,c9,c10,c11] N:=by
 simp only [hR,cR] at hn ha hl;have i2:atI [D.str (Str.ofString "again"),.str x,.tup (aq a)] 2=some (.tup (aq a)):=by rw [atI_2];rfl
 unfold lH;generalize hK1:pf ad (S_q2 ad n) EE=K1;simp only [Rw.d,aC,aK,au,ax,ac,ae,aA,dC,aU,ai,bB,bR,i2,List.getElem?_cons_succ,List.getElem?_cons_zero];refine ⟨ci (by simp),gD (by lia) ⟨rfl,jt ih ok.2 np (by lia) (by lia) (by simp;lia) w fun a' N1 t1 w1 f1=>?_⟩⟩
 simp only [am,List.set];rw [<- hK1];unfold pf;have e2:∀(a b:D) (l:List D),fv (a::b::l) none (some 2)=[a,b]:=fun a b l=>dX (k:=2);simp only [aK,au,aA,dw,ae,aD,bi,dC,pQ,e2,frz,aU,ac,ai,bD,am,List.set,List.getElem?_cons_succ,List.getElem?_cons_zero];refine ⟨ci (by simp),ci (by simp),h (.again x a') _ _ _ _ N1 ⟨⟨ok.1,t1.ok⟩,t1.np,?_,?_,?_⟩ w1 f1⟩
 ·simp [dP,t1.k]
 ·simp only [hR,t1.h]
 ·simp only [cR,t1.c]
theorem Tn1.self(ok:eG names m many r)(np:kE r):Tn1 names m many r r:=⟨ok,np,(r8 r [] np).1,rfl,rfl⟩
theorem sk(h:ie names m many r):bN r=false:=by cases r<;>first|rfl|exact h.elim
theorem lX{r:Rw}(h:bN r=false):cR r=1/\hR r=0:=by cases r<;>first|exact ⟨rfl,rfl⟩|cases h
theorem xu(ht:ToldOk names m many){hr:List Int}{rsD plD:D}{p:Addr}{c5 c8 c9 c10 c11:Option D}{EE:DX}{D2:DEnds}{T:Sd}(hb:bN r=false)(ok:eG names m many r)(np:kE r)(ha:acc.length<=1000)(w:Wk k wk lp names m many acc N)
  (h:qz D2 k wk lp names m many acc N r hr rsD plD p c5):ji ad T EE D2 [some (.ref k.p),some (.ref wk),some rsD,some plD,some (.ref p),c5,some r.d,some (cg hr),c8,c9,c10,c11] N:=by
 obtain ⟨u,eu⟩:=w.w;have same:∀{N':Mem} {c11},Dr k N N'->D2.nx [some (.ref k.p),some (.ref wk),some rsD,some plD,some (.ref p),c5,some r.d,some (cg hr),c8,c9,c10,c11] N':=fun d=>h r _ _ _ _ _ (Tn1.self ok np) (by rw [(r8 r hr np).2,List.append_nil];exact w.dr d) d.fw
 have i2:∀u:Int,atI [du names m many,.ref lp,.int u] 2=some (.int u):=fun u=>by rw [atI_2];rfl
 have i1:∀u:Int,atI [du names m many,.ref lp,.int u] 1=some (.ref lp):=fun u=>by rw [atI_1];rfl
 have i0:∀u:Int,atI [du names m many,.ref lp,.int u] 0=some (du names m many):=fun u=>by rw [atI_0];rfl
 unfold ji;generalize hK9:oV ad T EE=K9;simp only [bz,dA,aB,aA,ae,dC,bB,bR,eu,i2,oF,y8,au,ax,ac,ai,List.getElem?_cons_succ,List.getElem?_cons_zero]
 by_cases c:¬0<u
 ·simp only [c,decide_false,Bool.false_eq_true,if_false]
  exact same w.h.refl
 have c:=Classical.not_not.mp c;simp only [c,decide_true,if_true];refine ⟨rfl,bI w.h (by decide) (by decide) fun d N1 _ _ d1=>?_⟩
 simp only [frz,dN,dv,bq,cB];refine ⟨trivial,trivial,?_⟩
 by_cases c2:¬d=0
 ·rw [decide_eq_false c2]
  exact same d1
 rw [decide_eq_true (Classical.not_not.mp c2)];show K9 _ _ N1;rw [<- hK9];unfold oV;generalize hK8:pX ad T EE=K8;have w1:=w.dr d1;have eu1:N1 wk=some (.lst [du names m many,.ref lp,.int u]):=by rw [d1.2 _ w.n1 w.n2];exact eu
 simp only [aC,aK,aA,au,ax,ac,aU,ae,dC,ai,bB,bR,eu1,i0,List.getElem?_cons_succ,List.getElem?_cons_zero];refine ⟨rfl,aT fun Q2 E2 hq2 _=>nF w1.h ht fun q N2 rq d2=>hq2 _ _ ?_⟩;rw [zA];refine ⟨ci (by simp),rfl,aT fun Q3 E3 hq3 _=>oX 24 [q] N2 Q3 E3 names m many ⟨pE rq,trivial⟩ (by simp [cr,zC rq]) (by simp [cRs,zv rq]) (hq3 _ _ ?_)⟩
 have d12:=d1.trans d2;have w2:=w.dr d12;have eu2:N2 wk=some (.lst [du names m many,.ref lp,.int u]):=by rw [d12.2 _ w.n1 w.n2];exact eu
 have fq:=kN q (pE rq);have hbq:bN (mP q)=false:=by
  have:=sk rq;cases q<;>first|rfl|cases this
 have ia:atI (aq (dR [q])) 0=some (mP q).d:=by rw [atI_0];rfl
 simp only [frz,ia,am,List.set];generalize mP q=o at fq hbq;rw [<- hK8];unfold pX;generalize hK7:pG ad T EE=K7;simp only [bz,aB,aA,ae,fZ,Ct,List.getElem?_cons_succ,List.getElem?_cons_zero];refine ⟨m7 hbq,m7 hb,?_⟩;have en:(!bq o.d r.d)=sY r o:=by rw [jh hb hbq];rfl
 rw [en];cases cn:sY r o with
 |false=>exact same d12
 |true=>
  show K7 _ _ N2;rw [<- hK7];unfold pG;generalize hK6:ph ad T EE=K6;have ix:qh 3 2=some 2:=rfl;simp only [aC,aK,aA,ae,dC,bB,bR,eu2,i2,kG,y8,jb,xT,List.length_cons,List.length_nil,ix,List.set,List.getElem?_cons_succ,List.getElem?_cons_zero];rw [<- hK6];unfold ph;have el:(N2.upd wk (.lst [du names m many,.ref lp,.int (u-1)])) lp=some (.lst (acc.map cg)):=by rw [ar (Ne.symm w.n5)];exact w2.l
  simp only [aC,cD,iA,aA,ae,dC,bB,bR,Mem.upd_same,i1,dy,el,ac,ai,bZ,aK,am,List.set,List.getElem?_cons_succ,List.getElem?_cons_zero];refine ⟨trivial,kD (by simp;lia),h o _ _ _ _ _ ⟨fq.1,fq.2.1,?_,?_,?_⟩ ?_ ?_⟩
  ·have p1:cZ r=false:=by cases r<;>first|rfl|exact np.elim
   have p2:cZ o=false:=by have:=fq.2.1;cases o<;>first|rfl|exact this.elim
   rw [hW hb,p1,p2,hbq];rfl
  ·rw [(lX hb).2,(lX hbq).2]
  ·rw [(lX hb).1,(lX hbq).1]
  ·rw [bJ hb,cn,if_pos rfl]
   refine ⟨(w2.h.upd ⟨w.n1,w.n2⟩).upd ⟨w.n3,w.n4⟩,⟨u-1,?_⟩,?_,w.n1,w.n2,w.n3,w.n4,w.n5⟩
   ·rw [ar w.n5,Mem.upd_same]
   ·rw [Mem.upd_same,List.map_append];rfl
  ·intro b ob h1 h2 h3 h4 e
   rw [ar h4,ar h3,d12.2 b h1 h2];exact e
end
end Tw
namespace Tw
open PySem L2 L3 LS
section
variable {ad:Ad}{M N:Mem}{Q:DK}{E:DX}{names:List Str}{m many:Int}{n:Nat}{r:Rw}{k:Pt}{wk lp:Addr}{acc:List (List Int)}
theorem xO(ht:ToldOk names m many)(ih:zL ad k wk lp names m many n){pl:List Int}{j:Nat}{rsD:D}{p:Addr}{us':List Rw}{c7 c8 c9 c10 c11:Option D}{EE:DX}{D2:DEnds}(ok:eG names m many r)(np:kE r)(hn:hR r<=n)(ha:acc.length+cR r<=1000)(hl:pl.length+1+2*hR r<=900)(w:Wk k wk lp names m many acc N)(hp:N p=some (.lst (aq us')))(hu:us'.length<=1000)(g:p≠k.p/\p≠k.q/\p≠wk/\p≠lp)
  (h:∀(r':Rw) (c6 c7 c8 c9 c10 c11:Option D) (N':Mem),Tn1 names m many r r'->Wk k wk lp names m many (acc++dB (pl++[(j:Int)]) r r') N'->N' p=some (.lst (aq (us'++[r'])))->(∀b o,b≠k.p->b≠k.q->b≠wk->b≠lp->b≠p->N b=some o->N' b=some o)->D2.nx [some (.ref k.p),some (.ref wk),some rsD,some (cg pl),some (.ref p),some (.int (j:Nat)),c6,c7,c8,c9,c10,c11] N'):
  jr ad (S_q2 ad n) EE D2 [some (.ref k.p),some (.ref wk),some rsD,some (cg pl),some (.ref p),some (.int (j:Nat)),some r.d,c7,c8,c9,c10,c11] N:=by
 unfold jr;generalize hK12:lP ad (S_q2 ad n) EE=K12;simp only [aC,aK,aA,ae,aU,ac,ai,List.getElem?_cons_succ,List.getElem?_cons_zero];refine ⟨ci (by simp),gD (by lia) ?_⟩
 simp only [am,List.set];rw [<- hK12];unfold lP;have w1:=ir ok;have w2:=l0 ok;generalize hA:cD (iA "list" bZ (ae 4) (ac (ae 6) ai))=A;have aft:qz { D2 with nx:=A D2 } k wk lp names m many acc N r (pl++[(j:Int)]) rsD (cg pl) p (some (.int (j:Nat))):=fun r' c8 c9 c10 c11 N' t w' f=>by
  have hp':=f p _ g.1 g.2.1 g.2.2.1 g.2.2.2 hp;rw [<- hA];simp only [cD,iA,ae,dy,hp',ac,ai,bZ,List.getElem?_cons_succ,List.getElem?_cons_zero];refine ⟨trivial,kD (by rw [bb];lia),h r' _ _ _ _ _ _ _ t (w'.upd g.1 g.2.1 g.2.2.1 g.2.2.2) (by rw [Mem.upd_same,bA];rfl) fun b o h1 h2 h3 h4 h5 e=>?_⟩
  rw [ar h5];exact f b o h1 h2 h3 h4 e
 generalize hK3:mo ad (S_q2 ad n) EE=K3;generalize hK11:lT ad (S_q2 ad n) EE=K11;have hl2:(pl++[(j:Int)]).length+2*hR r<=900:=by simp;lia
 have t11:iH r=false->K11 { D2 with nx:=A D2 } [some (.ref k.p),some (.ref wk),some rsD,some (cg pl),some (.ref p),some (.int (j:Nat)),some r.d,some (cg (pl++[(j:Int)])),c8,c9,c10,c11] N:=fun e=>by
  rw [<- hK11];unfold lT;generalize hK5:lH ad (S_q2 ad n) EE=K5;generalize hK10:ji ad (S_q2 ad n) EE=K10;have t5:om r=true->K5 { D2 with nx:=A D2 } [some (.ref k.p),some (.ref wk),some rsD,some (cg pl),some (.ref p),some (.int (j:Nat)),some r.d,some (cg (pl++[(j:Int)])),c8,c9,c10,c11] N:=fun ea=>by
   rw [<- hK5];cases r with
   |again x a=>exact Cm ih ok np hn ha hl2 w aft
   |_=>cases ea
  have t10:om r=false->K10 { D2 with nx:=A D2 } [some (.ref k.p),some (.ref wk),some rsD,some (cg pl),some (.ref p),some (.int (j:Nat)),some r.d,some (cg (pl++[(j:Int)])),c8,c9,c10,c11] N:=fun ea=>by
   rw [<- hK10];exact xu ht (by cases r<;>first|rfl|(cases e;done)|(cases ea;done)) ok np (by lia) w aft
  rw [gn] at t5 t10 ⊢;simp only [bz,aB,aA,ae,dC,bB,bR,atI_0,dN,dv,bq,cB,List.getElem?_cons_succ,List.getElem?_cons_zero];rw [w2];refine ⟨trivial,trivial,?_⟩;cases c:om r with
  |true=>exact t5 c
  |false=>exact t10 c
 have t3:iH r=true->K3 { D2 with nx:=A D2 } [some (.ref k.p),some (.ref wk),some rsD,some (cg pl),some (.ref p),some (.int (j:Nat)),some r.d,some (cg (pl++[(j:Int)])),c8,c9,c10,c11] N:=fun ea=>by
  rw [<- hK3];cases r with
  |ifr x a b=>exact Ck ih ok np hn ha hl2 w aft
  |_=>cases ea
 rw [gn] at t3 t11 ⊢;simp only [aC,bz,aB,aA,ae,dC,bB,bR,atI_0,dN,dv,bq,cB,List.getElem?_cons_succ,List.getElem?_cons_zero];rw [w1];refine ⟨trivial,trivial,?_⟩;cases c:iH r with
 |true=>exact t3 c
 |false=>exact t11 c
theorem Tn.snoc{a a':List Rw}{r':Rw}(t:Tn names m many a a')(t1:Tn1 names m many r r'):Tn names m many (a++[r]) (a'++[r']):=by
 refine ⟨OkRs_append.mpr ⟨t.ok,t1.ok,trivial⟩,noPks_app.mpr ⟨t.np,t1.np,trivial⟩,?_,?_,?_⟩
 ·rw [fL (et t.k),t.k]
  simp [b_,t1.k]
 ·simp only [bU,cr,t.h,t1.h]
 ·simp only [bM,cRs,t.c,t1.c]
theorem yd(ht:ToldOk names m many)(ih:zL ad k wk lp names m many n):zL ad k wk lp names m many (n+1):=by
 intro rs pl acc M Q E ok np hn ha hl w h;rw [u_q2 (n:=n)];unfold ut qX;generalize hK:jr ad (S_q2 ad n) (bV E)=K;simp only [aC,aK];refine ⟨ci (by simp),fun p hp=>?_⟩
 have g:=w.new hp;simp only [am,List.set,fo,mC,ac,ae,ai,bR,cT,jE,List.getElem?_cons_succ,List.getElem?_cons_zero]
 refine cY (fun xs δ N=>∃(us us' zs:List Rw) (c5 c6 c7 c8 c9 c10 c11:Option D),rs=us++zs/\xs=fV us.length (aq zs)/\δ=[some (.ref k.p),some (.ref wk),some (.tup (aq rs)),some (cg pl),some (.ref p),c5,c6,c7,c8,c9,c10,c11]/\Tn names m many us us'/\Wk k wk lp names m many (acc++ce pl 0 us us') N/\N p=some (.lst (aq us'))/\(∀b o,b≠k.p->b≠k.q->b≠wk->b≠lp->b≠p->M b=some o->N b=some o)) (fun _ _ _ _=>cA) ?_ ?_ _ _ _
  ⟨[],[],rs,_,_,_,_,_,_,_,rfl,jE _,rfl,⟨trivial,trivial,rfl,rfl,rfl⟩,by simpa [ce] using w.upd g.1 g.2.1 g.2.2.1 g.2.2.2,Mem.upd_same,fun b o _ _ _ _ h5 e=>by rw [ar h5];exact e⟩
 ·rintro δ N ⟨us,us',zs,c5,c6,c7,c8,c9,c10,c11,e1,e2,rfl,t,w',hp',f⟩
  have ez:zs=[]:=by cases zs with|nil=>rfl|cons _ _=>simp [aq,fV] at e2
  subst ez;rw [List.append_nil] at e1;subst e1;simp only [bC,c_,ac,ae,ai,eR,fH,hp',List.getElem?_cons_succ,List.getElem?_cons_zero];exact br (h us' N t w' fun b o h1 h2 h3 h4 e=>f b o h1 h2 h3 h4 (fun z=>by rw [z,hp] at e;cases e) e)
 ·rintro x xs δ N ⟨us,us',zs,c5,c6,c7,c8,c9,c10,c11,e1,e2,rfl,t,w',hp',f⟩ D' hnx _ _ _
  cases zs with
  |nil=>simp [aq,fV] at e2
  |cons z zs=>
   simp only [aq,fV,List.cons.injEq] at e2;obtain ⟨rfl,rfl⟩:=e2;have l1:=gb (rs:=rs);have ql:=dn us us' pl 0;have qe:=et t.k;subst e1;rw [OkRs_append] at ok;rw [noPks_app] at np;simp only [bU,cr] at hn hl;simp only [bM,cRs] at ha;simp only [bM,cRs,List.length_append,List.length_cons] at l1;simp only [dl,bp,dj,am,List.set,List.length_cons,List.length_nil];refine ⟨trivial,?_⟩;rw [<- hK];refine xO ht ih ok.2.1 np.2.1 (by lia) (by simp;lia) (by lia) w' hp' (by lia) g fun r' c6 c7 c8 c9 c10 c11 N' t1 w2 hp2 f2=>?_
   refine hnx _ _ ⟨us++[z],us'++[r'],zs,_,_,_,_,_,_,_,by simp,by simp,rfl,t.snoc t1,?_,hp2,fun b o h1 h2 h3 h4 h5 e=>f2 b o h1 h2 h3 h4 h5 (f b o h1 h2 h3 h4 h5 e)⟩
   rw [kZ qe];simp only [ce,List.append_nil,Nat.zero_add];rw [<- List.append_assoc];exact w2
theorem vm(ht:ToldOk names m many):∀n:Nat,zL ad k wk lp names m many n
 |0=>fun _ _ _ _ _ _ _ _ h=>by lia
 |n+1=>yd ht (vm ht n)
end
end Tw
namespace Tw
open PySem L2 L3 LS
structure PlH(m many:Int)(names:List Str)(rows:List Rw)(mk:Str):Prop where
 t:ToldOk names m many
 nd:names.Nodup
 ok:bX names m many rows
 np:dO rows
 h:cr rows<=4
 c:cRs rows<=60
 mkm:mk∈names
section
variable {ad:Ad}{M N:Mem}{Q:DK}{E:DX}{k:Pt}
theorem pU(hp:Has k M)(h:∀(m many:Int) (names:List Str) (rs rs':List Rw) (mk:Str) (M':Mem) (p:Addr),PlH m many names rs mk->Tn names m many rs rs'->Kq k M M'->M' p=none->Q (.tup [bH m many names rs mk,bH m many names rs' mk,.ref p]) (M'.upd p (.lst (mB rs rs')))):
  qr ad [.ref k.p,.int 40,.int 12] M Q E:=by
 rw [Co (n:=0)];unfold nX;generalize hK4:mv ad (bV E)=K4;simp only [aC,aK,au,ax,ac,ae,ai,List.getElem?_cons_succ,List.getElem?_cons_zero];refine ⟨rfl,aT fun Q' E' hq _=>rN (by decide) (by decide) hp fun m many names rows mk M1 pg k1=>hq _ _ ?_⟩
 have fr:∀{r:List Rw} {K:DK} {M:Mem},frz (bH m many names r mk) M K=K (bH m many names r mk) M:=rfl;rw [fr];have nf:=eA rows pg.ok;have g:PlH m many names (dR rows) mk:=⟨pg.t,pg.nd,nf.1,nf.2.1,by rw [nf.2.2.1];exact pg.h,by rw [nf.2.2.2];exact pg.cn,pg.mkm⟩
 have a3:∀r:List Rw,atI [D.int m,.tup (names.map D.str),.int many,.tup (aq r),.str mk] 3=some (.tup (aq r)):=fun r=>by rw [atI_3];rfl
 have a4:∀r:List Rw,atI [D.int m,.tup (names.map D.str),.int many,.tup (aq r),.str mk] 4=some (.str mk):=fun r=>by rw [atI_4];rfl
 have e3:∀(a b c:D) (l:List D),fv (a::b::c::l) none (some 3)=[a,b,c]:=fun a b c l=>dX (k:=3);rw [<- hK4];unfold mv;generalize hK3:l_ ad (bV E)=K3;simp only [am,List.set,bH,aC,aK,aA,au,dw,ae,aD,bi,dC,pQ,e3,frz,aU,ac,ax,ai,bB,bR,a3,a4,List.getElem?_cons_succ,List.getElem?_cons_zero];have hcn:=pg.cn;have hh:=pg.h;refine ⟨rfl,aT fun Q2 E2 hq2 _=>oX 24 rows M1 Q2 E2 names m many pg.ok (by lia) (by lia) (hq2 _ _ ?_)⟩
 simp only [a4,e3,bD];refine ⟨ci (by simp),ci (by simp),?_⟩
 rw [<- hK3];unfold l_;generalize hK2:lJ ad (bV E)=K2;simp only [List.cons_append,List.nil_append,aC,aK,bT,ac,dw,ae,aD,bi,dC,pQ,e3,ai,am,List.set,List.getElem?_cons_succ,List.getElem?_cons_zero];refine ⟨ci (by simp),fun lp hlp=>⟨ci (by simp),fun wk hwk=>?_⟩⟩
 have nlp:=k1.1.nep hlp;have h2:=k1.1.upd (o:=.lst []) nlp;have nwk:=h2.nep hwk;have ne:wk≠lp:=fun z=>by rw [z,Mem.upd_same] at hwk;cases hwk
 have hwk1:M1 wk=none:=by rw [ar ne] at hwk;exact hwk
 have w0:Wk k wk lp names m many [] ((M1.upd lp (.lst [])).upd wk (.lst [du names m many,.ref lp,.int 12])):=⟨h2.upd nwk,⟨12,Mem.upd_same⟩,by rw [ar (Ne.symm ne),Mem.upd_same];rfl,nwk.1,nwk.2,nlp.1,nlp.2,ne⟩
 rw [<- hK2];unfold lJ;generalize hK1:ly ad (bV E)=K1;simp only [aC,aK,au,ax,ac,ae,aA,dC,aU,ai,bB,bR,a3,am,List.set,List.getElem?_cons_succ,List.getElem?_cons_zero];have gh:=g.h;have gc:=g.c;refine ⟨ci (by simp),rfl,jt (pl:=[]) (vm pg.t 24) g.ok g.np (by lia) (by simp;lia) (by simp;lia) w0 fun rs' M3 t w3 f=>?_⟩
 rw [List.nil_append] at w3;obtain ⟨u,eu⟩:=w3.w;have i1:atI [du names m many,.ref lp,.int u] 1=some (.ref lp):=by rw [atI_1];rfl
 rw [<- hK1];unfold ly;simp only [bC,aU,ac,ae,aA,au,dw,aD,bi,dC,pQ,e3,frz,ai,bB,bR,a4,bD,List.cons_append,List.nil_append,c_,eu,i1,eW,fH,w3.l,iQ,List.getElem?_cons_succ,List.getElem?_cons_zero];have ql:=dn (dR rows) rs' [] 0;refine ⟨ci (by simp),ci (by simp),by lia,fun x hx=>eV _ _ _ _ x hx,fun p hp3=>⟨ci (by simp),br (h m many names (dR rows) rs' mk M3 p g t ⟨w3.h,fun b o h1 h2 e=>?_⟩ hp3)⟩⟩
 have eb:=k1.2 b o h1 h2 e;have b1:b≠wk:=fun z=>by rw [z,hwk1] at eb;cases eb
 have b2:b≠lp:=fun z=>by rw [z,hlp] at eb;cases eb
 exact f b o h1 h2 b1 b2 (by rw [ar b1,ar b2];exact eb)
end
end Tw
namespace Tw
open PySem L2 L3 LS
mutual
theorem ww:∀(r o:Rw) (pl:List Int),∀x∈dB pl r o,x.length<=pl.length+2*hR r
 |.ifr _ a b,o,pl=>by
  have h1:=fY a;have h2:=fY b;cases o with
  |ifr y a' b'=>
   intro x hx;simp only [dB,List.mem_append] at hx;rcases hx with hx|hx
   ·have:=h2 _ _ _ x hx
    simp only [List.length_append,List.length_cons,List.length_nil] at this;simp only [hR];lia
   ·have:=h1 _ _ _ x hx
    simp only [List.length_append,List.length_cons,List.length_nil] at this;simp only [hR];lia
  |_=>intro x hx;cases hx
 |.again _ a,o,pl=>by
  have h1:=fY a;cases o with
  |again y a'=>
   intro x hx;have:=h1 _ _ _ x hx;simp only [List.length_append,List.length_cons,List.length_nil] at this;simp only [hR];lia
  |_=>intro x hx;cases hx
 |.put _ _,o,pl=>by intro x hx;rw [bJ rfl] at hx;split at hx<;>simp at hx;rw [hx];lia
 |.take _ _,o,pl=>by intro x hx;rw [bJ rfl] at hx;split at hx<;>simp at hx;rw [hx];lia
 |.pick _ _,o,pl=>by intro x hx;rw [bJ rfl] at hx;split at hx<;>simp at hx;rw [hx];lia
 |.two _ _ _ _,o,pl=>by intro x hx;rw [bJ rfl] at hx;split at hx<;>simp at hx;rw [hx];lia
theorem fY:∀(rs os:List Rw) (pl:List Int) (j:Nat),∀x∈ce pl j rs os,x.length<=pl.length+1+2*cr rs
 |[],os,pl,j=>by intro x hx;cases hx
 |r::rs,os,pl,j=>by
  cases os with
  |nil=>intro x hx;cases hx
  |cons o os=>
   intro x hx;simp only [ce,List.mem_append] at hx;rcases hx with hx|hx
   ·have:=ww r o _ x hx
    simp only [List.length_append,List.length_cons,List.length_nil] at this;simp only [cr];lia
   ·have:=fY rs os _ _ x hx
    simp only [cr];lia
end
theorem A4{rs os:List Rw}(hc:cRs rs<=1000)(hh:cr rs<=100):(mB rs os).length<=100000/\∀x∈mB rs os,wf 1 x:=by
 have l1:=dn rs os [] 0;refine ⟨by simp only [mB,List.length_map,(fS j_ _).length_eq];lia,fun x hx=>?_⟩
 simp only [mB,List.mem_map] at hx;obtain ⟨y,hy,rfl⟩:=hx;have:=fY _ _ _ _ y ((fS j_ _).mem_iff.mp hy);simp only [List.length_nil] at this;refine ⟨by simp only [List.length_map];lia,fun z hz=>?_⟩
 obtain ⟨i,_,rfl⟩:=List.mem_map.mp hz;trivial
section
variable {ad:Ad}{M N:Mem}{Q:DK}{E:DX}
theorem sG{p:Addr}{xs:List D}{n:Nat}(hp:M p=some (.lst xs))(hx:xs.length<=100000/\∀x∈xs,wf n x)(h:Q (.bl true) M):S_q12 ad (n+2) [.ref p,.lst xs] M Q E:=by
 obtain ⟨hl,hx⟩:=hx;simp! [iV,fF,i6,i7,i8,i9,i10,t1,t2,t3,t4,t5,hp,↓dE];rw [if_neg (by decide),if_neg (by decide),if_neg (by decide)]
 refine cM (fun ys acc δ M'=>∃(zs:List D) (j:Nat) (c0 c1:Option D),ys=zs.map (fun z=>D.tup [z,z])/\(∀z∈zs,wf n z)/\zs.length+j<=100000/\acc=List.replicate j (.bl true)/\δ=[c0,c1]/\M'=M) (fun _ _ _ _ ⟨_,_,_,_,_,_,_,_,_,e⟩=>by subst e;intro q hq;simp only [cT,List.append_nil,List.mem_cons,List.not_mem_nil,or_false] at hq;subst hq;exact hp) ?_ ?_ ?_ _ _ _ _ ⟨xs,0,none,none,iy xs,hx,by lia,rfl,rfl,rfl⟩
 ·rintro acc δ M' ⟨zs,j,c0,c1,e1,e2,e3,rfl,rfl,rfl⟩ p hpn
  simp! [Mem.upd_del,aW hpn,fB,k7];exact br h
 ·rintro y ys acc δ M' ⟨zs,j,c0,c1,e1,e2,e3,rfl,rfl,rfl⟩ N hN _
  cases zs with
  |nil=>simp at e1
  |cons z zs=>
   simp only [List.map_cons,List.cons.injEq] at e1;obtain ⟨rfl,rfl⟩:=e1;simp only [List.length_cons] at e3;simp! [];refine jF (d:=.bl true) (fun Q' E' q=>df n z M' Q' E' (e2 z (List.mem_cons_self ..)) q) ?_;simp! [];exact hN _ _ _ (by simp;exact kD (by lia)) ⟨zs,j+1,_,_,rfl,fun w hw=>e2 w (List.mem_cons_of_mem _ hw),by lia,by rw [List.replicate_succ'],rfl,rfl⟩
 ·rintro y ys acc δ M' ⟨zs,j,c0,c1,e1,e2,e3,rfl,rfl,rfl⟩
  simp;exact kD (by lia)
theorem j1:cm "str" "tuple"=false:=by decide +kernel
theorem j2:cm "str" "list"=false:=by decide +kernel
theorem vZ{w:Str}{n:Nat}(h:Q (.bl false) M):S_q12 ad (n+1) [.str w,.lst []] M Q E:=by
 simp! [iV,fF,i6,i7,i8,i9,i10,j1,j2,t1,t2,t3,t4,t5];exact br h
end
end Tw
namespace Tw
open PySem L2 L3 LS
section
variable {ad:Ad}{M N:Mem}{δ:Dl}{D0:DEnds}{a b te:cj}
abbrev Ev(te:cj)(δ:Dl)(M:Mem)(d:D):Prop:=∀K:DK,K d M->te δ M K
abbrev Cn(ta:gv)(δ:Dl)(M:Mem)(ds:List D):Prop:=∀K:List D->Mem->Prop,K ds M->ta δ M K
abbrev yU(t:gr)(δ:Dl)(M:Mem)(P:Prop):Prop:=∀K:Bool->Mem->Prop,(P->K true M)->K false M->t δ M K
theorem ak{i:Nat}{d:D}(h:δ[i]?=some (some d)):Ev (ae i) δ M d:=fun K q=>by simp only [ae,h];exact q
theorem bw{d:D}:Ev (dC d) δ M d:=fun _ q=>q
theorem aE:Cn ai δ M []:=fun _ q=>q
theorem ag{t:gv}{d:D}{ds:List D}(h1:Ev a δ M d)(h2:Cn t δ M ds):Cn (ac a t) δ M (d::ds):=fun _ q=>h1 _ (h2 _ q)
theorem aX{t:gv}{ds:List D}(h:Cn t δ M ds)(hl:ds.length<=1000):Ev (aU t) δ M (.tup ds):=fun _ q=>h _ ⟨ci (by lia),q⟩
theorem cF{xs:List D}{i:Int}{e:D}(h1:Ev a δ M (.tup xs))(h2:Ev b δ M (.int i))(h:atI xs i=some e):Ev (aA bB a b) δ M e:=fun K q=>h1 _ (h2 _ (by simp only [bB,bR,h];exact q))
theorem dm{xs:List D}(h:Ev te δ M (.tup xs)):Ev (au te) δ M (.tup xs):=fun _ q=>h _ q
theorem fG{xs:List D}{k:Nat}(h1:Ev a δ M (.tup xs))(h2:Ev b δ M (.int k)):Ev (dw a aD (bi b)) δ M (.tup (xs.take k)):=fun K q=>h1 _ (h2 _ (by simp only [pQ,dX];exact q))
theorem j0{xs:List D}{k:Nat}(h1:Ev a δ M (.tup xs))(h2:Ev b δ M (.int k)):Ev (dw a (bi b) aD) δ M (.tup (xs.drop k)):=fun K q=>h1 _ (h2 _ (by simp only [aD,pQ,lQ];exact q))
theorem cE{xs ys:List D}(h1:Ev a δ M (.tup xs))(h2:Ev b δ M (.tup ys))(hl:xs.length+ys.length<=10000):Ev (aA bD a b) δ M (.tup (xs++ys)):=fun _ q=>h1 _ (h2 _ ⟨ci (by lia),q⟩)
theorem lN{x y:Int}(h1:Ev a δ M (.int x))(h2:Ev b δ M (.int y)):Ev (aA bD a b) δ M (.int (x+y)):=fun _ q=>h1 _ (h2 _ q)
theorem g7{i:Nat}(h1:Ev a δ M (.int i)):Ev (aA bD a (dC (.int 1))) δ M (.int (i+1:Nat)):=fun _ q=>h1 _ q
theorem d_{xs:List D}(h1:Ev a δ M (.tup xs)):Ev (c_ cO (ac a ai)) δ M (.int (xs.length:Nat)):=fun _ q=>h1 _ q
theorem iJ{t:gv}{ds:List D}(h:Cn t δ M ds)(hl:ds.length<=1000):Ev (au (bT t)) δ M (.lst ds):=fun _ q=>h _ ⟨ci (by lia),fun _ hp=>fh hp q⟩
theorem fA{t u:gr}{P R:Prop}(h1:yU t δ M P)(h2:P->yU u δ M R):yU (dA t u) δ M (P/\R):=fun K q1 q2=>h1 _ (fun p=>by rw [if_pos rfl];exact h2 p K (fun r=>q1 ⟨p,r⟩) q2) (by rw [if_neg (by simp)];exact q2)
theorem lW{P:Prop}[Decidable P](h:Ev te δ M (.bl (decide P))):yU (aB te) δ M P:=fun K q1 q2=>h _ (by
 by_cases c:P
 ·rw [decide_eq_true c];exact q1 c
 ·rw [decide_eq_false c];exact q2)
theorem jz{x y:Int}(h1:Ev a δ M (.int x))(h2:Ev b δ M (.int y)):yU (aB (aA dN a b)) δ M (x=y):=lW fun _ q=>h1 _ (h2 _ ⟨rfl,rfl,q⟩)
theorem iF{x y:Int}(h1:Ev a δ M (.int x))(h2:Ev b δ M (.int y)):yU (aB (aA oG a b)) δ M (x<y):=lW fun _ q=>h1 _ (h2 _ q)
theorem pV{x y:Int}(h1:Ev a δ M (.int x))(h2:Ev b δ M (.int y)):yU (aB (aA oF a b)) δ M (y<x):=lW fun _ q=>h1 _ (h2 _ q)
theorem iI{t:gr}{P:Prop}{A:aZ}(h:yU t δ M P)(h1:P->A D0 δ M)(h2:D0.nx δ M):bz t A bg D0 δ M:=h _ (fun p=>by rw [if_pos rfl];exact h1 p) (by rw [if_neg (by simp)];exact h2)
theorem fk{d:D}(h:Ev te δ M d)(q:D0.rt d M):bC te D0 δ M:=h _ q
theorem ff{d:D}{i:Nat}(h:Ev te δ M d)(q:D0.nx (δ.set i (some d)) M):aK te (am i) D0 δ M:=h _ q
theorem bn{s u:aZ}(h:s { D0 with nx:=u D0 } δ M):aC s u D0 δ M:=h
end
theorem cN{rs:List Rw}{i:Nat}:(aq rs).take i=aq (rs.take i):=by rw [cP,cP,List.map_take]
theorem dG{rs:List Rw}{i:Nat}:(aq rs).drop i=aq (rs.drop i):=by rw [cP,cP,List.map_drop]
theorem rz:∀{rs os:List Rw},b_ rs os=true->∀o∈os,cZ o=false
 |[],os,h=>by cases os with|nil=>simp|cons _ _=>cases h
 |r::rs,os,h=>by
  cases os with
  |nil=>cases h
  |cons o os=>
   simp only [b_,Bool.and_eq_true] at h;intro q hq;rcases List.mem_cons.mp hq with rfl|hq
   ·have:=h.1
    rw [lL] at this;cases q with
    |pick x y=>simp [dP,cZ] at this
    |_=>rfl
   ·exact rz h.2 q hq
theorem fJ{rs:List Rw}{i:Nat}:cRs (rs.take i)+cRs (rs.drop i)=cRs rs:=by rw [<- bM,List.take_append_drop]
theorem iR{rs:List Rw}{i:Nat}:max (cr (rs.take i)) (cr (rs.drop i))=cr rs:=by rw [<- bU,List.take_append_drop]
theorem io{names:List Str}{m many:Int}{rs:List Rw}{i:Nat}(h:bX names m many rs):bX names m many (rs.take i)/\bX names m many (rs.drop i):=OkRs_append.mp (by rw [List.take_append_drop];exact h)
theorem Ar:∀{rs:List Rw} {i:Nat},cRs (rs.drop i)<=cRs rs
 |rs,i=>by have:=fJ (rs:=rs) (i:=i);lia
structure Bent(m many:Int)(names:List Str)(rs:List Rw)(mk:Str)(m2 many2:Int)(names2:List Str)(rs2:List Rw)(mk2:Str):Prop where
 b:¬((m=m2/\names=names2/\many=many2)/\mk=mk2)\/(((m=m2/\names=names2/\many=many2)/\mk=mk2)/\bX names m many rs2/\cr rs2<=10/\cRs rs2<=63/\(rs2.length≠rs.length\/∃o∈rs2,cZ o=true))
theorem wl{names:List Str}{one rs rs2:List Rw}(h:rs2.length≠rs.length\/∃o∈rs2,cZ o=true)(e:b_ one rs=true):b_ one rs2=false:=by
 cases c:b_ one rs2 with
 |false=>rfl
 |true=>
  exfalso
  rcases h with h|⟨o,ho,hp⟩
  ·exact h ((et c).symm.trans (et e))
  ·rw [rz c o ho] at hp;cases hp
section
variable {ad:Ad}{M N:Mem}{Q:DK}{E:DX}{k:Pt}{m many:Int}{names:List Str}{rs:List Rw}{mk:Str}{δ:Dl}
theorem w8{α:Type}{xs:List α}{i:Nat}{x:α}(h:xs[i]?=some x):atI xs (i:Int)=some x:=by rw [cX (by lia),Int.toNat_natCast];exact h
theorem zD(h:ToldOk names m many):∃x∈names,atI (names.map D.str) 0=some (.str x):=by
 have:=h.n0;obtain ⟨x,h1,h2⟩:=gl (names:=names) (r:=0) (by lia) (by lia)
 exact ⟨x,h1,h2⟩
theorem wr{K:DK}(nd:names.Nodup)(hl:1<names.length)(hl2:names.length<=12)(h3:δ[3]?=some (some (.tup (names.map D.str))))(h6:δ[6]?=some (some (.str mk)))(h:∀x,x≠mk->K (.str x) M):
  aA bB (au (dE (ft (ae 3)) ["one"] [6] (am 0) (aB (aA fZ (ae 0) (ae 1))) (ae 0))) (dC (.int 0)) δ M K:=by
 have es:gM ["one"] [6] δ=[none,some (.str mk)]:=by simp [gM,h6]
 simp only [aA,au,dE,ft,ae,h3,bR,cT,es];refine cM (fun ys acc δ M'=>∃(us zs:List Str) (c0:Option D),names=us++zs/\ys=zs.map D.str/\acc=(us.filter fun x=>!decide (x=mk)).map D.str/\δ=[c0,some (.str mk)]/\M=M') (fun _ _ _ _ _=>cA) ?_ ?_ ?_ _ _ _ _ ⟨[],names,none,rfl,rfl,rfl,rfl,rfl⟩
 ·rintro acc δ M' ⟨us,zs,c0,e1,e2,rfl,rfl,rfl⟩ p hp
  have ez:zs=[]:=by simpa using e2.symm
  subst ez;rw [List.append_nil] at e1;subst e1;refine fh hp ?_;cases ef:names.filter (fun x=>!decide (x=mk)) with
  |nil=>
   exfalso
   have al:∀x∈names,x=mk:=fun x hx=>by
    have:=List.filter_eq_nil_iff.mp ef x hx;simpa using this
   match names,nd,hl with
   |x::y::l,nd,_=>
    have h1:=al x (by simp)
    have h2:=al y (by simp)
    simp only [List.nodup_cons,List.mem_cons,not_or] at nd;exact nd.1.1 (h1.trans h2.symm)
  |cons x l=>
   have hx:x∈names.filter (fun x=>!decide (x=mk)):=by rw [ef];simp
   have:=(List.mem_filter.mp hx).2;simp only [bB,bR,dC,List.map_cons,atI_0,List.getElem?_cons_zero];exact h x (by simpa using this)
 ·rintro y ys acc δ M' ⟨us,zs,c0,e1,e2,rfl,rfl,rfl⟩ N hN1 hN2
  cases zs with
  |nil=>simp at e2
  |cons z zs=>
   simp only [List.map_cons,List.cons.injEq] at e2;obtain ⟨rfl,rfl⟩:=e2;have hl:=congrArg List.length e1;simp only [List.length_append,List.length_cons] at hl;have hfl:(us.filter fun x=>!decide (x=mk)).length<=us.length:=List.length_filter_le ..;simp only [am,List.set,aB,aA,ae,fZ,dv,bq,cB,List.getElem?_cons_succ,List.getElem?_cons_zero];refine ⟨trivial,trivial,?_⟩;cases c:decide (z=mk) with
   |false=>exact hN1 _ _ _ (by simp;exact kD (by lia)) ⟨us++[z],zs,_,by rw [e1];simp,rfl,by simp [c],rfl,rfl⟩
   |true=>exact hN2 _ _ _ ⟨us++[z],zs,_,by rw [e1];simp,rfl,by simp [c],rfl,rfl⟩
 ·rintro y ys acc δ M' ⟨us,zs,c0,e1,e2,rfl,rfl,rfl⟩
  have hl:=congrArg List.length e1;simp only [List.length_append] at hl;have hfl:(us.filter fun x=>!decide (x=mk)).length<=us.length:=List.length_filter_le ..;simp;exact kD (by lia)
end
end Tw
namespace Tw
open PySem L2 L3 LS
section
variable {ad:Ad}{M N:Mem}{Q:DK}{E:DX}{k:Pt}{m many:Int}{names:List Str}{rs:List Rw}{mk:Str}{δ:Dl}
theorem pY{a:cj}{r:Rw}(ok:eG names m many r)(h:Ev a δ M (.str (da r))):yU (aB (aA kc a (au (bT (ac (dC (.str "if")) (ac (dC (.str "again")) ai)))))) δ M (bN r=false):=fun K q1 q2=>by
 simp only [aB,aA];refine h _ (iJ (ag bw (ag bw aE)) (by simp) _ ?_)
 have w1:=ir ok;have w2:=l0 ok;have e:nu M (.str (da r)) (.lst [.str (Str.ofString "if"),.str (Str.ofString "again")])=some (bN r):=by
  have e1:decide (Str.ofString "if"=da r)=iH r:=by rw [<- w1];exact decide_eq_decide.mpr eq_comm
  have e2:decide (Str.ofString "again"=da r)=om r:=by rw [<- w2];exact decide_eq_decide.mpr eq_comm
  simp only [nu,bR,dv,cB,cG,bq,List.any_cons,List.any_nil,e1,e2,Bool.and_true,and_self,if_true,Bool.or_false];cases r<;>rfl
 simp only [kc,e];cases c:bN r with
 |true=>exact q2
 |false=>exact q1 c
theorem sD(pg:ToldOk names m many)(nd:names.Nodup)(mkm:mk∈names)(ok:bX names m many rs)(hh:cr rs<=8)(hc:cRs rs<=61)(hp:Has k M)
  (h:∀m2 many2 names2 rs2 mk2 M',Bent m many names rs mk m2 many2 names2 rs2 mk2->Dr k M M'->Q (bH m2 many2 names2 rs2 mk2) M'):rf ad [.ref k.p,bH m many names rs mk] M Q E:=by
 have t1:=pg.n0;have t2:=pg.n1;have lc:=gb (rs:=rs);obtain ⟨x0,hx0,ex0⟩:=zD pg;rw [CQ (n:=0)];unfold oh;refine bn ?_;simp only [aK,ae,bH,dl,bp,dj,am,List.set,List.length_cons,List.length_nil,List.getElem?_cons_succ,List.getElem?_cons_zero];refine ⟨trivial,?_⟩;unfold nO;refine bn (fc rfl bw hp (by decide) (by decide) fun way M1 a1 b1 d1=>?_)
 simp only [am,List.set];have hd:∀m2 many2 names2 mk2 M',¬((m=m2/\names=names2/\many=many2)/\mk=mk2)->Dr k M M'->drp Q (bH m2 many2 names2 rs mk2) M':=fun m2 many2 names2 mk2 M' z d=>br (h _ _ _ _ _ _ ⟨.inl z⟩ d);have fin:∀rs2 M',bX names m many rs2->cr rs2<=10->cRs rs2<=63->(rs2.length≠rs.length\/∃o∈rs2,cZ o=true)->Dr k M M'->drp Q (bH m many names rs2 mk) M':=fun rs2 M' z1 z2 z3 z4 d=>br (h _ _ _ _ _ _ ⟨.inr ⟨⟨⟨rfl,rfl,rfl⟩,rfl⟩,z1,z2,z3,z4⟩⟩ d);generalize hG:({ nx:=fun _ M'=>drp Q .non M',rt:=drp Q }:DEnds)=G at *;have hrt:G.rt=drp Q:=by rw [<- hG]
 have ln:∀{xs:List Str},(xs.map D.str).length=xs.length:=List.length_map ..;unfold oq;refine bn (iI (fA (jz (ak rfl) bw) fun _=>iF (ak rfl) bw) (fun _=>?_) ?_)
 ·refine fk (aX (ag (lN (ak rfl) bw) (ag (ak rfl) (ag (ak rfl) (ag (ak rfl) (ag (ak rfl) aE))))) (by simp)) ?_
  show G.rt _ _;rw [hrt];exact hd (m+1) many names mk M1 (fun z=>by have:=z.1.1;lia) d1
 dsimp only;unfold nZ;refine bn (iI (jz (ak rfl) bw) (fun _=>?_) ?_)
 ·unfold qN
  simp only [bC,aU,ac,ae,tm,List.getElem?_cons_succ,List.getElem?_cons_zero]
  by_cases c:names.length<12
  ·have:Ev (aA oG (c_ cO (ac (ae 3) ai)) (dC (.int 12))) [some (.ref k.p),some (bH m many names rs mk),some (.int m),some (.tup (names.map D.str)),some (.int many),some (.tup (aq rs)),some (.str mk),some (.int way),none] M1 (.bl true):=fun K q=>d_ (ak rfl) _ (by
    show K (.bl (decide _)) _;rw [decide_eq_true (by rw [ln];lia)];exact q)
   refine this _ ?_;dsimp only;rw [if_pos rfl];refine cE (ak rfl) (aX (ag bw aE) (by simp)) (by simp;lia) _ ⟨ci (by simp),?_⟩
   show G.rt _ _;rw [hrt];have:=hd m many (names++[Str.ofString "zq"]) mk M1 (fun z=>by have:=congrArg List.length z.1.2.1;simp at this) d1
   unfold bH at this;rw [List.map_append] at this;exact this
  ·have:Ev (aA oG (c_ cO (ac (ae 3) ai)) (dC (.int 12))) [some (.ref k.p),some (bH m many names rs mk),some (.int m),some (.tup (names.map D.str)),some (.int many),some (.tup (aq rs)),some (.str mk),some (.int way),none] M1 (.bl false):=fun K q=>d_ (ak rfl) _ (by
    show K (.bl (decide _)) _;rw [decide_eq_false (by rw [ln];lia)];exact q)
   refine this _ ?_;dsimp only;rw [if_neg (by simp)]
   refine ⟨rfl,ci (by simp),?_⟩
   show G.rt _ _;rw [hrt];have:=hd m many names.reverse mk M1 (fun z=>by
    have e:=z.1.2.1;have e0:names[0]?=names.reverse[0]?:=by rw [<- e]
    rw [List.getElem?_reverse (by lia)] at e0
    rw [List.getElem?_eq_getElem (by lia),List.getElem?_eq_getElem (by lia),Option.some.injEq] at e0
    exact List.pairwise_iff_getElem.mp nd 0 (names.length-1-0) (by lia) (by lia) (by lia) e0) d1
   unfold bH at this;rw [List.map_reverse] at this;exact this
 dsimp only;unfold mW;refine bn (iI (fA (jz (ak rfl) bw) fun _=>iF (ak rfl) bw) (fun _=>?_) ?_)
 ·refine fk (aX (ag (ak rfl) (ag (ak rfl) (ag (lN (ak rfl) bw) (ag (ak rfl) (ag (ak rfl) aE))))) (by simp)) ?_
  show G.rt _ _;rw [hrt];exact hd m (many+1) names mk M1 (fun z=>by have:=z.1.2.2;lia) d1
 dsimp only;unfold mU;refine bn (iI (fA (jz (ak rfl) bw) fun _=>pV (d_ (ak rfl)) bw) (fun c=>?_) ?_)
 ·unfold qm
  have hl:=c.2;rw [ln] at hl;simp only [bC,aU,ac];refine ak rfl _ (ak rfl _ (ak rfl _ (ak rfl _ (wr (names:=names) (mk:=mk) nd (by lia) t2 rfl rfl fun x hx=>⟨ci (by simp),?_⟩))))
  show G.rt _ _;rw [hrt];exact hd m many names x M1 (fun z=>hx z.2.symm) d1
 dsimp only;unfold nH;refine bn (fc rfl (lN (d_ (ak rfl)) bw) d1.1 (by lia) (by rw [bb];lia) fun at_ M2 a2 b2 d2=>?_)
 obtain ⟨i,rfl⟩:=Int.eq_ofNat_of_zero_le a2;rw [bb] at b2;have dr:=d1.trans d2;have tc:=fJ (rs:=rs) (i:=i);have th:=iR (rs:=rs) (i:=i);have tk:=io (i:=i) ok;have tc1:=fJ (rs:=rs) (i:=i+1);have th1:=iR (rs:=rs) (i:=i+1);have tk1:=io (i:=i+1) ok;have dc:=Ar (rs:=rs.drop i) (i:=1);rw [List.drop_drop] at dc;simp only [am,List.set];unfold qQ;refine bn (iI (fA (jz (ak rfl) bw) fun _=>iF (ak rfl) (d_ (ak rfl))) (fun c=>?_) ?_)
 ·have hi:=c.2
  rw [bb] at hi;refine fk (aX (ag (ak rfl) (ag (ak rfl) (ag (ak rfl) (ag (cE (dm (fG (k:=i) (ak rfl) (ak rfl))) (dm (j0 (k:=i+1) (ak rfl) (g7 (ak rfl)))) (by rw [cN,dG,bb,bb];simp;lia)) (ag (ak rfl) aE))))) (by simp)) ?_
  rw [cN,dG,<- bA];show G.rt _ _;rw [hrt];refine fin _ M2 (OkRs_append.mpr ⟨tk.1,tk1.2⟩) (by rw [bU];lia) (by rw [bM];lia) (.inl ?_) dr
  simp;lia
 dsimp only;unfold rn;refine bn (iI (P:=(way<7/\0<many/\(i:Int)<(aq rs).length/\True)) (fA (iF (ak rfl) bw) fun _=>fA (pV (ak rfl) bw) fun _=>fA (iF (ak rfl) (d_ (ak rfl))) fun hi=>?_) (fun c=>?_) ?_)
 ·rw [bb] at hi
  obtain ⟨r,hr⟩:∃r,rs[i]?=some r:=⟨rs[i]'(by lia),List.getElem?_eq_getElem (by lia)⟩
  have okr:eG names m many r:=by
   have:=tk.2;rw [List.drop_eq_getElem_cons (by lia)] at this
   rw [List.getElem?_eq_getElem (by lia),Option.some.injEq] at hr
   rw [<- hr];exact this.1
  have e:atI (aq rs) (i:Int)=some (.tup (.str (da r)::.str (gK r)::zT r)):=by rw [<- gn];exact w8 (by rw [cP,List.getElem?_map,hr];rfl)
  exact fun K q1 q2=>pY okr (cF (cF (ak rfl) (ak rfl) e) bw (by rw [atI_0];rfl)) K (fun _=>q1 trivial) q2
 ·have hm:=c.2.1
  have hi:=c.2.2.1;rw [bb] at hi;refine fk (aX (ag (ak rfl) (ag (ak rfl) (ag (ak rfl) (ag (cE (cE (dm (fG (k:=i) (ak rfl) (ak rfl))) (aX (ag (aX (ag bw (ag (cF (ak rfl) bw ex0) (ag (ak rfl) aE))) (by simp)) aE) (by simp)) (by rw [cN,bb];simp;lia)) (dm (j0 (k:=i+1) (ak rfl) (g7 (ak rfl)))) (by rw [cN,dG];simp [bb];lia)) (ag (ak rfl) aE))))) (by simp)) ?_
  have e1:[D.tup [.str (Str.ofString "pick"),.str x0,.str mk]]=aq [.pick x0 mk]:=rfl;rw [cN,dG,e1,<- bA,<- bA];show G.rt _ _;rw [hrt];refine fin _ M2 (OkRs_append.mpr ⟨OkRs_append.mpr ⟨tk.1,⟨hx0,mkm,hm⟩,trivial⟩,tk1.2⟩) (by simp only [bU,cr,hR];lia) (by simp only [bM,cRs,cR];lia) (.inr ⟨.pick x0 mk,by simp,rfl⟩) dr
 ·dsimp only
  unfold qi;refine fk (aX (ag (ak rfl) (ag (ak rfl) (ag (ak rfl) (ag (cE (cE (dm (fG (k:=i) (ak rfl) (ak rfl))) (aX (ag (aX (ag bw (ag (cF (ak rfl) bw ex0) (ag bw aE))) (by simp)) aE) (by simp)) (by rw [cN,bb];simp;lia)) (dm (j0 (k:=i) (ak rfl) (ak rfl))) (by rw [cN,dG];simp [bb];lia)) (ag (ak rfl) aE))))) (by simp)) ?_
  have e1:[D.tup [.str (Str.ofString "put"),.str x0,.int 0]]=aq [.put x0 0]:=rfl;have m2:=pg.m2;rw [cN,dG,e1,<- bA,<- bA];show G.rt _ _;rw [hrt];refine fin _ M2 (OkRs_append.mpr ⟨OkRs_append.mpr ⟨tk.1,⟨hx0,by lia,by lia⟩,trivial⟩,tk.2⟩) (by simp only [bU,cr,hR];lia) (by simp only [bM,cRs,cR];lia) (.inl ?_) dr
  simp;lia
end
end Tw
namespace Tw
open PySem L2 L3 LS
section
variable {ad:Ad}{M N:Mem}{Q:DK}{E:DX}{k:Pt}{m many:Int}{names:List Str}{n:Nat}{n1 n2:Rw}
structure News(names:List Str)(m many:Int)(n1 n2:Rw):Prop where
 o1:eG names m many n1
 o2:eG names m many n2
 no:dP n1 n2=false
 h:hR n1<=1
 c:cR n1=1
structure Both(names:List Str)(m many:Int)(rs rs2 os2:List Rw):Prop where
 o1:bX names m many rs2
 o2:bX names m many os2
 no:b_ rs2 os2=false
 h:cr rs2<=cr rs+1
 c:cRs rs2<=cRs rs+1
def D6(ad:Ad)(k:Pt)(names:List Str)(m many:Int)(n1 n2:Rw)(n:Nat):Prop:=∀(rs os:List Rw) (deep:Int) (M:Mem) (Q:DK) (E:DX),bX names m many rs->bX names m many os->b_ rs os=true->cr rs+1<=n->cr rs<=10->cRs rs<=60->Has k M->
 (∀rs2 os2 M',Both names m many rs rs2 os2->Dr k M M'->Q (.tup [.tup (aq rs2),.tup (aq os2)]) M')->S_q5 ad n [.ref k.p,.tup [.tup (aq rs),.tup (aq os)],.tup [n1.d,n2.d],.int deep] M Q E
theorem lI(ih:D6 ad k names m many n1 n2 n){EE:DX}{D0:DEnds}{c1 c4 c5 c6 c10 c11:Option D}{deep:Int}{xs ys:List D}{p p':List Rw}{i:Nat}(hx:xs[i]?=some (.tup (aq p)))(hy:ys[i]?=some (.tup (aq p')))(hxl:xs.length<=10)(hyl:ys.length<=10)
  (ok:bX names m many p) (ok':bX names m many p') (oo:b_ p p'=true) (hn:cr p+1<=n) (hh:cr p<=10) (hc:cRs p<=60) (hp:Has k N)
  (h:∀p2 p2' N' c10 c11,Both names m many p p2 p2'->Dr k N N'->D0.nx [some (.ref k.p),c1,some (.tup [n1.d,n2.d]),some (.int deep),c4,c5,c6,some (.tup (xs.take i++[.tup (aq p2)]++xs.drop (i+1))),some (.tup (ys.take i++[.tup (aq p2')]++ys.drop (i+1))),some (.int (i:Nat)),c10,c11] N'):
  o_ ad (S_q5 ad n) EE D0 [some (.ref k.p),c1,some (.tup [n1.d,n2.d]),some (.int deep),c4,c5,c6,some (.tup xs),some (.tup ys),some (.int (i:Nat)),c10,c11] N:=by
 unfold o_;generalize hK3:pK ad (S_q5 ad n) EE=K3;refine bn ?_;simp only [aK,au,ax];refine ag (ak rfl) (ag (aX (ag (cF (ak rfl) (ak rfl) (w8 hx)) (ag (cF (ak rfl) (ak rfl) (w8 hy)) aE)) (by simp)) (ag (ak rfl) (ag (lN (ak rfl) bw) aE))) _ ⟨rfl,aT fun Q' E' hq _=>ih p p' _ N Q' E' ok ok' oo hn hh hc hp fun p2 p2' N' bo d=>hq _ _ ?_⟩
 simp only [frz,dl,bp,dj,am,List.set,List.length_cons,List.length_nil];refine ⟨trivial,?_⟩;rw [<- hK3];unfold pK;refine bn (ff (dm (cE (cE (dm (fG (ak rfl) (ak rfl))) (aX (ag (ak rfl) aE) (by simp)) (by simp;lia)) (dm (j0 (k:=i+1) (ak rfl) (g7 (ak rfl)))) (by simp;lia))) ?_)
 dsimp only;unfold tW;exact ff (dm (cE (cE (dm (fG (ak rfl) (ak rfl))) (aX (ag (ak rfl) aE) (by simp)) (by simp;lia)) (dm (j0 (k:=i+1) (ak rfl) (g7 (ak rfl)))) (by simp;lia))) (h p2 p2' N' _ _ bo d)
theorem Bu(ih:D6 ad k names m many n1 n2 n){EE:DX}{D0:DEnds}{c1 c4 c5 c6 c9 c10 c11:Option D}{deep:Int}{r o:Rw}(ok:eG names m many r)(ok':eG names m many o)(oo:dP r o=true)(hb:bN r=true)(hn:hR r<=n)(hh:hR r<=10)(hc:cR r<=60)(hp:Has k N)
  (h:∀r2 o2 N' c9 c10 c11,eG names m many r2->eG names m many o2->dP r2 o2=false->hR r2<=hR r+1->cR r2<=cR r+1->Dr k N N'->D0.nx [some (.ref k.p),c1,some (.tup [n1.d,n2.d]),some (.int deep),c4,c5,c6,some r2.d,some o2.d,c9,c10,c11] N'):
  oM ad (S_q5 ad n) EE D0 [some (.ref k.p),c1,some (.tup [n1.d,n2.d]),some (.int deep),c4,c5,c6,some r.d,some o.d,c9,c10,c11] N:=by
 unfold oM;refine bn ?_;cases r with
 |ifr x a b=>
  cases o with
  |ifr y a' b'=>
   simp only [dP,Bool.and_eq_true] at oo;obtain ⟨oz,oa,ob⟩:=oo;have:=of_decide_eq_true oz;subst this;simp only [hR,cR] at hn hh hc;have hl:Ev (aA kG (c_ cO (ac (ae 7) ai)) (dC (.int 2))) [some (.ref k.p),c1,some (.tup [n1.d,n2.d]),some (.int deep),c4,c5,c6,some (Rw.ifr x a b).d,some (Rw.ifr x a' b').d,c9,c10,c11] N (.int 2):=fun K q=>d_ (xs:=[.str (Str.ofString "if"),.str x,.tup (aq a),.tup (aq b)]) (ak rfl) _ q;refine fc rfl hl hp (by decide) (by decide) fun q N1 q0 q1 d1=>?_
   have:q=0\/q=1:=by lia
   rcases this with rfl|rfl
   ·refine lI ih (xs:=[.str (Str.ofString "if"),.str x,.tup (aq a),.tup (aq b)]) (ys:=[.str (Str.ofString "if"),.str x,.tup (aq a'),.tup (aq b')]) (i:=2) rfl rfl (by simp) (by simp) ok.2.1 ok'.2.1 oa (by lia) (by lia) (by lia) d1.1 fun p2 p2' N' c10 c11 bo d=>?_
    have h1:=bo.h;have h2:=bo.c;exact h (.ifr x p2 b) (.ifr x p2' b') N' _ _ _ ⟨ok.1,bo.o1,ok.2.2⟩ ⟨ok.1,bo.o2,ok'.2.2⟩ (by simp [dP,bo.no]) (by simp only [hR];lia) (by simp only [cR];lia) (d1.trans d)
   ·refine lI ih (xs:=[.str (Str.ofString "if"),.str x,.tup (aq a),.tup (aq b)]) (ys:=[.str (Str.ofString "if"),.str x,.tup (aq a'),.tup (aq b')]) (i:=3) rfl rfl (by simp) (by simp) ok.2.2 ok'.2.2 ob (by lia) (by lia) (by lia) d1.1 fun p2 p2' N' c10 c11 bo d=>?_
    have h1:=bo.h;have h2:=bo.c;exact h (.ifr x a p2) (.ifr x a' p2') N' _ _ _ ⟨ok.1,ok.2.1,bo.o1⟩ ⟨ok.1,ok'.2.1,bo.o2⟩ (by simp [dP,bo.no]) (by simp only [hR];lia) (by simp only [cR];lia) (d1.trans d)
  |_=>simp [dP] at oo
 |again x a=>
  cases o with
  |again y a'=>
   simp only [dP,Bool.and_eq_true] at oo;obtain ⟨oz,oa⟩:=oo;have:=of_decide_eq_true oz;subst this;simp only [hR,cR] at hn hh hc;have hl:Ev (aA kG (c_ cO (ac (ae 7) ai)) (dC (.int 2))) [some (.ref k.p),c1,some (.tup [n1.d,n2.d]),some (.int deep),c4,c5,c6,some (Rw.again x a).d,some (Rw.again x a').d,c9,c10,c11] N (.int 1):=fun K q=>d_ (xs:=[.str (Str.ofString "again"),.str x,.tup (aq a)]) (ak rfl) _ q;refine fc rfl hl hp (by decide) (by decide) fun q N1 q0 q1 d1=>?_
   have:q=0:=by lia
   subst this;refine lI ih (xs:=[.str (Str.ofString "again"),.str x,.tup (aq a)]) (ys:=[.str (Str.ofString "again"),.str x,.tup (aq a')]) (i:=2) rfl rfl (by simp) (by simp) ok.2 ok'.2 oa (by lia) (by lia) (by lia) d1.1 fun p2 p2' N' c10 c11 bo d=>?_
   have h1:=bo.h;have h2:=bo.c;exact h (.again x p2) (.again x p2') N' _ _ _ ⟨ok.1,bo.o1⟩ ⟨ok.1,bo.o2⟩ (by simp [dP,bo.no]) (by simp only [hR];lia) (by simp only [cR];lia) (d1.trans d)
  |_=>simp [dP] at oo
 |_=>cases hb
theorem nr{a:cj}{δ:Dl}{r:Rw}(ok:eG names m many r)(h:Ev a δ M (.str (da r))){K:Bool->Mem->Prop}(q:K (bN r) M):aB (aA zw a (au (bT (ac (dC (.str "if")) (ac (dC (.str "again")) ai))))) δ M K:=by
 simp only [aB,aA];exact h _ (iJ (ag bw (ag bw aE)) (by simp) _ (vC ok q))
theorem xo(nw:News names m many n1 n2)(ih:D6 ad k names m many n1 n2 n):D6 ad k names m many n1 n2 (n+1):=by
 intro rs os deep M Q E ok ok' oo hn hh hc hp h;rw [u_q5 (n:=n)];unfold v_;refine bn ?_;simp only [aK,ae,dl,bp,dj,am,List.set,List.length_cons,List.length_nil,List.getElem?_cons_succ,List.getElem?_cons_zero];refine ⟨trivial,?_⟩;generalize hG:({ nx:=fun _ M'=>drp Q .non M',rt:=drp Q }:DEnds)=G;have hrt:G.rt=drp Q:=by rw [<- hG]
 have ret:∀rs2 os2 M',Both names m many rs rs2 os2->Dr k M M'->G.rt (.tup [.tup (aq rs2),.tup (aq os2)]) M':=fun rs2 os2 M' b d=>by rw [hrt];exact br (h rs2 os2 M' b d)
 have nd:=nw.h;have nc:=nw.c;unfold qE;refine bn ?_;have fr:=jH rs 59 (by lia)
 cases rs with
 |nil=>
  simp only [bz,aB,aA,ae,aU,ai,aq,dN,dv,cB,cG,bq,dH,List.getElem?_cons_succ,List.getElem?_cons_zero];refine ⟨ci (by simp),trivial,trivial,?_⟩
  rw [if_pos trivial];unfold uD;exact fk (aX (ag (fG (k:=1) (ak rfl) bw) (ag (j0 (k:=1) (ak rfl) bw) aE)) (by simp)) (ret [n1] [n2] M ⟨⟨nw.o1,trivial⟩,⟨nw.o2,trivial⟩,by simp [b_,nw.no],by simp [cr];lia,by simp [cRs];lia⟩ hp.refl)
 |cons r0 rs0=>
  have ne:dH (aq (r0::rs0)) []=false:=by simp [aq,dH]
  generalize hrs:r0::rs0=rs at *;have hpos:0<rs.length:=by rw [<- hrs];simp
  clear hrs;simp only [bz,aB,aA,ae,aU,ai,dN,dv,cB,cG,bq,ne,fr,List.getElem?_cons_succ,List.getElem?_cons_zero];refine ⟨ci (by simp),trivial,trivial,?_⟩
  rw [if_neg (by simp)]
  unfold bg;dsimp only;unfold q_;have lc:=gb (rs:=rs);refine bn (fc rfl (d_ (ak rfl)) hp (by rw [bb];lia) (by rw [bb];lia) fun at_ M1 a1 b1 d1=>?_)
  obtain ⟨i,rfl⟩:=Int.eq_ofNat_of_zero_le a1;rw [bb] at b1;have ll:=et oo;obtain ⟨r,hr⟩:∃r,rs[i]?=some r:=⟨rs[i]'(by lia),List.getElem?_eq_getElem (by lia)⟩
  obtain ⟨o,ho⟩:∃o,os[i]?=some o:=⟨os[i]'(by lia),List.getElem?_eq_getElem (by lia)⟩
  obtain ⟨a,b,rfl,la⟩:∃a b,rs=a++r::b/\a.length=i:=⟨rs.take i,rs.drop (i+1),by
   rw [List.getElem?_eq_getElem (by lia),Option.some.injEq] at hr
   rw [<- hr,List.getElem_cons_drop,List.take_append_drop],by simp;lia⟩
  obtain ⟨a',b',rfl,la'⟩:∃a b,os=a++o::b/\a.length=i:=⟨os.take i,os.drop (i+1),by
   rw [List.getElem?_eq_getElem (by lia),Option.some.injEq] at ho
   rw [<- ho,List.getElem_cons_drop,List.take_append_drop],by simp;lia⟩
  rw [OkRs_append] at ok ok';rw [fL (la.trans la'.symm),Bool.and_eq_true] at oo;obtain ⟨oa,ob⟩:=oo;simp only [b_,Bool.and_eq_true] at ob;simp only [bU,cr] at hn hh;simp only [bM,cRs] at hc lc;have er:atI (aq (a++r::b)) (i:Int)=some r.d:=w8 (by rw [cP,List.getElem?_map,hr];rfl)
  have eo:atI (aq (a'++o::b')) (i:Int)=some o.d:=w8 (by rw [cP,List.getElem?_map,ho];rfl)
  simp only [am,List.set];unfold qo;refine bn (ff (cF (ak rfl) (ak rfl) er) ?_);dsimp only;unfold uv;refine bn (ff (cF (ak rfl) (ak rfl) eo) ?_);simp only [List.set]
  -- the end
  have fin:∀(r2 o2:Rw) (N':Mem) (c9 c10 c11:Option D),eG names m many r2->eG names m many o2->dP r2 o2=false->hR r2<=hR r+1->cR r2<=cR r+1->Dr k M N'->lF ad (S_q5 ad n) (bV E) G [some (.ref k.p),some (.tup [.tup (aq (a++r::b)),.tup (aq (a'++o::b'))]),some (.tup [n1.d,n2.d]),some (.int deep),some (.tup (aq (a++r::b))),some (.tup (aq (a'++o::b'))),some (.int (i:Nat)),some r2.d,some o2.d,c9,c10,c11] N':=fun r2 o2 N' c9 c10 c11 k1 k2 k3 k4 k5 d=>by
   have tk:∀(u v:List Rw) (w:Rw),u.length=i->(aq (u++w::v)).take i=aq u:=fun u v w e=>by rw [cN,<- e,List.take_left]
   have dk:∀(u v:List Rw) (w:Rw),u.length=i->(aq (u++w::v)).drop (i+1)=aq v:=fun u v w e=>by rw [dG,<- e];simp
   have l1:(aq (a++r::b)).length<=100:=by rw [bb];lia
   have l2:(aq (a'++o::b')).length<=100:=by rw [bb,<- ll];lia
   unfold lF;refine fk (aX (ag (cE (cE (dm (fG (ak rfl) (ak rfl))) (aX (ag (ak rfl) aE) (by simp)) (by simp;lia)) (dm (j0 (k:=i+1) (ak rfl) (g7 (ak rfl)))) (by simp;lia)) (ag (cE (cE (dm (fG (ak rfl) (ak rfl))) (aX (ag (ak rfl) aE) (by simp)) (by simp;lia)) (dm (j0 (k:=i+1) (ak rfl) (g7 (ak rfl)))) (by simp;lia)) aE)) (by simp)) ?_
   rw [tk a b r la,dk a b r la,tk a' b' o la',dk a' b' o la'];have e1:∀w:Rw,[w.d]=aq [w]:=fun _=>rfl;rw [e1,e1,<- bA,<- bA,<- bA,<- bA];refine ret _ _ _ ⟨OkRs_append.mpr ⟨OkRs_append.mpr ⟨ok.1,k1,trivial⟩,ok.2.2⟩,OkRs_append.mpr ⟨OkRs_append.mpr ⟨ok'.1,k2,trivial⟩,ok'.2.2⟩,?_,?_,?_⟩ d
   ·rw [fL (by simp [la,la']),fL (la.trans la'.symm)]
    simp [b_,k3]
   ·simp only [bU,cr];lia
   ·simp only [bM,cRs];lia
  generalize hK7:lF ad (S_q5 ad n) (bV E)=K7 at fin;have nws:∀N',Dr k M N'->oW ad (S_q5 ad n) (bV E) { G with nx:=K7 G } [some (.ref k.p),some (.tup [.tup (aq (a++r::b)),.tup (aq (a'++o::b'))]),some (.tup [n1.d,n2.d]),some (.int deep),some (.tup (aq (a++r::b))),some (.tup (aq (a'++o::b'))),some (.int (i:Nat)),some r.d,some o.d,none,none,none] N':=fun N' d=>by
   unfold oW;simp only [aK,ae,dl,bp,dj,am,List.set,List.length_cons,List.length_nil,List.getElem?_cons_succ,List.getElem?_cons_zero];exact ⟨trivial,fin n1 n2 N' _ _ _ nw.o1 nw.o2 nw.no (by lia) (by have:1<=cR r:=(by cases r<;>simp [cR]<;>lia);lia) d⟩
  unfold vL;rw [hK7];refine bn ?_;simp only [bz,dA];refine nr ok.2.1 (cF (ak (congrArg (fun z=>some (some z)) (gn r))) bw (by rw [atI_0];rfl)) ?_
  cases hb:bN r with
  |false=>
   simp only [Bool.false_eq_true,if_false];exact nws M1 d1
  |true=>
   rw [if_pos rfl];refine iF (ak rfl) bw _ (fun _=>?_) ?_
   ·rw [if_pos rfl]
    simp only [aB,aA];refine fc rfl bw d1.1 (by decide) (by decide) fun q M2 _ _ d2=>?_
    simp only [dC,oF,y8];have d12:=d1.trans d2
    by_cases cq:0<q
    ·rw [decide_eq_true cq,if_pos rfl]
     exact Bu ih ok.2.1 ok'.2.1 ob.1 hb (by lia) (by lia) (by lia) d2.1 fun r2 o2 N' c9 c10 c11 k1 k2 k3 k4 k5 d=>fin r2 o2 N' _ _ _ k1 k2 k3 k4 k5 (d12.trans d)
    ·rw [decide_eq_false cq,if_neg (by simp)]
     exact nws M2 d12
   ·rw [if_neg (by simp),if_neg (by simp)]
    exact nws M1 d1
theorem u7(nw:News names m many n1 n2):∀n:Nat,D6 ad k names m many n1 n2 n
 |0=>fun _ _ _ _ _ _ _ _ _ h=>by lia
 |n+1=>xo nw (u7 nw n)
end
end Tw
namespace Tw
open PySem L2 L3 LS
section
variable {ad:Ad}{M N:Mem}{Q:DK}{E:DX}{k:Pt}{m many:Int}{names:List Str}{rs rs':List Rw}{mk:Str}{δ:Dl}
theorem zE{te:cj}{EE:DX}{K:DK}(h0:δ[0]?=some (some (.ref k.p)))(h3:∀M,Ev te δ M (.tup (names.map D.str)))(hp:Has k M)(pg:ToldOk names m many)(h:∀x M',x∈names->Dr k M M'->K (.str x) M'):
  aA bB te (au (ax (bE ad) EE 2 (ac (ae 0) (ac (c_ cO (ac te ai)) ai)))) δ M K:=by
 have n0:=pg.n0;have n1:=pg.n1;refine h3 M _ (fc h0 (d_ (h3 M)) hp (by simp;lia) (by simp;lia) fun r M' a b d=>?_)
 obtain ⟨x,hx,ex⟩:=gl (names:=names) a (by simpa using b)
 simp only [bB,bR,ex];exact h x M' hx d
theorem jo{a:cj}{t:gv}{K:List D->Mem->Prop}(h:a δ M fun x M1=>t δ M1 fun xs M2=>K (x::xs) M2):ac a t δ M K:=h
theorem tE{a b:cj}{K:DK}(h:a δ M fun x M1=>b δ M1 fun y M2=>bB x y M2 K):aA bB a b δ M K:=h
theorem sh(g:PlH m many names rs mk)(t:Tn names m many rs rs')(hp:Has k M)(h:∀rs2 os2 M',Both names m many rs rs2 os2->Dr k M M'->Q (.tup [bH m many names rs2 mk,bH m many names os2 mk]) M'):
  wQ ad [.ref k.p,bH m many names rs mk,bH m many names rs' mk] M Q E:=by
 have m2:=g.t.m2;have hh:=g.h;have hc:=g.c;have a1:∀r:List Rw,atI [D.int m,.tup (names.map D.str),.int many,.tup (aq r),.str mk] 1=some (.tup (names.map D.str)):=fun r=>by rw [atI_1];rfl
 have a2:∀r:List Rw,atI [D.int m,.tup (names.map D.str),.int many,.tup (aq r),.str mk] 2=some (.int many):=fun r=>by rw [atI_2];rfl
 have a3:∀r:List Rw,atI [D.int m,.tup (names.map D.str),.int many,.tup (aq r),.str mk] 3=some (.tup (aq r)):=fun r=>by rw [atI_3];rfl
 have a4:∀r:List Rw,atI [D.int m,.tup (names.map D.str),.int many,.tup (aq r),.str mk] 4=some (.str mk):=fun r=>by rw [atI_4];rfl
 rw [u_q3 (n:=0)];generalize hG:({ nx:=fun _ M'=>drp Q .non M',rt:=drp Q }:DEnds)=G;have hrt:G.rt=drp Q:=by rw [<- hG]
 unfold tK;refine bn (zE rfl (fun M=>cF (xs:=[D.int m,.tup (names.map D.str),.int many,.tup (aq rs),.str mk]) (ak rfl) bw (a1 _)) hp g.t fun x M1 hx d1=>?_);simp only [am,List.set];unfold ua;refine bn (zE rfl (fun M=>cF (xs:=[D.int m,.tup (names.map D.str),.int many,.tup (aq rs),.str mk]) (ak rfl) bw (a1 _)) d1.1 g.t fun y M2 hy d2=>?_);simp only [am,List.set];have d12:=d1.trans d2;have fin:∀(n1 n2:Rw) (c5:Option D) (N:Mem),News names m many n1 n2->Dr k M N->p7 ad (bV E) G [some (.ref k.p),some (bH m many names rs mk),some (bH m many names rs' mk),some (.str x),some (.str y),c5,some (.tup [n1.d,n2.d]),none,none] N:=fun n1 n2 c5 N nw d=>by
  unfold p7;refine bn ?_;simp only [aK,au,ax];refine ag (ak rfl) (ag (aX (ag (cF (xs:=[D.int m,.tup (names.map D.str),.int many,.tup (aq rs),.str mk]) (ak rfl) bw (a3 _)) (ag (cF (xs:=[D.int m,.tup (names.map D.str),.int many,.tup (aq rs'),.str mk]) (ak rfl) bw (a3 _)) aE)) (by simp)) (ag (ak rfl) (ag bw aE))) _ ⟨rfl,aT fun Q' E' hq _=>u7 nw 24 rs rs' 0 N Q' E' g.ok t.ok t.k (by lia) (by lia) (by lia) d.1 fun rs2 os2 N' b d'=>hq _ _ ?_⟩
  simp only [frz,dl,bp,dj,am,List.set,List.length_cons,List.length_nil];refine ⟨trivial,?_⟩;unfold vY;refine fk (aX (ag (cE (dm (fG (xs:=[D.int m,.tup (names.map D.str),.int many,.tup (aq rs),.str mk]) (k:=3) (ak rfl) bw)) (aX (ag (ak rfl) (ag (cF (xs:=[D.int m,.tup (names.map D.str),.int many,.tup (aq rs),.str mk]) (ak rfl) bw (a4 _)) aE)) (by simp)) (by simp)) (ag (cE (dm (fG (xs:=[D.int m,.tup (names.map D.str),.int many,.tup (aq rs'),.str mk]) (k:=3) (ak rfl) bw)) (aX (ag (ak rfl) (ag (cF (xs:=[D.int m,.tup (names.map D.str),.int many,.tup (aq rs'),.str mk]) (ak rfl) bw (a4 _)) aE)) (by simp)) (by simp)) aE)) (by simp)) ?_
  rw [hrt];exact br (h rs2 os2 N' b (d.trans d'))
 unfold s_;refine bn (ff (iJ (ag (aX (ag bw (ag (ak rfl) (ag (aX aE (by simp)) aE))) (by simp)) (ag (aX (ag bw (ag (ak rfl) (ag bw aE))) (by simp)) (ag (aX (ag bw (ag (ak rfl) (ag (aX (ag (aX (ag bw (ag (ak rfl) (ag bw aE))) (by simp)) aE) (by simp)) (ag (aX aE (by simp)) aE)))) (by simp)) (ag (aX (ag bw (ag (ak rfl) (ag (aX aE (by simp)) (ag (aX (ag (aX (ag bw (ag (ak rfl) (ag bw aE))) (by simp)) aE) (by simp)) aE)))) (by simp)) aE)))) (by simp)) ?_)
 dsimp only;simp only [List.set];unfold uU;refine bn ?_;simp only [aK,aU];refine aX (ag bw (ag (ak rfl) (ag (aX aE (by simp)) (ag (aX aE (by simp)) aE)))) (by simp) _ ?_
 refine jo (tE (ak rfl _ (fc rfl bw d2.1 (by decide) (by decide) fun q M3 q0 q1 d3=>?_)))
 have d13:=d12.trans d3;obtain ⟨n2,e2,nw⟩:∃n2:Rw,atI [(Rw.again x []).d,(Rw.put x 0).d,(Rw.ifr x [.put y 1] []).d,(Rw.ifr x [] [.put y 1]).d] q=some n2.d/\News names m many (.ifr x [] []) n2:=by
  have:q=0\/q=1\/q=2\/q=3:=by lia
  have p1:eG names m many (.put y 1):=⟨hy,by lia,by lia⟩
  have o1:eG names m many (.ifr x [] []):=⟨hx,trivial,trivial⟩;rcases this with rfl|rfl|rfl|rfl
  ·exact ⟨.again x [],by rw [atI_0];rfl,o1,⟨hx,trivial⟩,rfl,by simp [hR,cr],rfl⟩
  ·exact ⟨.put x 0,by rw [atI_1];rfl,o1,⟨hx,by lia,by lia⟩,rfl,by simp [hR,cr],rfl⟩
  ·exact ⟨.ifr x [.put y 1] [],by rw [atI_2];rfl,o1,⟨hx,⟨p1,trivial⟩,trivial⟩,by simp [dP,b_],by simp [hR,cr],rfl⟩
  ·exact ⟨.ifr x [] [.put y 1],by rw [atI_3];rfl,o1,⟨hx,trivial,p1,trivial⟩,by simp [dP,b_],by simp [hR,cr],rfl⟩
 have e2':atI [D.tup [.str (Str.ofString "again"),.str x,.tup []],.tup [.str (Str.ofString "put"),.str x,.int 0],.tup [.str (Str.ofString "if"),.str x,.tup [.tup [.str (Str.ofString "put"),.str y,.int 1]],.tup []],.tup [.str (Str.ofString "if"),.str x,.tup [],.tup [.tup [.str (Str.ofString "put"),.str y,.int 1]]]] q=some n2.d:=e2;simp only [bB,bR,e2',ai,am,List.set];refine ⟨ci (by simp),?_⟩
 unfold tX;refine bn ?_;simp only [bz,dA];refine pV (cF (xs:=[D.int m,.tup (names.map D.str),.int many,.tup (aq rs),.str mk]) (ak rfl) bw (a2 _)) bw _ (fun hm=>?_) ?_
 ·rw [if_pos rfl]
  simp only [aB,aA];refine fc rfl bw d3.1 (by decide) (by decide) fun z M4 _ _ d4=>?_
  simp only [dC,dN,dv,cB,bq];refine ⟨trivial,trivial,?_⟩
  by_cases cz:z=0
  ·rw [decide_eq_true cz,if_pos rfl]
   unfold tH;exact ff (aX (ag (aX (ag bw (ag (ak rfl) (ag (ak rfl) aE))) (by simp)) (ag (aX (ag bw (ag (ak rfl) (ag (ak rfl) aE))) (by simp)) aE)) (by simp)) (fin (.pick x y) (.pick x y) _ M4 ⟨⟨hx,hy,hm⟩,⟨hx,hy,hm⟩,rfl,by simp [hR,cr],rfl⟩ (d13.trans d4))
  ·rw [decide_eq_false cz,if_neg (by simp)]
   unfold bg;exact fin (.ifr x [] []) n2 _ M4 nw (d13.trans d4)
 ·rw [if_neg (by simp),if_neg (by simp)]
  unfold bg;exact fin (.ifr x [] []) n2 _ M3 nw d13
end
end Tw
namespace Tw
open PySem L2 L3 LS
section
variable {ad:Ad}{M N:Mem}{Q:DK}{E:DX}{k:Pt}{m many:Int}{names:List Str}{rs rs':List Rw}{mk:Str}{δ:Dl}{r o:Rw}
def Pz(mk:Str)(p:List Rw):Prop:=p=[]\/p=[.put mk 1]
structure Six(names:List Str)(m many:Int)(mk:Str)(r:Rw):Prop where
 ok:eG names m many r
 s:r=.put mk 0\/(bN r=true/\∀p∈gJ r,Pz mk p)
 h:hR r<=1
 c:cR r<=3
def oy(r:Rw):List Nat:=(gJ r).map List.length
theorem uS{p q:List Rw}(hp:Pz mk p)(hq:Pz mk q):b_ p q=decide (p.length=q.length)/\(p.length=q.length->p=q):=by
 rcases hp with rfl|rfl<;>rcases hq with rfl|rfl
 ·exact ⟨rfl,fun _=>rfl⟩
 ·exact ⟨rfl,fun h=>by simp at h⟩
 ·exact ⟨rfl,fun h=>by simp at h⟩
 ·exact ⟨rfl,fun _=>rfl⟩
theorem qx(s1:Six names m many mk r)(s2:Six names m many mk o)(b1:bN r=true)(b2:bN o=true)(hw:da r=da o)(hn:gK r=gK o):dP r o=decide (oy r=oy o)/\(oy r=oy o->r=o):=by
 have p1:∀p∈gJ r,Pz mk p:=s1.s.elim (fun e=>by rw [e] at b1;cases b1) (·.2)
 have p2:∀p∈gJ o,Pz mk p:=s2.s.elim (fun e=>by rw [e] at b2;cases b2) (·.2)
 have i1:=ir s1.ok;have i2:=ir s2.ok;rw [hw] at i1;rw [i1] at i2;cases r with
 |ifr x a b=>
  cases o with
  |ifr y a' b'=>
   have:x=y:=hn;subst this;obtain ⟨e1,f1⟩:=uS (p1 a (by simp [gJ])) (p2 a' (by simp [gJ]))
   obtain ⟨e2,f2⟩:=uS (p1 b (by simp [gJ])) (p2 b' (by simp [gJ]))
   simp only [dP,e1,e2,oy,gJ,List.map_cons,List.map_nil,List.cons.injEq,and_true,Bool.decide_and,decide_true,Bool.true_and];exact ⟨trivial,fun z=>by rw [f1 z.1,f2 z.2]⟩
  |again y a'=>cases i2
  |_=>cases b2
 |again x a=>
  cases o with
  |again y a'=>
   have:x=y:=hn;subst this;obtain ⟨e1,f1⟩:=uS (p1 a (by simp [gJ])) (p2 a' (by simp [gJ]))
   simp only [dP,e1,oy,gJ,List.map_cons,List.map_nil,List.cons.injEq,and_true,decide_true,Bool.true_and];exact ⟨trivial,fun z=>by rw [f1 z]⟩
  |ifr y a' b'=>cases i2
  |_=>cases b2
 |_=>cases b1
theorem uM(s1:Six names m many mk r)(s2:Six names m many mk o)(h:¬(da r=da o/\gK r=gK o)):dP r o=false:=by
 rcases s1.s with rfl|⟨b1,_⟩
 ·rcases s2.s with rfl|⟨b2,_⟩
  ·exact absurd ⟨rfl,rfl⟩ h
  ·rw [hW rfl,b2];simp
 ·cases r with
  |ifr x a b=>
   cases o with
   |ifr y a' b'=>simp only [dP];rw [decide_eq_false (p:=x=y) (fun z=>h ⟨rfl,z⟩)];rfl
   |_=>rfl
  |again x a=>
   cases o with
   |again y a'=>simp only [dP];rw [decide_eq_false (p:=x=y) (fun z=>h ⟨rfl,z⟩)];rfl
   |_=>rfl
  |_=>cases b1
theorem v9(s1:Six names m many mk r)(s2:Six names m many mk o)(h:dP r o=true):r=o:=by
 by_cases c:da r=da o/\gK r=gK o
 ·rcases s1.s with rfl|⟨b1,_⟩
  ·rcases s2.s with rfl|⟨b2,_⟩
   ·rfl
   ·rw [hW rfl,b2] at h;simp at h
  ·rcases s2.s with rfl|⟨b2,_⟩
   ·rw [lL,hW rfl,b1] at h;simp at h
   ·obtain ⟨e,f⟩:=qx s1 s2 b1 b2 c.1 c.2
    rw [e] at h;exact f (of_decide_eq_true h)
 ·rw [uM s1 s2 c] at h;cases h
theorem tZ{K:DK}{i:Nat}(hi:δ[i]?=some (some r.d))(hb:bN r=true)(h:K (.lst ((oy r).map fun n:Nat=>D.int n)) M):
  au (dE (ft (au (dw (ae i) (bi (dC (.int 2))) aD))) ["rest"] [] (am 0) kz (c_ cO (ac (ae 0) ai))) δ M K:=by
 rw [gn,zk hb] at hi;have e2:∀(a b:D) (l:List D),fv (a::b::l) (some 2) none=l:=fun a b l=>lQ (k:=2);have hl:(gJ r).length<=2:=by cases r<;>simp [gJ]
 unfold oy at h;generalize gJ r=ps at *;simp only [au,dE,ft,dw,ae,bi,aD,dC,hi,pQ,e2,frz,bR,cT];refine cM (fun ys acc δ M'=>∃(us zs:List (List Rw)) (c0:Option D),ps=us++zs/\ys=(zs.map fun a=>D.tup (aq a))/\acc=((us.map List.length).map fun n:Nat=>D.int n)/\δ=[c0]/\M=M') (fun _ _ _ _ _=>cA) ?_ ?_ ?_ _ _ _ _ ⟨[],ps,none,rfl,rfl,rfl,rfl,rfl⟩
 ·rintro acc δ M' ⟨us,zs,c0,e1,e2,rfl,rfl,rfl⟩ p hp
  have ez:zs=[]:=by simpa using e2.symm
  subst ez;rw [List.append_nil] at e1;subst e1;exact fh hp h
 ·rintro y ys acc δ M' ⟨us,zs,c0,e1,e2,rfl,rfl,rfl⟩ N hN1 hN2
  cases zs with
  |nil=>simp at e2
  |cons z zs=>
   simp only [List.map_cons,List.cons.injEq] at e2;obtain ⟨rfl,rfl⟩:=e2;have hl2:=congrArg List.length e1;simp only [List.length_append,List.length_cons] at hl2;simp only [am,List.set,kz,if_true];exact d_ (ak rfl) _ (hN1 _ _ _ (by simp;exact kD (by lia)) ⟨us++[z],zs,_,by rw [e1];simp,rfl,by simp [bb],rfl,rfl⟩)
 ·rintro y ys acc δ M' ⟨us,zs,c0,e1,e2,rfl,rfl,rfl⟩
  have hl2:=congrArg List.length e1;simp only [List.length_append] at hl2;simp;exact kD (by lia)
theorem nv:∀a b:List Nat,dH (a.map fun n:Nat=>D.int n) (b.map fun n:Nat=>D.int n)=decide (a=b)
 |[],[]=>rfl
 |[],_::_=>rfl
 |_::_,[]=>rfl
 |x::a,y::b=>by
  simp only [List.map_cons,dH,bq,nv a b,List.cons.injEq,Bool.decide_and,Int.ofNat_inj]
theorem jy(n:Nat):∀a:List Nat,cG n (a.map fun n:Nat=>D.int n)=true
 |[]=>rfl
 |x::a=>by simp only [List.map_cons,cG,cB,jy n a,Bool.and_self]
theorem wu{EE:DX}{D0:DEnds}{c0 c1 c2 c3 c4 c5 c6 c7 c8 c11:Option D}(s1:Six names m many mk r)(s2:Six names m many mk o)
  (h:pS ad EE D0 [c0,c1,c2,c3,c4,c5,c6,c7,c8,some r.d,some o.d,some (.bl (dP r o))] M):
  p9 ad EE D0 [c0,c1,c2,c3,c4,c5,c6,c7,c8,some r.d,some o.d,c11] M:=by
 unfold p9;refine bn ?_;have ev9:∀c11,Ev (ae 9) [c0,c1,c2,c3,c4,c5,c6,c7,c8,some r.d,some o.d,c11] M (.tup (.str (da r)::.str (gK r)::zT r)):=fun c11=>ak (congrArg (fun z=>some (some z)) (gn r));have ev10:∀c11,Ev (ae 10) [c0,c1,c2,c3,c4,c5,c6,c7,c8,some r.d,some o.d,c11] M (.tup (.str (da o)::.str (gK o)::zT o)):=fun c11=>ak (congrArg (fun z=>some (some z)) (gn o));have first:Ev (aA dN (au (dw (ae 9) aD (bi (dC (.int 2))))) (au (dw (ae 10) aD (bi (dC (.int 2)))))) [c0,c1,c2,c3,c4,c5,c6,c7,c8,some r.d,some o.d,c11] M (.bl (decide (da r=da o)&&decide (gK r=gK o))):=fun K q=>dm (fG (k:=2) (ev9 _) bw) _ (dm (fG (k:=2) (ev10 _) bw) _ ⟨rfl,rfl,by
  simp only [List.take_succ_cons,List.take_zero,dv,bq,dH,Bool.and_true];exact q⟩)
 have third:∀b:Bool,(b=true->da r=da o/\gK r=gK o)->(b=false->dP r o=false)->pH ad EE D0 [c0,c1,c2,c3,c4,c5,c6,c7,c8,some r.d,some o.d,some (.bl b)] M:=fun b hb hb2=>by
  unfold pH;refine bn ?_;simp only [bz,dA];have tr:∀K:Bool->Mem->Prop,K b M->dM (ae 11) [c0,c1,c2,c3,c4,c5,c6,c7,c8,some r.d,some o.d,some (.bl b)] M K:=fun K q=>by
   simp only [dM,ae,xY,List.getElem?_cons_succ,List.getElem?_cons_zero];exact q
  refine tr _ ?_;cases b with
  |false=>
   simp only [Bool.false_eq_true,if_false];unfold bg;rw [hb2 rfl] at h;exact h
  |true=>
   obtain ⟨e1,e2⟩:=hb rfl;rw [if_pos rfl];refine nr s1.ok (cF (ev9 _) bw (by rw [atI_0];rfl)) ?_
   rcases s1.s with rfl|⟨b1,_⟩
   ·rw [if_neg (by simp [bN])]
    unfold bg;have:o=.put mk 0:=s2.s.elim id fun z=>by
     have:=ir s2.ok;have:=l0 s2.ok;cases o with
     |ifr x a b=>exact absurd e1 (by simp only [da];decide +kernel)
     |again x a=>exact absurd e1 (by simp only [da];decide +kernel)
     |_=>cases z.1
    subst this;exact h
   ·have b2:bN o=true:=s2.s.elim (fun e=>by
     subst e;cases r with
     |ifr x a b=>exact absurd e1 (by simp only [da];decide +kernel)
     |again x a=>exact absurd e1 (by simp only [da];decide +kernel)
     |_=>cases b1) (·.1)
    rw [if_pos b1];unfold u_;simp only [aK,aA];refine tZ rfl b1 (tZ rfl b2 ⟨jy _ _,jy _ _,?_⟩);simp only [dv,bq,nv,am,List.set];rw [<- (qx s1 s2 b1 b2 e1 e2).1];exact h
 simp only [aK,A2];refine first _ ?_
 by_cases c:da r=da o/\gK r=gK o
 ·rw [decide_eq_true c.1,decide_eq_true c.2]
  exact third true (fun _=>c) (fun z=>by cases z)
 ·have e0:(decide (da r=da o)&&decide (gK r=gK o))=false:=by rw [<- Bool.decide_and];exact decide_eq_false c
  rw [e0];have no:=uM s1 s2 c;simp only [oZ];refine cF (ev9 _) bw (by rw [atI_0];rfl) _ (cF (ev10 _) bw (by rw [atI_0];rfl) _ ⟨rfl,rfl,?_⟩)
  simp only [dv,bq]
  by_cases cw:da r=da o
  ·rw [decide_eq_true cw]
   refine bw _ ⟨rfl,rfl,?_⟩;simp only [dv,bq];have:decide (da o=Str.ofString "put")=false:=decide_eq_false fun z=>by
    rcases s2.s with rfl|⟨b2,_⟩
    ·rcases s1.s with rfl|⟨b1,_⟩
     ·exact c ⟨rfl,rfl⟩
     ·cases r with
      |ifr x a b=>exact absurd cw (by simp only [da];decide +kernel)
      |again x a=>exact absurd cw (by simp only [da];decide +kernel)
      |_=>cases b1
    ·cases o with
     |ifr x a b=>exact absurd z (by simp only [da];decide +kernel)
     |again x a=>exact absurd z (by simp only [da];decide +kernel)
     |_=>cases b2
   rw [this];exact third false (fun z=>by cases z) fun _=>no
  ·rw [decide_eq_false cw]
   exact third false (fun z=>by cases z) fun _=>no
end
end Tw
namespace Tw
open PySem L2 L3 LS
section
variable {ad:Ad}{M N:Mem}{Q:DK}{E:DX}{k:Pt}{m many:Int}{names:List Str}{rs rs':List Rw}{mk:Str}{δ:Dl}{r o:Rw}
theorem sO(h:ToldOk names m many):∃x∈names,atI (names.map D.str) (-1)=some (.str x):=by
 have h0:=h.n0;refine ⟨names[names.length-1]'(by lia),List.getElem_mem _,?_⟩
 unfold atI qh;rw [if_neg (by decide),if_pos (by simp;lia)]
 simp only [Option.bind_some,List.length_map];rw [show (-1+(names.length:Int)).toNat=names.length-1 by lia,List.getElem?_map,List.getElem?_eq_getElem (by lia)]
 rfl
theorem yL{a b:cj}{xs ys:List D}(h1:Ev a δ M (.lst xs))(h2:Ev b δ M (.lst ys))(hl:xs.length+ys.length<=10000):Ev (au (aA bD a b)) δ M (.lst (xs++ys)):=fun _ q=>h1 _ (h2 _ ⟨ci (by lia),fun _ hp=>fh hp q⟩)
theorem nB(g:PlH m many names rs mk)(hp:Has k M)(h:∀n1 n2 M',Six names m many mk n1->Six names m many mk n2->Dr k M M'->Q (.tup [bH m many names (n1::rs) mk,bH m many names (n2::rs) mk,.bl (dP n1 n2)]) M'):
  yw ad [.ref k.p,bH m many names rs mk] M Q E:=by
 have m2:=g.t.m2;have hc:=g.c;have lc:=gb (rs:=rs);obtain ⟨x0,hx0,ex0⟩:=zD g.t;obtain ⟨xl,hxl,exl⟩:=sO g.t;have p1:eG names m many (.put mk 1):=⟨g.mkm,by lia,by lia⟩
 have z0:Pz mk []:=.inl rfl;have z1:Pz mk [.put mk 1]:=.inr rfl;have six:∀q:Int,0<=q->q<6->∃r:Rw,atI [(Rw.ifr mk [.put mk 1] []).d,(Rw.again mk [.put mk 1]).d,(Rw.put mk 0).d,(Rw.ifr x0 [.put mk 1] [.put mk 1]).d,(Rw.again x0 []).d,(Rw.ifr xl [.put mk 1] []).d] q=some r.d/\Six names m many mk r:=fun q q0 q1=>by
  obtain ⟨i,rfl⟩:=Int.eq_ofNat_of_zero_le q0;have:i=0\/i=1\/i=2\/i=3\/i=4\/i=5:=by lia
  rcases this with rfl|rfl|rfl|rfl|rfl|rfl
  ·exact ⟨.ifr mk [.put mk 1] [],w8 rfl,⟨g.mkm,⟨p1,trivial⟩,trivial⟩,.inr ⟨rfl,by simp [gJ,z0,z1]⟩,by simp [hR,cr],by simp [cR,cRs]⟩
  ·exact ⟨.again mk [.put mk 1],w8 rfl,⟨g.mkm,p1,trivial⟩,.inr ⟨rfl,by simp [gJ,z1]⟩,by simp [hR,cr],by simp [cR,cRs]⟩
  ·exact ⟨.put mk 0,w8 rfl,⟨g.mkm,by lia,by lia⟩,.inl rfl,by simp [hR],by simp [cR]⟩
  ·exact ⟨.ifr x0 [.put mk 1] [.put mk 1],w8 rfl,⟨hx0,⟨p1,trivial⟩,⟨p1,trivial⟩⟩,.inr ⟨rfl,by simp [gJ,z1]⟩,by simp [hR,cr],by simp [cR,cRs]⟩
  ·exact ⟨.again x0 [],w8 rfl,⟨hx0,trivial⟩,.inr ⟨rfl,by simp [gJ,z0]⟩,by simp [hR,cr],by simp [cR,cRs]⟩
  ·exact ⟨.ifr xl [.put mk 1] [],w8 rfl,⟨hxl,⟨p1,trivial⟩,trivial⟩,.inr ⟨rfl,by simp [gJ,z0,z1]⟩,by simp [hR,cr],by simp [cR,cRs]⟩
 rw [u_q1 (n:=0)];generalize hG:({ nx:=fun _ M'=>drp Q .non M',rt:=drp Q }:DEnds)=G;have hrt:G.rt=drp Q:=by rw [<- hG]
 unfold sZ;refine bn ?_;simp only [aK,ae,bH,dl,bp,dj,am,List.set,List.length_cons,List.length_nil,List.getElem?_cons_succ,List.getElem?_cons_zero];refine ⟨trivial,?_⟩;unfold tV;refine bn (ff (aX (ag (aX (ag bw (ag (ak rfl) (ag bw aE))) (by simp)) aE) (by simp)) ?_)
 dsimp only;simp only [List.set];unfold vI;refine bn (ff (iJ (ag (aX (ag bw (ag (ak rfl) (ag (ak rfl) (ag (aX aE (by simp)) aE)))) (by simp)) (ag (aX (ag bw (ag (ak rfl) (ag (ak rfl) aE))) (by simp)) (ag (aX (ag bw (ag (ak rfl) (ag bw aE))) (by simp)) (ag (aX (ag bw (ag (cF (ak rfl) bw ex0) (ag (ak rfl) (ag (ak rfl) aE)))) (by simp)) aE)))) (by simp)) ?_)
 dsimp only;simp only [List.set];unfold w6;refine bn (ff (yL (ak rfl) (iJ (ag (aX (ag bw (ag (cF (ak rfl) bw ex0) (ag (aX aE (by simp)) aE))) (by simp)) (ag (aX (ag bw (ag (cF (ak rfl) (i:=-1) (fun _ q=>q) exl) (ag (ak rfl) (ag (aX aE (by simp)) aE)))) (by simp)) aE)) (by simp)) (by simp)) ?_)
 dsimp only;simp only [List.set,List.cons_append,List.nil_append];unfold uy;refine bn (tE (ak rfl _ (fc rfl bw hp (by decide) (by decide) fun q1 M1 q10 q11 d1=>?_)))
 obtain ⟨n1,e1,s1⟩:=six q1 q10 q11;have e1':bB (.lst [(Rw.ifr mk [.put mk 1] []).d,(Rw.again mk [.put mk 1]).d,(Rw.put mk 0).d,(Rw.ifr x0 [.put mk 1] [.put mk 1]).d,(Rw.again x0 []).d,(Rw.ifr xl [.put mk 1] []).d]) (.int q1) M1=fun K=>K n1.d M1:=by funext K;simp only [bB,bR,e1]
 refine (congrFun e1' _).mpr ?_;simp only [am,List.set];unfold u9;refine bn (tE (ak rfl _ (fc rfl bw d1.1 (by decide) (by decide) fun q2 M2 q20 q21 d2=>?_)))
 obtain ⟨n2,e2,s2⟩:=six q2 q20 q21;have e2':bB (.lst [(Rw.ifr mk [.put mk 1] []).d,(Rw.again mk [.put mk 1]).d,(Rw.put mk 0).d,(Rw.ifr x0 [.put mk 1] [.put mk 1]).d,(Rw.again x0 []).d,(Rw.ifr xl [.put mk 1] []).d]) (.int q2) M2=fun K=>K n2.d M2:=by funext K;simp only [bB,bR,e2]
 refine (congrFun e2' _).mpr ?_;simp only [am,List.set];refine wu s1 s2 ?_;unfold pS;refine fk (aX (ag (aX (ag (ak rfl) (ag (ak rfl) (ag (ak rfl) (ag (cE (aX (ag (ak rfl) aE) (by simp)) (ak rfl) (by simp [bb];lia)) (ag (ak rfl) aE))))) (by simp)) (ag (aX (ag (ak rfl) (ag (ak rfl) (ag (ak rfl) (ag (cE (aX (ag (ak rfl) aE) (by simp)) (ak rfl) (by simp [bb];lia)) (ag (ak rfl) aE))))) (by simp)) (ag (ak rfl) aE))) (by simp)) ?_
 rw [hrt];exact br (h n1 n2 M2 s1 s2 (d1.trans d2))
end
end Tw
namespace Tw
open PySem L2 L3 LS
theorem pT{n:Nat}{x:D}:wf 1 x->wf (n+1) x:=by
 intro h;cases x with
 |tup xs=>
  refine ⟨h.1,fun y hy=>?_⟩;have:=h.2 y hy;cases y<;>first|exact this.elim|(cases n<;>trivial)
 |lst xs=>
  refine ⟨h.1,fun y hy=>?_⟩;have:=h.2 y hy;cases y<;>first|exact this.elim|(cases n<;>trivial)
 |_=>first|trivial|exact h.elim
section
variable {ad:Ad}{M N:Mem}{Q:DK}{E EE:DX}{k:Pt}{m many:Int}{names:List Str}{rs os:List Rw}{mk:Str}{δ:Dl}{a b:cj}{D0:DEnds}
theorem BP{p:Addr}{A B:Int}{l:List Str}{r r':List Rw}{un:List D}{K:DK}(hp:M p=none)(h:K (.tup [bH A B l r mk,bH A B l r' mk,.lst un]) M):v7 (.tup [bH A B l r mk,bH A B l r' mk,.ref p]) (M.upd p (.lst un)) K:=by
 simp only [v7,frzs,bH,Mem.upd_same,Mem.upd_del,aW hp];exact h
abbrev Yes(t:gr)(δ:Dl)(M:Mem):Prop:=∀K:Bool->Mem->Prop,K true M->t δ M K
theorem t9{t u:gr}{A:aZ}(h1:Yes t δ M)(h2:Yes u δ M)(h:D0.nx δ M):bz (kI (gy t) (gy u)) A bg D0 δ M:=by
 simp only [bz,kI,gy];refine h1 _ ?_;simp only [Bool.not_true,Bool.false_eq_true,if_false];refine h2 _ ?_;simp only [Bool.not_true,Bool.false_eq_true,if_false];exact h
theorem alk{x y:D}(h1:Ev a δ M x)(h2:Ev b δ M y)(h:∀Q' E',Q' (.bl true) M->S_q12 ad 24 [x,y] M Q' E'):Yes (dM (au (ax (S_q12 ad 24) EE 2 (ac a (ac b ai))))) δ M:=fun K q=>by
 simp only [dM,au,ax];exact ag h1 (ag h2 aE) _ ⟨rfl,aT fun Q' E' hq _=>h Q' E' (hq _ _ q)⟩
theorem ve(h1:Ev a δ M (bH m many names rs mk))(h2:Ev b δ M (bH m many names os mk))(ok:bX names m many rs)(ok2:bX names m many os)(hh:cr rs<=10)(hc:cRs rs<=63)(e:b_ rs os=true):Ev (au (ax (j5 ad) EE 2 (ac a (ac b ai)))) δ M (.lst (mB rs os)):=fun K q=>by
 simp only [au,ax];exact ag h1 (ag h2 aE) _ ⟨rfl,aT fun Q' E' hq _=>eM ok ok2 hh hc (fun _ p hp=>hq _ _ (fh hp q)) fun z=>by rw [e] at z;cases z⟩
theorem qR(np:dO rs):mB rs rs=[]:=by unfold mB;rw [(ee rs [] 0 np).2];rfl
theorem AZ(e:b_ rs os=true):mB os rs=mB rs os:=by unfold mB;rw [e_ rs os [] 0 e]
def gL(ad:Ad)(A B:D):Prop:=∀(M:Mem) (Q:DK) (E:DX),E ad.C_NoBuild M->j5 ad [A,B] M Q E
theorem qO{m' many':Int}{names':List Str}{rs':List Rw}{mk':Str}(h:¬((m=m'/\names=names'/\many=many')/\mk=mk')):gL ad (bH m many names rs mk) (bH m' many' names' rs' mk'):=fun _ _ _ e=>mR h e
theorem lM(ok:bX names m many rs)(ok2:bX names m many os)(hh:cr rs<=10)(hc:cRs rs<=63)(e:b_ rs os=false):gL ad (bH m many names rs mk) (bH m many names os mk):=fun _ _ _ h=>eM ok ok2 hh hc (fun z=>by rw [e] at z;cases z) fun _=>h
theorem wL{rs':List Rw}{m2 many2:Int}{names2:List Str}{rs2:List Rw}{mk2:Str}(g:PlH m many names rs mk)(t:b_ rs rs'=true)(b:Bent m many names rs' mk m2 many2 names2 rs2 mk2):gL ad (bH m many names rs mk) (bH m2 many2 names2 rs2 mk2)/\gL ad (bH m2 many2 names2 rs2 mk2) (bH m many names rs mk):=by
 have hh:=g.h;have hc:=g.c;rcases b.b with z|⟨⟨⟨rfl,rfl,rfl⟩,rfl⟩,z1,z2,z3,z4⟩
 ·exact ⟨qO z,qO fun w=>z ⟨⟨w.1.1.symm,w.1.2.1.symm,w.1.2.2.symm⟩,w.2.symm⟩⟩
 ·have no:=wl (names:=names) z4 t
  exact ⟨lM g.ok z1 (by lia) (by lia) no,lM z1 g.ok z2 z3 (by rw [eY];exact no)⟩
theorem zY{r:Rw}(s:Six names m many mk r):kE r:=by
 rcases s.s with rfl|⟨hb,hp⟩
 ·trivial
 ·have pz:∀p:List Rw,Pz mk p->dO p:=fun p h=>by
   rcases h with rfl|rfl
   ·trivial
   ·exact ⟨trivial,trivial⟩
  cases r with
  |ifr x a b=>exact ⟨pz a (hp a (by simp [gJ])),pz b (hp b (by simp [gJ]))⟩
  |again x a=>exact pz a (hp a (by simp [gJ]))
  |_=>cases hb
theorem rA{i:Nat}{w:Str}(h:δ[i]?=some (some (.str w))):Yes (dM (c_ dS (ac (ae i) (ac (dC (.ty "str")) ai)))) δ M:=fun K q=>by
 simp! [h,i16,t3];exact q
theorem tN{i:Nat}{w:Str}(h:δ[i]?=some (some (.str w))){K:Bool->Mem->Prop}(q:K false M):aB (aA fZ (ae i) (dC (.str w))) δ M K:=by
 simp only [aB,aA,ae,h,dC,fZ,dv,cB,bq,decide_true,Bool.not_true];exact ⟨trivial,trivial,q⟩
theorem wz{c0 c1 c2 c3 c4 c5 c6 c7 c9 c10 c11 c12:Option D}{A B:D}(h:gL ad A B)(q:D0.nx [c0,c1,c2,c3,c4,c5,c6,c7,some (.tup [A,B]),some (.str (Str.ofString "build")),c10,c11,c12] M):
  jg ad EE D0 [c0,c1,c2,c3,c4,c5,c6,c7,some (.tup [A,B]),c9,c10,c11,c12] M:=by
 unfold jg;refine bn ?_;simp only [aK,au,ax];refine ag (cF (ak rfl) bw (by rw [atI_0];rfl)) (ag (cF (ak rfl) bw (by rw [atI_1];rfl)) aE) _ ⟨rfl,gE (G:=False) (U:=[]) (fun Q' E' _ h2=>h M Q' E' (h2 id)) (fun z=>z.elim) fun _=>?_⟩
 simp only [frz,am,List.set];unfold qB;simp only [bz,kI,gy];refine rA rfl _ ?_;simp only [Bool.not_true,Bool.false_eq_true,if_false];refine tN rfl ?_;rw [if_neg (by simp)]
 unfold bg;exact q
theorem sU{c0 c3 c4 c5 c6 c7 c8 c9 c10 c11 c12:Option D}(g:PlH m many names rs mk)(hp:Has k M)(q:∀c9 c10 c11 c12 M',Has k M'->D0.nx [c0,some (.ref k.p),some (bH m many names rs mk),c3,c4,c5,c6,c7,c8,c9,c10,c11,c12] M'):
  je ad EE D0 [c0,some (.ref k.p),some (bH m many names rs mk),c3,c4,c5,c6,c7,c8,c9,c10,c11,c12] M:=by
 have hh:=g.h;have hc:=g.c;unfold je;refine bn ?_;simp only [aK,au,ax];refine ag (ak rfl) (ag (ak rfl) aE) _ ⟨rfl,aT fun Q' E' hq _=>nB g hp fun n1 n2 M1 s1 s2 d1=>hq _ _ ?_⟩;simp only [frz,dl,bp,dj,am,List.set,List.length_cons,List.length_nil];refine ⟨trivial,?_⟩;have r0:=(ee rs [] 0 g.np).1;have ok:b_ (n1::rs) (n2::rs)=dP n1 n2:=by simp only [b_,r0,Bool.and_true]
 have h1:=s1.h;have h2:=s1.c;unfold rj;refine bn ?_;simp only [aK,au,ax];refine ag (ak rfl) (ag (ak rfl) aE) _ ⟨rfl,gE (G:=dP n1 n2=true) (U:=mB (n1::rs) (n2::rs)) (fun Q' E' h1 h2=>eM (rs:=n1::rs) (os:=n2::rs) (names:=names) (m:=m) (many:=many) ⟨s1.ok,g.ok⟩ ⟨s2.ok,g.ok⟩ (by simp only [cr];lia) (by simp only [cRs];lia) (fun z=>h1 (ok.symm.trans z)) fun z=>h2 (by rw [<- ok,z];simp)) (fun z p hp=>fh hp ?_) fun z=>?_⟩
 ·have e:=v9 s1 s2 z
  subst e;have u:mB (n1::rs) (n1::rs)=[]:=qR ⟨zY s1,g.np⟩;rw [u,z];simp only [am,List.set];unfold m9;simp only [bz,kI,dA,aB,aA];refine ak rfl _ ?_;simp only [au,ax];refine ag (ak rfl) (ag (d:=.lst []) (fun K q=>⟨ci (by simp),fun p hp=>fh hp q⟩) aE) _ ⟨rfl,aT fun Q' E' hq _=>df 23 (.lst []) M1 Q' E' ⟨by simp,by simp⟩ (hq _ _ ?_)⟩
  simp only [frz,fZ,dv,cB,bq,BEq.rfl,Bool.not_true];refine ⟨trivial,trivial,?_⟩;rw [if_neg (by simp)]
  simp only [gy,dM,ae,xY,List.getElem?_cons_succ,List.getElem?_cons_zero,Bool.not_true,Bool.false_eq_true,if_false];unfold bg;exact q _ _ _ _ _ d1.1
 ·have z':dP n1 n2=false:=Bool.eq_false_iff.mpr z
  rw [z'];simp only [frz,am,List.set];unfold m9;simp only [bz,kI,dA];generalize hI:dM (c_ dS (ac (ae 9) (ac (dC (.ty "str")) ai)))=I;have hI':=fun δ h=>rA (M:=M1) (δ:=δ) (i:=9) (w:=Str.ofString "build") h;rw [hI] at hI';generalize hN:aB (aA fZ (ae 9) (dC (.str "build")))=NN;have hN':=fun δ h K q=>tN (M:=M1) (δ:=δ) (i:=9) (w:=Str.ofString "build") h (K:=K) q;rw [hN] at hN';simp only [aB,aA];refine ak rfl _ ?_;simp only [au,ax];refine ag (ak rfl) (ag (d:=.lst []) (fun K q=>⟨ci (by simp),fun p hp=>fh hp q⟩) aE) _ ⟨rfl,aT fun Q' E' hq _=>vZ (n:=23) (hq _ _ ?_)⟩
  simp only [frz,fZ,dv,cB,bq,BEq.rfl,Bool.not_true];refine ⟨trivial,trivial,?_⟩;rw [if_neg (by simp)]
  simp only [gy,dM,ae,xY,List.getElem?_cons_succ,List.getElem?_cons_zero,Bool.not_false,if_true];refine hI' _ rfl _ ?_;simp only [Bool.not_true,Bool.false_eq_true,if_false];refine hN' _ rfl _ ?_;rw [if_neg (by simp)]
  unfold bg;exact q _ _ _ _ _ d1.1
end
end Tw
namespace Tw
open PySem L2 L3 LS
theorem rP(ad:Ad)(ns:List Int)(hl:ns.length<=63):u8 ad [.ml (ns.map D.int)] (fun _=>none) (fun d _=>d=.bl true) we:=by
 rw [BQ (n:=0)];generalize hG:({ nx:=fun _ M'=>drp (fun d _=>d=D.bl true) .non M',rt:=drp fun d _=>d=D.bl true }:DEnds)=G;have hrt:G.rt=drp fun d _=>d=D.bl true:=by rw [<- hG]
 unfold nN;refine bn ?_;simp only [aK,ax];refine ag (ak rfl) aE _ ⟨rfl,aT fun Q' E' hq _=>uf fun k M1 h1 _=>hq _ _ ?_⟩;simp only [am,List.set];unfold nU;refine bn ?_;simp only [aK,uB,ax];refine ag (ak rfl) (ag bw (ag bw aE)) _ ⟨rfl,aT fun Q' E' hq _=>pU h1 fun m many names rs rs' mk M2 p g t k2 hp=>hq _ _ (BP hp ?_)⟩;simp only [dl,bp,dj,am,List.set,List.length_cons,List.length_nil];refine ⟨trivial,?_⟩;have hh:=g.h;have hc:=g.c;have th:=t.h;have tc:=t.c;have sy:b_ rs' rs=true:=by rw [eY];exact t.k
 have ov:=A4 (rs:=rs) (os:=rs') (by lia) (by lia)
 unfold nj;refine bn ?_;simp only [aK,ax];refine ag (ak rfl) (ag (ak rfl) aE) _ ⟨rfl,gE (G:=True) (U:=mB rs rs') (fun Q' E' q1 _=>eM g.ok t.ok (by lia) (by lia) (fun _=>q1 trivial) fun z=>by rw [t.k] at z;cases z) (fun _ p5 hp5=>?_) fun z=>absurd trivial z⟩
 simp only [am,List.set];unfold oj;refine bn (t9 (alk (ak rfl) (ak rfl) fun Q' E' q=>sG (n:=22) Mem.upd_same ⟨ov.1,fun x hx=>?_⟩ q) (alk (ve (ak rfl) (ak rfl) t.ok g.ok (by lia) (by lia) sy) (ak rfl) fun Q' E' q=>?_) ?_)
 ·exact pT (ov.2 x hx)
 ·rw [AZ t.k]
  exact df 23 _ _ Q' E' ⟨ov.1,fun x hx=>pT (ov.2 x hx)⟩ q
 dsimp only;unfold nW;refine bn ?_;simp only [cD,iA,ae,dy,Mem.upd_same,ac,aU,dC,ai,bZ,List.getElem?_cons_succ,List.getElem?_cons_zero];refine ⟨trivial,ci (by simp),kD (by have:=ov.1;lia),?_⟩
 rw [Mem.upd_upd];unfold n8;refine bn ?_;simp only [cD,iA,ae,dy,Mem.upd_same,ai,hV,List.getElem?_cons_succ,List.getElem?_cons_zero];refine ⟨trivial,?_⟩;rw [Mem.upd_upd];have h5:∀o,Has k (M2.upd p5 o):=fun o=>k2.1.upd (k2.1.nep hp5);generalize hM5:M2.upd p5 (.lst (mB rs rs'++[D.tup [.int 99]]).reverse)=M5;have h5:Has k M5:=by rw [<- hM5];exact h5 _
 unfold rg;refine bn (t9 (alk (ve (ak rfl) (ak rfl) g.ok t.ok (by lia) (by lia) t.k) (ak rfl) fun Q' E' q=>df 23 _ _ Q' E' ⟨ov.1,fun x hx=>pT (ov.2 x hx)⟩ q) (alk (ve (ak rfl) (ak rfl) g.ok g.ok (by lia) (by lia) (ee rs [] 0 g.np).1) (iJ aE (by simp)) fun Q' E' q=>?_) ?_)
 ·rw [qR g.np]
  exact df 23 (.lst []) _ Q' E' ⟨by simp,by simp⟩ q
 dsimp only;unfold qw;generalize hK7:md ad (bV we)=K7;refine bn ?_;simp only [fo,mT,ac,dC,ai];refine ⟨by decide,by decide,?_⟩
 refine cY (fun ys δ N=>∃(c5 c6 c7 c8 c9 c10 c11 c12:Option D),δ=[some (.ml (ns.map D.int)),some (.ref k.p),some (bH m many names rs mk),some (bH m many names rs' mk),some (.lst (mB rs rs')),c5,c6,c7,c8,c9,c10,c11,c12]/\Has k N) (fun _ _ _ _=>cA) ?_ ?_ _ _ _ ⟨_,_,_,_,_,_,_,_,rfl,h5⟩
 ·rintro δ N ⟨c5,c6,c7,c8,c9,c10,c11,c12,rfl,hN⟩
  simp only [bC,dC];rw [hrt];exact br rfl
 ·rintro y ys δ N ⟨c5,c6,c7,c8,c9,c10,c11,c12,rfl,hN⟩ D' hD _ _ _
  simp only [am,List.set];rw [<- hK7];unfold md;refine bn ?_;simp only [aK,au,ax];refine ag (ak rfl) (ag (ak rfl) aE) _ ⟨rfl,aT fun Q' E' hq _=>sD g.t g.nd g.mkm t.ok (by lia) (by lia) hN fun m2 many2 names2 rs2 mk2 N1 bt d1=>hq _ _ ?_⟩
  have fz:∀K:DK,K (bH m2 many2 names2 rs2 mk2) N1->frz (bH m2 many2 names2 rs2 mk2) N1 K:=fun K q=>q;refine fz _ ?_;simp only [am,List.set];obtain ⟨ra1,ra2⟩:=wL (ad:=ad) g t.k bt;unfold qJ;generalize hK5:je ad (bV we)=K5;generalize hK2:jg ad (bV we)=K2;refine bn ?_;simp only [fo,ft,au,bT];refine jo (aX (ag (ak rfl) (ag (ak rfl) aE)) (by simp) _ (jo (aX (ag (ak rfl) (ag (ak rfl) aE)) (by simp) _ (jo ?_))))
  simp only [au,ax];refine ag (ak rfl) (ag (ak rfl) (ag (ak rfl) aE)) _ ⟨rfl,aT fun Q' E' hq _=>sh g t d1.1 fun rb ob N2 bo d2=>hq _ _ ?_⟩;simp only [frz,ai];refine ⟨ci (by simp),fun q hq=>?_⟩
  simp only [Mem.upd_same,Mem.upd_del,aW hq,bR,cT];have bh:=bo.h;have bc:=bo.c;have ra3:gL ad (bH m many names rb mk) (bH m many names ob mk):=lM bo.o1 bo.o2 (by lia) (by lia) bo.no
  refine cY (fun xs δ N=>(∀x∈xs,∃A B,x=D.tup [A,B]/\gL ad A B)/\∃(c5 c6 c7 c8 c9 c10 c11 c12:Option D),δ=[some (.ml (ns.map D.int)),some (.ref k.p),some (bH m many names rs mk),some (bH m many names rs' mk),some (.lst (mB rs rs')),c5,c6,c7,c8,c9,c10,c11,c12]/\Has k N) (fun _ _ _ _=>cA) ?_ ?_ _ _ _ ⟨fun x hx=>?_,_,_,_,_,_,_,_,_,rfl,d2.1⟩
  ·rintro δ N ⟨_,c5,c6,c7,c8,c9,c10,c11,c12,rfl,hN⟩
   show K5 D' _ N;rw [<- hK5];exact sU g hN fun c9 c10 c11 c12 M' hM'=>hD _ _ ⟨_,_,_,_,_,_,_,_,rfl,hM'⟩
  ·rintro x xs δ N ⟨hx,c5,c6,c7,c8,c9,c10,c11,c12,rfl,hN⟩ D'' hD2 _ _ _
   obtain ⟨A,B,rfl,ra⟩:=hx x (by simp)
   simp only [am,List.set];rw [<- hK2];exact wz ra (hD2 _ _ ⟨fun y hy=>hx y (List.mem_cons_of_mem _ hy),_,_,_,_,_,_,_,_,rfl,hN⟩)
  ·simp only [List.mem_cons,List.not_mem_nil,or_false] at hx
   rcases hx with rfl|rfl|rfl
   ·exact ⟨_,_,rfl,ra1⟩
   ·exact ⟨_,_,rfl,ra2⟩
   ·exact ⟨_,_,rfl,ra3⟩
end Tw
namespace Tw
open PySem L2 L3
def uZ(K:W.Frag):Sp:=fun vs H Q _=>∃(a:Addr) (ns:List Int),vs=[.ref a]/\vF H/\SqL K H a (ns.map V.int)/\ns.length<=63/\∀H',Q (.bl true) H'
theorem Ab{α:Type}{P:List α->Prop}(h:∀a0,P [a0]):∀us:List α,us.length=1->P us
 |[a0],_=>h a0
theorem vQ{α:Type}{P:List α->Prop}(h:∀a0 a1,P [a0,a1]):∀us:List α,us.length=2->P us
 |[a0,a1],_=>h a0 a1
theorem us3{α:Type}{P:List α->Prop}(h:∀a0 a1 a2,P [a0,a1,a2]):∀us:List α,us.length=3->P us
 |[a0,a1,a2],_=>h a0 a1 a2
theorem us4{α:Type}{P:List α->Prop}(h:∀a0 a1 a2 a3,P [a0,a1,a2,a3]):∀us:List α,us.length=4->P us
 |[a0,a1,a2,a3],_=>h a0 a1 a2 a3
theorem us5{α:Type}{P:List α->Prop}(h:∀a0 a1 a2 a3 a4,P [a0,a1,a2,a3,a4]):∀us:List α,us.length=5->P us
 |[a0,a1,a2,a3,a4],_=>h a0 a1 a2 a3 a4
structure Nf(K:W.Frag)(x:Str)(st:Stmt)(f:Addr)(fd:FuncData):Prop where
 a:W.nsIn K mainGlobals x=some (some (.ref f))
 F:Fun K x x st f fd
structure Mf(K:W.Frag)(C:Addr)(x q:Str)(st:Stmt)(f:Addr)(fd:FuncData):Prop where
 a:W.findIn K (.ref C) x=some (some (.ref f))
 i:W.isFn K (.ref f)=true
 F:Fun K x q st f fd
theorem As{l:W.OpenLaw}{w:World}{K:W.Frag}{h:Heap}{mg:Str->Option Value}{fa C_Dry C_NoBuild C_NoCase C_NoLine C_NoMoment C_NoPlace C_NoRow C_NoText C_StrideError C_TooBig C_TooMany f1 f2 f3 f4 f5 f6 f7 f8 f9 f10 f11 f12 f13 f14 f15 f16 f17 f18 f19 f20 f21 f22 f23 f24 f25 f26:Addr}(X:K.In h)(G:h.Ns mainGlobals mg)(hfa:mg "law"=some (.ref fa))
  {e1 e2 e3 e4 e5 e6 e7 e8 e9 e10 e11 e12 e13 e14 e15 e16 e17 e18 e19 e20 e21 e22 e23 e24 e25 e26:FuncData}
  (aC_Dry:W.nsIn K mainGlobals "Dry"=some (some (.ref C_Dry)))
  (aC_NoBuild:W.nsIn K mainGlobals "NoBuild"=some (some (.ref C_NoBuild)))
  (aC_NoCase:W.nsIn K mainGlobals "NoCase"=some (some (.ref C_NoCase)))
  (aC_NoLine:W.nsIn K mainGlobals "NoLine"=some (some (.ref C_NoLine)))
  (aC_NoMoment:W.nsIn K mainGlobals "NoMoment"=some (some (.ref C_NoMoment)))
  (aC_NoPlace:W.nsIn K mainGlobals "NoPlace"=some (some (.ref C_NoPlace)))
  (aC_NoRow:W.nsIn K mainGlobals "NoRow"=some (some (.ref C_NoRow)))
  (aC_NoText:W.nsIn K mainGlobals "NoText"=some (some (.ref C_NoText)))
  (aC_StrideError:W.nsIn K mainGlobals "StrideError"=some (some (.ref C_StrideError)))
  (aC_TooBig:W.nsIn K mainGlobals "TooBig"=some (some (.ref C_TooBig)))
  (aC_TooMany:W.nsIn K mainGlobals "TooMany"=some (some (.ref C_TooMany)))
  (l1:Nf K "rows_within" Bh f1 e1)
  (l2:Nf K "unlike_rows" B6 f2 e2)
  (l3:Nf K "paired" va f3 e3)
  (l4:Nf K "refuse_unlike_sorts" Az f4 e4)
  (l5:Nf K "paired_within" Bt f5 e5)
  (l6:Nf K "branches" tM f6 e6)
  (l7:Nf K "_law_stirred" Bz f7 e7)
  (l8:Nf K "_law_pot" tR f8 e8)
  (l9:Nf K "_law_draw" ur f9 e9)
  (l10:Nf K "_law_names" vw f10 e10)
  (l11:Nf K "_law_row" ue f11 e11)
  (l12:Nf K "_law_block" tf f12 e12)
  (l13:Nf K "_law_rows" ul f13 e13)
  (l14:Nf K "_law_plan" uQ f14 e14)
  (l15:Nf K "_law_no_picks" Am f15 e15)
  (l16:Nf K "_law_twin_rows" zO f16 e16)
  (l17:Nf K "_law_twins" uW f17 e17)
  (l18:Nf K "_law_name" tQ f18 e18)
  (l19:Nf K "_law_kinds" ui f19 e19)
  (l20:Nf K "_law_alike" uq f20 e20)
  (l21:Nf K "_law_asked" uP f21 e21)
  (l22:Nf K "_law_bent" uR f22 e22)
  (l23:Nf K "_law_blocks_bent" AH f23 e23)
  (l24:Nf K "_law_put_both" zH f24 e24)
  (l25:Nf K "_law_both_bent" zJ f25 e25)
  (l26:Nf K "law" gR f26 e26)
  (x_NoBuild:W.excIn K C_NoBuild [.type "ValueError",.type "Exception",.type "BaseException",.type "object"] "ValueError.__new__"=true)
  (xg:W.findIn K (.ref C_NoBuild) "__getattribute__"=some (some (.builtin "BaseException.__getattribute__")))
  (xh:W.findIn K (.ref C_NoBuild) "__getattr__"=some none)
  (xk:W.findIn K (.ref C_NoBuild) "__class__"=some (some (.builtin "object.__class__")))
  (xsp:W.specialIn K (.builtin "object.__class__") "__get__"=some (some (.builtin "getset_descriptor.__get__")))
  (xtk:W.takesIn K (.builtin "object.__class__")=some true)
  (xob:W.mroIn K C_NoBuild (.type "object")=some true)
  (xbe:W.mroIn K C_NoBuild (.type "BaseException")=some true)
  (xse:W.mroIn K C_NoBuild (.ref C_NoBuild)=some true)
  (xd_Dry:W.hasDictIn K C_Dry=true)
  (xd_NoBuild:W.hasDictIn K C_NoBuild=true)
  (xd_NoCase:W.hasDictIn K C_NoCase=true)
  (xd_NoLine:W.hasDictIn K C_NoLine=true)
  (xd_NoMoment:W.hasDictIn K C_NoMoment=true)
  (xd_NoPlace:W.hasDictIn K C_NoPlace=true)
  (xd_NoRow:W.hasDictIn K C_NoRow=true)
  (xd_NoText:W.hasDictIn K C_NoText=true)
  (xd_StrideError:W.hasDictIn K C_StrideError=true)
  (xd_TooBig:W.hasDictIn K C_TooBig=true)
  (xd_TooMany:W.hasDictIn K C_TooMany=true)
  (xt_StrideError:W.instIn K (.ref C_StrideError) (.type "tuple")=some false)
  (xw_StrideError:W.mroIn K C_StrideError (.type "BaseException")=some true)
  (xm_StrideError:W.mroIn K C_NoBuild (.ref C_StrideError)=some true)
  (xy_Dry:W.typeIn K (.ref C_Dry)=some (.type "type"))
  (xq_Dry:W.mroIn K C_NoBuild (.ref C_Dry)=some false)
  (xy_NoBuild:W.typeIn K (.ref C_NoBuild)=some (.type "type"))
  (xq_NoBuild:W.mroIn K C_NoBuild (.ref C_NoBuild)=some true)
  (xy_NoCase:W.typeIn K (.ref C_NoCase)=some (.type "type"))
  (xq_NoCase:W.mroIn K C_NoBuild (.ref C_NoCase)=some false)
  (xy_NoLine:W.typeIn K (.ref C_NoLine)=some (.type "type"))
  (xq_NoLine:W.mroIn K C_NoBuild (.ref C_NoLine)=some false)
  (xy_NoMoment:W.typeIn K (.ref C_NoMoment)=some (.type "type"))
  (xq_NoMoment:W.mroIn K C_NoBuild (.ref C_NoMoment)=some false)
  (xy_NoPlace:W.typeIn K (.ref C_NoPlace)=some (.type "type"))
  (xq_NoPlace:W.mroIn K C_NoBuild (.ref C_NoPlace)=some false)
  (xy_NoRow:W.typeIn K (.ref C_NoRow)=some (.type "type"))
  (xq_NoRow:W.mroIn K C_NoBuild (.ref C_NoRow)=some false)
  (xy_NoText:W.typeIn K (.ref C_NoText)=some (.type "type"))
  (xq_NoText:W.mroIn K C_NoBuild (.ref C_NoText)=some false)
  (xy_TooBig:W.typeIn K (.ref C_TooBig)=some (.type "type"))
  (xq_TooBig:W.mroIn K C_NoBuild (.ref C_TooBig)=some false)
  (xy_TooMany:W.typeIn K (.ref C_TooMany)=some (.type "type"))
  (xq_TooMany:W.mroIn K C_NoBuild (.ref C_TooMany)=some false)
  (xq_ValueError:W.mroIn K C_NoBuild (.type "ValueError")=some true)
  (z_ValueError:W.nsIn K mainGlobals "ValueError"=some none)
  (z_all:W.nsIn K mainGlobals "all"=some none)
  (z_bool:W.nsIn K mainGlobals "bool"=some none)
  (z_enumerate:W.nsIn K mainGlobals "enumerate"=some none)
  (z_int:W.nsIn K mainGlobals "int"=some none)
  (z_isinstance:W.nsIn K mainGlobals "isinstance"=some none)
  (z_len:W.nsIn K mainGlobals "len"=some none)
  (z_list:W.nsIn K mainGlobals "list"=some none)
  (z_min:W.nsIn K mainGlobals "min"=some none)
  (z_range:W.nsIn K mainGlobals "range"=some none)
  (z_sorted:W.nsIn K mainGlobals "sorted"=some none)
  (z_str:W.nsIn K mainGlobals "str"=some none)
  (z_tuple:W.nsIn K mainGlobals "tuple"=some none)
  (z_zip:W.nsIn K mainGlobals "zip"=some none):
  ∃fd:FuncData,(∀(s:Shared) (v:Value),BindsTo s fd ⟨[v],[]⟩ [("script",v)])/\∀base:Heap,K.In base->base.Ns mainGlobals mg->FnOk l.prog w K mg base CX0 50 fa fd ["script"] (uZ K):=by
 have e:=hfa.symm.trans (W.mg_of X G l26.a);cases e;obtain ⟨_,_,kV,dc,pm,an,cd,ct,_,rfl,_⟩:=l26.F.ex;have b1:=l1.F.binds (ps:=["row"]) fun _ _ _ _ _ _=>Ab fun _=>rfl;have b2:=l2.F.binds (ps:=["one","other"]) fun _ _ _ _ _ _=>vQ fun _ _=>rfl;have b3:=l3.F.binds (ps:=["rows","others","place"]) fun _ _ _ _ _ _=>us3 fun _ _ _=>rfl;have b4:=l4.F.binds (ps:=["row","other"]) fun _ _ _ _ _ _=>vQ fun _ _=>rfl;have b5:=l5.F.binds (ps:=["row","other","place"]) fun _ _ _ _ _ _=>us3 fun _ _ _=>rfl;have b6:=l6.F.binds (ps:=["row"]) fun _ _ _ _ _ _=>Ab fun _=>rfl;have b7:=l7.F.binds (ps:=["cell","turn"]) fun _ _ _ _ _ _=>vQ fun _ _=>rfl;have b8:=l8.F.binds (ps:=["script"]) fun _ _ _ _ _ _=>Ab fun _=>rfl;have b9:=l9.F.binds (ps:=["pot","many"]) fun _ _ _ _ _ _=>vQ fun _ _=>rfl;have b10:=l10.F.binds (ps:=["pot","many"]) fun _ _ _ _ _ _=>vQ fun _ _=>rfl;have b11:=l11.F.binds (ps:=["pot","told"]) fun _ _ _ _ _ _=>vQ fun _ _=>rfl;have b12:=l12.F.binds (ps:=["pot","told","room","deep"]) fun _ _ _ _ _ _=>us4 fun _ _ _ _=>rfl;have b13:=l13.F.binds (ps:=["pot","told","room","deep","most"]) fun _ _ _ _ _ _=>us5 fun _ _ _ _ _=>rfl;have b14:=l14.F.binds (ps:=["pot","most"]) fun _ _ _ _ _ _=>vQ fun _ _=>rfl;have b15:=l15.F.binds (ps:=["rows"]) fun _ _ _ _ _ _=>Ab fun _=>rfl;have b16:=l16.F.binds (ps:=["pot","work","rows","place"]) fun _ _ _ _ _ _=>us4 fun _ _ _ _=>rfl;have b17:=l17.F.binds (ps:=["pot","most_rows","most_unlike"]) fun _ _ _ _ _ _=>us3 fun _ _ _=>rfl;have b18:=l18.F.binds (ps:=["flags"]) fun _ _ _ _ _ _=>Ab fun _=>rfl;have b19:=l19.F.binds (ps:=["e"]) fun _ _ _ _ _ _=>Ab fun _=>rfl;have b20:=l20.F.binds (ps:=["found","due"]) fun _ _ _ _ _ _=>vQ fun _ _=>rfl;have b21:=l21.F.binds (ps:=["one","other"]) fun _ _ _ _ _ _=>vQ fun _ _=>rfl;have b22:=l22.F.binds (ps:=["pot","plan"]) fun _ _ _ _ _ _=>vQ fun _ _=>rfl;have b23:=l23.F.binds (ps:=["pot","plan"]) fun _ _ _ _ _ _=>vQ fun _ _=>rfl;have b24:=l24.F.binds (ps:=["pot","pair","news","deep"]) fun _ _ _ _ _ _=>us4 fun _ _ _ _=>rfl;have b25:=l25.F.binds (ps:=["pot","one","other"]) fun _ _ _ _ _ _=>us3 fun _ _ _=>rfl;have b26:=l26.F.binds (ps:=["script"]) fun _ _ _ _ _ _=>Ab fun _=>rfl
 let ad:Ad:={ C_Dry:=C_Dry,C_NoBuild:=C_NoBuild,C_NoCase:=C_NoCase,C_NoLine:=C_NoLine,C_NoMoment:=C_NoMoment,C_NoPlace:=C_NoPlace,C_NoRow:=C_NoRow,C_NoText:=C_NoText,C_StrideError:=C_StrideError,C_TooBig:=C_TooBig,C_TooMany:=C_TooMany,a_q8:=f1,d_q8:=e1,a_q9:=f2,d_q9:=e2,a_q24:=f3,d_q24:=e3,a_q0:=f4,d_q0:=e4,a_q4:=f5,d_q4:=e5,a_q22:=f6,d_q22:=e6,a_q7:=f7,d_q7:=e7,a_q23:=f8,d_q23:=e8,a_q17:=f9,d_q17:=e9,a_q10:=f10,d_q10:=e10,a_q21:=f11,d_q21:=e11,a_q13:=f12,d_q13:=e12,a_q18:=f13,d_q18:=e13,a_q19:=f14,d_q19:=e14,a_q6:=f15,d_q6:=e15,a_q2:=f16,d_q2:=e16,a_q15:=f17,d_q15:=e17,a_q16:=f18,d_q16:=e18,a_q11:=f19,d_q11:=e19,a_q12:=f20,d_q12:=e20,a_q14:=f21,d_q14:=e21,a_q20:=f22,d_q20:=e22,a_q1:=f23,d_q1:=e23,a_q5:=f24,d_q5:=e24,a_q3:=f25,d_q3:=e25,a_law:=fa,d_law:=W.fnOf "law" "law" (g8 gR) (eJ gR) (aV gR) .none kV dc pm an cd ct }
 have T:En K mg ad:={
  xc_NoBuild:=⟨xg,xh,xd_NoBuild,xk,xsp,xtk,xob,xbe⟩
  xs_StrideError:=⟨xt_StrideError,mM xd_StrideError,xw_StrideError,xm_StrideError⟩
  kt_Dry:=eP xse xd_Dry xy_Dry xq_Dry
  kt_NoBuild:=eP xse xd_NoBuild xy_NoBuild xq_NoBuild
  kt_NoCase:=eP xse xd_NoCase xy_NoCase xq_NoCase
  kt_NoLine:=eP xse xd_NoLine xy_NoLine xq_NoLine
  kt_NoMoment:=eP xse xd_NoMoment xy_NoMoment xq_NoMoment
  kt_NoPlace:=eP xse xd_NoPlace xy_NoPlace xq_NoPlace
  kt_NoRow:=eP xse xd_NoRow xy_NoRow xq_NoRow
  kt_NoText:=eP xse xd_NoText xy_NoText xq_NoText
  kt_TooBig:=eP xse xd_TooBig xy_TooBig xq_TooBig
  kt_TooMany:=eP xse xd_TooMany xy_TooMany xq_TooMany
  kt_ValueError:=AE xq_ValueError
  mC_Dry:=W.mg_of X G aC_Dry
  x_NoBuild:=p_ X x_NoBuild
  mC_NoBuild:=W.mg_of X G aC_NoBuild
  mC_NoCase:=W.mg_of X G aC_NoCase
  mC_NoLine:=W.mg_of X G aC_NoLine
  mC_NoMoment:=W.mg_of X G aC_NoMoment
  mC_NoPlace:=W.mg_of X G aC_NoPlace
  mC_NoRow:=W.mg_of X G aC_NoRow
  mC_NoText:=W.mg_of X G aC_NoText
  mC_StrideError:=W.mg_of X G aC_StrideError
  mC_TooBig:=W.mg_of X G aC_TooBig
  mC_TooMany:=W.mg_of X G aC_TooMany
  F_q8:=l1.F
  b_q8:=b1
  k_q8:=l1.F.kp
  m_q8:=W.mg_of X G l1.a
  F_q9:=l2.F
  b_q9:=b2
  k_q9:=l2.F.kp
  m_q9:=W.mg_of X G l2.a
  F_q24:=l3.F
  b_q24:=b3
  k_q24:=l3.F.kp
  m_q24:=W.mg_of X G l3.a
  F_q0:=l4.F
  b_q0:=b4
  k_q0:=l4.F.kp
  m_q0:=W.mg_of X G l4.a
  F_q4:=l5.F
  b_q4:=b5
  k_q4:=l5.F.kp
  m_q4:=W.mg_of X G l5.a
  F_q22:=l6.F
  b_q22:=b6
  k_q22:=l6.F.kp
  m_q22:=W.mg_of X G l6.a
  F_q7:=l7.F
  b_q7:=b7
  k_q7:=l7.F.kp
  m_q7:=W.mg_of X G l7.a
  F_q23:=l8.F
  b_q23:=b8
  k_q23:=l8.F.kp
  m_q23:=W.mg_of X G l8.a
  F_q17:=l9.F
  b_q17:=b9
  k_q17:=l9.F.kp
  m_q17:=W.mg_of X G l9.a
  F_q10:=l10.F
  b_q10:=b10
  k_q10:=l10.F.kp
  m_q10:=W.mg_of X G l10.a
  F_q21:=l11.F
  b_q21:=b11
  k_q21:=l11.F.kp
  m_q21:=W.mg_of X G l11.a
  F_q13:=l12.F
  b_q13:=b12
  k_q13:=l12.F.kp
  m_q13:=W.mg_of X G l12.a
  F_q18:=l13.F
  b_q18:=b13
  k_q18:=l13.F.kp
  m_q18:=W.mg_of X G l13.a
  F_q19:=l14.F
  b_q19:=b14
  k_q19:=l14.F.kp
  m_q19:=W.mg_of X G l14.a
  F_q6:=l15.F
  b_q6:=b15
  k_q6:=l15.F.kp
  m_q6:=W.mg_of X G l15.a
  F_q2:=l16.F
  b_q2:=b16
  k_q2:=l16.F.kp
  m_q2:=W.mg_of X G l16.a
  F_q15:=l17.F
  b_q15:=b17
  k_q15:=l17.F.kp
  m_q15:=W.mg_of X G l17.a
  F_q16:=l18.F
  b_q16:=b18
  k_q16:=l18.F.kp
  m_q16:=W.mg_of X G l18.a
  F_q11:=l19.F
  b_q11:=b19
  k_q11:=l19.F.kp
  m_q11:=W.mg_of X G l19.a
  F_q12:=l20.F
  b_q12:=b20
  k_q12:=l20.F.kp
  m_q12:=W.mg_of X G l20.a
  F_q14:=l21.F
  b_q14:=b21
  k_q14:=l21.F.kp
  m_q14:=W.mg_of X G l21.a
  F_q20:=l22.F
  b_q20:=b22
  k_q20:=l22.F.kp
  m_q20:=W.mg_of X G l22.a
  F_q1:=l23.F
  b_q1:=b23
  k_q1:=l23.F.kp
  m_q1:=W.mg_of X G l23.a
  F_q5:=l24.F
  b_q5:=b24
  k_q5:=l24.F.kp
  m_q5:=W.mg_of X G l24.a
  F_q3:=l25.F
  b_q3:=b25
  k_q3:=l25.F.kp
  m_q3:=W.mg_of X G l25.a
  F_law:=l26.F
  b_law:=b26
  k_law:=l26.F.kp
  m_law:=W.mg_of X G l26.a
  z_ValueError:=W.mg_none_of X G z_ValueError
  z_all:=W.mg_none_of X G z_all
  z_bool:=W.mg_none_of X G z_bool
  z_enumerate:=W.mg_none_of X G z_enumerate
  z_int:=W.mg_none_of X G z_int
  z_isinstance:=W.mg_none_of X G z_isinstance
  z_len:=W.mg_none_of X G z_len
  z_list:=W.mg_none_of X G z_list
  z_min:=W.mg_none_of X G z_min
  z_range:=W.mg_none_of X G z_range
  z_sorted:=W.mg_none_of X G z_sorted
  z_str:=W.mg_none_of X G z_str
  z_tuple:=W.mg_none_of X G z_tuple
  z_zip:=W.mg_none_of X G z_zip
 }
 refine ⟨W.fnOf "law" "law" (g8 gR) (eJ gR) (aV gR) .none kV dc pm an cd ct,fun s v=>.of_eq rfl,fun base _ _=>?_⟩;exact (zU (Ap (P:=l.prog) (w:=w) (base:=base) T)).imp fun vs H Q E ⟨a,ns,e,hO,hS,hl,k⟩=>by subst e;exact yM hO hS (rP ad ns hl) k
theorem walk{l:W.OpenLaw}{q:Program}{loose:List Str}{XP:(Str->Option Value)->Heap->Prop}{YP:World->Heap->Prop}{d:DefRec}{K:Params->W.Frag}(hn:l.most=some 63)(hdf:d.params.defaults=[])
  (hY:∀(w:World) (h:Heap),YP w h->(K w.params).In h)
  (F:∀(w:World) (mg:Str->Option Value) (fa:Addr) (h:Heap),(K w.params).In h->h.Ns mainGlobals mg->mg d.name=some (.ref fa)->
   ∃fd:FuncData,(∀(s:Shared) (u:Value),BindsTo s fd ⟨[u],[]⟩ [("script",u)])/\∀base:Heap,(K w.params).In base->base.Ns mainGlobals mg->FnOk l.prog w (K w.params) mg base CX0 50 fa fd ["script"] (uZ (K w.params))):
  W.WalkO q loose XP YP l.row.toRowW d [] (fun f vs=>PySem.call f vs):=
 L2.xa (n:=63) (k:=50) (x:="script") (CX:=fun _=>CX0) (sp:=fun w=>uZ (K w.params)) hn (by decide) hdf ⟨rfl,by decide,by decide,rfl⟩ hY F (fun _ _ a ns hl hO hS=>⟨a,ns,rfl,hO,hS,hl,fun _=>rfl⟩) fun _ _ _ _ _ z=>z
end Tw
open PySem PySem.W PyProof.Rows
namespace PySem.W.Fast
theorem tw3667520461963770711:0=0:=rfl
theorem tw8822072150085650262:0=0:=rfl
theorem tw2641567835865439280:0=0:=rfl
theorem tw12646555395604248391:0=0:=rfl
theorem tw10345738187637255259:0=0:=rfl
theorem tw15131949538180186724:0=0:=rfl
theorem tw1109334350281524314:0=0:=rfl
theorem tw8164361997993771618:0=0:=rfl
theorem tw11161109657312327305:0=0:=rfl
theorem tw17657758849909721808:0=0:=rfl
theorem tw7641856419322704432:0=0:=rfl
theorem tw12640538802313639213:0=0:=rfl
theorem tw17525737429363825924:0=0:=rfl
theorem tw8548929728918779782:0=0:=rfl
theorem tw3250668537173511656:0=0:=rfl
theorem tw14662128109164361639:0=0:=rfl
theorem tw16523599430907850143:0=0:=rfl
theorem tw9656753759569204257:0=0:=rfl
theorem tw2849546988031473008:0=0:=rfl
theorem tw9157359085356045480:0=0:=rfl
theorem tw11879576960279204813:0=0:=rfl
theorem tw1269524498842268115:0=0:=rfl
theorem tw16921921146303172334:0=0:=rfl
theorem tw9169944675162480103:0=0:=rfl
theorem tw5449806602729296009:0=0:=rfl
theorem tw14397882679299377489:0=0:=rfl
theorem tw6994733207883680822:0=0:=rfl
theorem tw14474600391226906971:0=0:=rfl
theorem tw16696740694304218582:0=0:=rfl
theorem tw7876618387941395094:0=0:=rfl
theorem tw506994450980662445:0=0:=rfl
theorem tw12841189803655686034:0=0:=rfl
theorem tw3006486996492629132:0=0:=rfl
theorem tw10899057507448508264:0=0:=rfl
theorem tw6442478513525839403:0=0:=rfl
theorem tw9418259553655091293:0=0:=rfl
theorem tw13726868420455885020:0=0:=rfl
theorem tw9810674422444830344:0=0:=rfl
theorem tw2900781778383019723:0=0:=rfl
theorem tw16972172012505576173:0=0:=rfl
theorem tw4595316227619804243:0=0:=rfl
theorem tw8983564599556500490:0=0:=rfl
theorem tw5609806893665008698:0=0:=rfl
theorem tw7351554886861221507:0=0:=rfl
theorem tw1341848492513494406:0=0:=rfl
theorem tw12612505512855119045:0=0:=rfl
theorem tw10534189969302257505:0=0:=rfl
theorem tw2230354005214044796:0=0:=rfl
theorem tw1111821821187005568:0=0:=rfl
theorem tw17233409117766714961:0=0:=rfl
theorem tw5419706853015382496:0=0:=rfl
theorem tw15744077721489630730:0=0:=rfl
theorem tw9951831436580820283:0=0:=rfl
end PySem.W.Fast
set_option maxRecDepth 100000 in
set_option maxHeartbeats 0 in
theorem PySem.Challenge.cw_twinstride_k80_unlike_rows_holds : PySem.Challenge.rw_twinstride_k80_unlike_rows.Holds := by
 w_on;o_law;k_head;(case hw=>w_witness2)
 k_fill
 refine Tw.walk (l:=PySem.Challenge.rw_twinstride_k80_unlike_rows) rfl rfl (fun w h Y=>W.kIn_of Y) ?F
 case F=>
  intro w mg fa h KX G hmg;refine' Tw.As KX G hmg ..
  any_goals k_is
  any_goals (first|refine' Tw.Nf.mk ?_ (L2.tJ ?_ ?_ ?_)|refine' Tw.Mf.mk ?_ ?_ (L2.tJ ?_ ?_ ?_))
  any_goals k_is
  any_goals k_exc
