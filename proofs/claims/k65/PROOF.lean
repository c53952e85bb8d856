import PyProof.Rows.All
import Wide.All
import OpenK.AllK
import Wide.FinOn
import Lean
import PyProof.EqAt
import PyProof.EqKinds
import PyProof.TupleCall
import PySem.Challenge.RW_twinstride_k65_narrowed
set_option Elab.async false
set_option linter.all false
set_option maxRecDepth 100000
set_option maxHeartbeats 4000000
set_option compiler.extract_closed false
set_option Elab.async false
set_option linter.all false
set_option maxRecDepth 100000
open Array renaming length_toList->Iz,toList->Jm,replicate->JR,append_assoc->Kd,getElem?_eq_getElem->Lc,forIn_toList->Me
open Bool renaming false_eq_true->GX,false_ne_true->GY,beq_eq_decide_eq->Hl,and_eq_true->HP,and_false->Jd,not_false->Lb,or_false->Lk,not_true->Ll,false_or->Lm,and_true->Ln,true_or->LK
open False renaming elim->HM
open ForInStep renaming yield->JH
open Function renaming comp_apply->Jg,comp_def->LU
open Int renaming toNat_natCast->Ha,eq_ofNat_of_zero_le->Ii,emod_lt_of_pos->IF,emod_nonneg->I0,toNat->Jf,zero_add->Ku
open List renaming getElem?_cons_zero->dt,getElem?_cons_succ->GD,length_map->GF,getElem?_eq_getElem->GG,length_cons->GI,size_toArray->GJ,replicate->GK,length_append->GP,map_cons->GR,getElem?_map->GU,mem_map->Hc,replicate_succ->He,mem_cons_of_mem->Hf,length_nil->Hg,mem_append->Hm,mem_append_right->Ho,mem_cons->Hq,map_congr_left->Hs,lookup->Hu,set->Hv,range->HA,append_nil->HD,cons_append->HE,getElem?_eq_none->HG,map_map->HH,nil_append->HK,map_nil->HL,length_take->HN,getElem?_append_right->HR,getElem?_eq_some_iff->HU,getElem?_append_left->HV,length_drop->HW,mem_range->HZ,flatten_cons->Ig,Nodup->Ih,foldl_cons->Ir,length->Iu,any_cons->Iy,filterMap_cons->IA,mem_singleton->IE,nodup_cons->IH,map_append->II,length_filter_le->IJ,drop_eq_getElem_cons->IU,find?_cons->IY,mem_append_left->Ji,mem_filter->Jk,length_zip->Jl,zip_cons_cons->Jr,mem_cons_self->Js,nodup_append->JD,filter_congr->JE,ext_getElem?->JF,filter_cons->JL,take_of_length_le->JO,range_succ_eq_map->JP,drop_eq_nil_of_le->JQ,of_mem_zip->JV,forIn_cons->JW,filter_map->JX,length_singleton->JZ,mem_of_mem_take->J2,mem_of_getElem?->J3,forIn_nil->J4,getElem?_range->J7,map_take->Kc,take_sublist->Km,append_assoc->Kn,zipIdx_cons->Kx,range'_succ->Ky,lookup_cons->Kz,getElem_mem->KA,foldl->KZ,getElem?_eq_none_iff->Le,getElem?_replicate->Lx,toArray->LH,getElem?_set_self->LI,drop_of_length_le->LJ,range'->L6,mem_of_mem_drop->L7,getElem?_set_ne->L8,mem_filterMap->Mm,findIdx?_cons->Mn
open List.Pairwise renaming map->La
open List.Sublist renaming refl->J0
open List.cons renaming injEq->IQ
open Nat renaming le_refl->GO,lt_of_lt_of_le->GS,ne_of_lt->GW,le_trans->Hd,zero_le->Hn,lt_irrefl->HJ,mul_le_mul_right->HQ,le_add_right->HX,ne_of_gt->Iv,not_lt_zero->IZ,mul_le_mul->Jz,le_succ->J5,succ_mul->Ks,lt_or_ge->Kt,lt_succ_self->KG,mul_pos->KI,mul_comm->LP,min_self->LQ,le_of_lt->LR
open Ne renaming symm->Hw
open Option renaming map_some->Ib,map_eq_some_iff->IC,isSome_map->Ki,join_some->Kl,isSome_some->L4,isNone_some->L5,getD_none->Ml
open Option.some renaming inj->HC
open PyProof.Rows renaming callWith_type1->Ht,slot_tuple_getitem->HF,assign_Tuple->Kk
open PySem renaming mem_of_lookup->Ij,Within->Lq,evalArgs_none->LV,call->L9,list_append->Mh
open PySem.Around renaming under_plainId->JY,under->Kh
open PySem.AutoSeq1 renaming sub_tuple_tuple->Jq,idx_int->Kg
open PySem.Builtin.Dict renaming updateFrom->Kr,pairItems->Kw,showsAll->KD
open PySem.Builtin.Dict_items renaming ownsTuple->IW,ownedTupleIsFree->Jx,ownedTupleFields->Jy,pairFromOwner->JG
open PySem.Builtin.List renaming listTooLong->IL
open PySem.Builtin.Slice renaming slicePlaces->IG,sliceAdjust->Je,sliceApplied->Kb
open PySem.Builtin.SmallTypes renaming nextOf->GZ,ownedTupleIsFree->Hh,ownedTupleHandOut->Jp
open PySem.Builtin.Tuple renaming tupleExact->Ip,tupleTooMany->J9,tupleItemsOf->Ka
open PySem.Calls renaming callWith_builtin->Il,spliced_cons->ID,evalArgs_plain->IP,spliced_nil->Jc,Name_function_global->KR
open PySem.Code renaming isFrame->LG
open PySem.Expr renaming Call->Lw
open PySem.F renaming plainAttrs_list->Hx,slot_list_append->HB,type_list_append->HI,slot_dict_itemiterator_next->Ie,slot_dict_get->Io,slot_zip_next->Iw,slot_tuple_mul->IB,slot_tuple_iterator_next->IT,entry_dict_get->Ja,slot_int_rmul->Jo,slot_tuple_index->Ju,args_tuple_mul_2->Jv,args_tuple_add_2->Jw,entry_tuple_mul->JB,entry_tuple_add->JC,slot_tuple_add->JI,args_zip_next_1->JK,slot_zip_getattribute->JS,plainAttrs_dict->JT,entry_zip_next->JU,args_dict_itemiterator_next_1->KH,type_tuple_index->KP,entry_dict_itemiterator_next->KQ,slot_tuple_rmul->KU,args_dict_get_3->KW,args_dict_get_2->KY,args_tuple_iterator_next_1->Ld,type_dict_get->Lh,slot_dict_len->Li,entry_tuple_iterator_next->Lj,slot_list_extend->LO,slot_list_clear->L0,args_int_rmul_2->L1,slot_int_index->Mb,slot_dict_items_iter->Mc,entry_int_rmul->Md,slot_enumerate_next->Mi,fills_int_mul->Mj
open PySem.Heap renaming get?_push_of_some->GC,lt_size->GL,get?_push_size->GN,size_push->Hz,SameBut->Im,get?_update_other->LD,get?_update_self->LN,ExtBut->LZ
open PySem.Heap.DictOf renaming new->LF
open PySem.Heap.SameBut renaming update->JJ
open PySem.Obj renaming mapSeq->Kj
open PySem.P renaming repr_of_none->Lu,repr_of_bool->Lv,repr_of_str->LB,repr_of_int->LC
open PySem.Paired renaming length->Ik
open PySem.PassesOwn renaming leaving->Hj
open PySem.PyData renaming hasDict->HY,showable->Jh,depth->Jj,noDict_hsm->Jt,shownAll->JN,showableAll->J6,hasDictAll->Ke,depthAll->Kv,str->LY
open PySem.SeqAt renaming EqAt->JM,RcNeAt->Lr,RcAt->Ma
open PySem.SeqAt.EqAt renaming str_int->Lf,int_str->Lg
open PySem.SeqAt.RcAt renaming lists_lengths->Jn,tuples->Ls,lists->LA
open PySem.Shared renaming heap->Lz
open PySem.Str renaming ofString->Hy
open PySem.Value renaming ref->Hb,none->Ic,bool->IM,str->Ko,int->Kp,type->KO,float->LM
open PySem.W renaming Frag->GH,keepIn->GV,mg_of->Hi,findIn->HS,mg_none_of->Ia,emptyDict->IS,kia_one->IV,nsIn->Jb,instObj->JA,plainGet->J1,hasDictIn->J8,callWith_K->KC,hideAll->KJ,fnOf->KL,plainOver->KS,plainGet_of->LL,makesIn->LW
open Std.Legacy renaming Range->Ly
open String renaming reduceBEq->Mg
open Sum renaming inr->GQ,inl->IK
open Sum.inr renaming inj->Lp
open True renaming intro->Iq
namespace L2
open PySem PySem.Spec PyProof.Rows
abbrev aP:=Sum Int Str
def kO:aP->Value->Bool
 |.inl k,v=>Value.isInt k v
 |.inr x,v=>Value.isStrOf x v
def keyH(w:World):aP->Int
 |.inl k=>hashInt k
 |.inr x=>hashStr w x
theorem bP:∀{k:aP} {v:Value},kO k v=true->(∃i t,k=IK i/\v=Kp i t)\/(∃x t,k=GQ x/\v=Ko x t)
 |.inl i,v,h=>by
  obtain ⟨t,e⟩:=Value.isInt_shape (k:=i) (v:=v) h;exact .inl ⟨i,t,rfl,e⟩
 |.inr x,v,h=>by
  obtain ⟨t,e⟩:=Value.isStrOf_shape (x:=x) (v:=v) h;exact .inr ⟨x,t,rfl,e⟩
theorem ug(i:Int)(t:Tok):kO (.inl i) (.int i t)=true:=by simp [kO,Value.isInt]
theorem uP(x:Str)(t:Tok):kO (.inr x) (.str x t)=true:=by simp [kO,Value.isStrOf]
theorem Ej(a b:Int):decide ((IK a:aP)=IK b)=(a==b):=by
 by_cases e:a=b
 ·subst e;simp
 ·have h:¬(IK a:aP)=IK b:=fun q=>e (Sum.inl.inj q)
  rw [decide_eq_false h];exact (beq_eq_false_iff_ne.mpr e).symm
theorem Ed(a b:Str):decide ((GQ a:aP)=GQ b)=decide (a=b):=by
 by_cases e:a=b
 ·subst e;simp
 ·have h:¬(GQ a:aP)=GQ b:=fun q=>e (Lp q)
  rw [decide_eq_false h,decide_eq_false e]
theorem CV(a:Int)(b:Str):decide ((IK a:aP)=GQ b)=false:=decide_eq_false (fun q=>nomatch q)
theorem Ck(a:Str)(b:Int):decide ((GQ a:aP)=IK b)=false:=decide_eq_false (fun q=>nomatch q)
def bq(prog:Program)(w:World):PySem.KeyKind prog w aP where
 is:=kO
 hash:=keyH w
 inj:=fun v a b ha hb=>by
  rcases bP ha with ⟨i,t,rfl,rfl⟩|⟨x,t,rfl,rfl⟩
  ·rcases bP hb with ⟨j,u,rfl,e⟩|⟨y,u,rfl,e⟩
   ·injection e with e1 _;rw [e1]
   ·exact nomatch e
  ·rcases bP hb with ⟨j,u,rfl,e⟩|⟨y,u,rfl,e⟩
   ·exact nomatch e
   ·injection e with e1 _;rw [e1]
 byValue:=fun k v h=>by
  rcases bP h with ⟨i,t,rfl,rfl⟩|⟨x,t,rfl,rfl⟩<;>rfl
 pyHash:=fun hv h=>by
  rcases bP hv with ⟨i,t,rfl,rfl⟩|⟨x,t,rfl,rfl⟩
  ·exact wpAny_pyHash_int h
  ·exact wpAny_pyHash_str h
 eqBool:=fun hu hv h=>by
  rcases bP hu with ⟨i,t,rfl,rfl⟩|⟨x,t,rfl,rfl⟩
  ·rcases bP hv with ⟨j,u,rfl,rfl⟩|⟨y,u,rfl,rfl⟩
   ·rw [Ej] at h;exact wpAny_eqBool_int h
   ·rw [CV] at h;exact Lg i t y u _ _ _ _ h
  ·rcases bP hv with ⟨j,u,rfl,rfl⟩|⟨y,u,rfl,rfl⟩
   ·rw [Ck] at h;exact Lf x t j u _ _ _ _ h
   ·rw [Ed] at h;exact wpAny_eqBool_str h
 «strs»:=fun k x t v h=>by
  rcases bP h with ⟨i,u,rfl,e⟩|⟨y,u,rfl,e⟩
  ·exact nomatch e
  ·injection e with e1 _
   subst e1;cases v<;>rfl
theorem no(prog:Program)(w:World)(i:Int)(t:Tok):(bq prog w).is (.inl i) (.int i t)=true:=ug i t
theorem pr(prog:Program)(w:World)(x:Str)(t:Tok):(bq prog w).is (.inr x) (.str x t)=true:=uP x t
end L2
namespace L2
open PySem PySem.Spec PyProof.Rows
inductive V where
 |non|bl (b:Bool)|int (i:Int)|str (x:Str)|byt (b:Array UInt8)|flt (b:UInt64)|ref (a:Addr)|ty (n:String)
 deriving DecidableEq
def RelV:V->Value->Prop
 |.non,u=>u=Ic
 |.bl b,u=>u=IM b
 |.int i,u=>∃t,u=Kp i t
 |.str x,u=>∃t,u=Ko x t
 |.byt b,u=>∃t,u=Value.bytes b t
 |.flt b,u=>∃t,u=LM b t
 |.ref a,u=>u=Hb a
 |.ty n,u=>u=KO n
abbrev Vals:List V->List Value->Prop:=Paired RelV
theorem Vals.length{xs:List V}{us:List Value}(r:Vals xs us):xs.length=us.length:=Ik r
theorem Vals.get:∀{xs:List V} {us:List Value} {i:Nat} {x:V},Vals xs us->xs[i]?=some x->∃u,us[i]?=some u/\RelV x u
 |_,_,_,_,.nil,e=>by simp at e
 |_,_,0,_,.cons r _,e=>by simp at e;subst e;exact ⟨_,rfl,r⟩
 |_,_,i+1,x,.cons _ t,e=>by
  obtain ⟨u,h1,h2⟩:=Vals.get (i:=i) (x:=x) t (by simpa using e)
  exact ⟨u,by simpa using h1,h2⟩
theorem Vals.set{x:V}{u:Value}(r:RelV x u):∀{xs:List V} {us:List Value} (i:Nat),Vals xs us->Vals (xs.set i x) (us.set i u)
 |_,_,_,.nil=>.nil
 |_,_,0,.cons _ t=>.cons r t
 |_,_,i+1,.cons q t=>.cons q (Vals.set r i t)
theorem Vals.append:∀{xs ys:List V} {us ws:List Value},Vals xs us->Vals ys ws->Vals (xs++ys) (us++ws)
 |_,_,_,_,.nil,s=>s
 |_,_,_,_,.cons r t,s=>.cons r (Vals.append t s)
theorem Vals.take:∀{xs:List V} {us:List Value} (n:Nat),Vals xs us->Vals (xs.take n) (us.take n)
 |_,_,0,_=>.nil
 |_,_,_+1,.nil=>.nil
 |_,_,n+1,.cons r t=>.cons r (Vals.take n t)
theorem Vals.drop:∀{xs:List V} {us:List Value} (n:Nat),Vals xs us->Vals (xs.drop n) (us.drop n)
 |_,_,0,r=>r
 |_,_,_+1,.nil=>.nil
 |_,_,n+1,.cons _ t=>Vals.drop n t
def RelO:Option V->Option Value->Prop
 |some v,some u=>RelV v u
 |none,none=>True
 |_,_=>False
def KV{κ:Type}:List (κ×V)->List (κ×Value)->Prop:=Paired fun (p:κ×V) (q:κ×Value)=>p.1=q.1/\RelV p.2 q.2
def kV:aP->V
 |.inl i=>.int i
 |.inr x=>.str x
inductive HO where
  |lst (xs:List V)
  |tup (xs:List V)
  |dK (kvs:List (aP×V))|dT (kvs:List (List aP×V))
  |set (S:Int->Bool) (n:Nat)
  |ins (C dx:Addr) (fs:List (Str×V))
  |own (x:Addr)
  |xd (fs:List (Str×V))
  |met (f x:Addr)
  |rng (lo hi:Int)
  |frz (o:Obj) (u:HO)
  |tbl (ps:Array Value)
  |ext (φ:Heap->Prop)
abbrev Hp:=Addr->Option HO
def upd(H:Hp)(a:Addr)(o:HO):Hp:=fun b=>if b=a then some o else H b
theorem upd_same{H:Hp}{a:Addr}{o:HO}:upd H a o a=some o:=by unfold upd;rw [if_pos rfl]
theorem upd_ne{H:Hp}{a b:Addr}{o:HO}(h:b≠a):upd H a o b=H b:=by unfold upd;rw [if_neg h]
theorem FL{H:Hp}{a b:Addr}{o u:HO}(h:H a=some o)(h':H b=some u)(d:o≠u):a≠b:=by
 intro e;subst e;rw [h] at h';exact d (HC h')
theorem bz{H:Hp}{a b:Addr}{o:HO}(h:H a=some o)(h':H b=none):a≠b:=by
 intro e;subst e;rw [h] at h';cases h'
section
variable (P:Program)(w:World)
def ObjOk(H:Hp)(h:Heap)(a:Addr):HO->Prop
 |.lst xs=>xs.length<=sizeLine/\∃(its:List Value) (n:Nat),Vals xs its/\h.get? a=some { cls:=.type "list",data:=.seq its.toArray n }
 |.tup xs=>xs.length<=sizeLine/\∃its:List Value,Vals xs its/\∃o,h.get? a=some o/\(o.cls=.type "tuple"/\∃n,o.data=.seq its.toArray n)/\o.dict=none
 |.dK kvs=>kvs.length<=sizeLine/\(a==sysModules)=false/\∃vs,KV kvs vs/\h.DictOf (bq P w) a vs
 |.dT kvs=>kvs.length<=sizeLine/\(a==sysModules)=false/\∃xs:List (List aP×Addr×Value),
   Paired (fun (p:List aP×V) (q:List aP×Addr×Value)=>p.1=q.1/\H q.2.1=some (.tup (p.1.map kV))/\RelV p.2 q.2.2) kvs xs/\
   ∃o es ep,h.get? a=some o/\o.ExactDict/\o.data=.dict es ep/\es.toList=xs.map (entryOfKey (tupleKind (bq P w)))/\(xs.map (·.1)).Nodup
 |.set S n=>h.SetOf (intKind P w) a S n
 |.ins C dx fs=>H dx=some (.own a)/\fs.length<=1000/\dx≠a/\h.get? a=some (JA C dx)/\
   ∃mA,h.Ns1 dx mA/\(∀f,RelO (fs.lookup f) (mA f))/\Lq mA (fs.map (·.1))
 |.own _=>∃o,h.get? a=some o
 |.xd fs=>∃mA,h.Ns1 a mA/\∀f,RelO (fs.lookup f) (mA f)
 |.rng lo hi=>∃t u v,h.get? a=some { cls:=.type "range",data:=.fields #[.int lo t,.int hi u,.int 1 v] }
 |.frz o u=>h.get? a=some o/\ObjOk H h a u
 |.tbl ps=>h.get? a=some { cls:=.none,data:=.fields ps }
 |.met f x=>h.get? a=some (W.methodObj (.ref f) (.ref x))
 |.ext φ=>φ h/\(∃o,h.get? a=some o)/\∀h1 h2:Heap,φ h1->(∀o,h1.get? a=some o->h2.get? a=some o)->φ h2
def HOk(H:Hp)(h:Heap):Prop:=∀a o,H a=some o->ObjOk P w H h a o
end
section
variable {P:Program}{w:World}{H H':Hp}{h h':Heap}{a:Addr}{o:HO}
theorem ObjOk.lt(x:ObjOk P w H h a o):a<h.objs.size:=by
 cases o with
 |lst xs=>obtain ⟨_,_,_,_,e⟩:=x;exact GL e
 |tup xs=>obtain ⟨_,_,_,_,e,_⟩:=x;exact GL e
 |dK kvs=>obtain ⟨_,_,_,_,o,_,_,e,_⟩:=x;exact GL e
 |dT kvs=>obtain ⟨_,_,_,_,o,_,_,e,_⟩:=x;exact GL e
 |set S n=>obtain ⟨o,_,_,_,e,_⟩:=x;exact GL e
 |ins C dx fs=>obtain ⟨_,_,_,e,_⟩:=x;exact GL e
 |own y=>obtain ⟨_,e⟩:=x;exact GL e
 |xd fs=>obtain ⟨_,⟨_,_,_,e,_⟩,_⟩:=x;exact GL e
 |rng lo hi=>obtain ⟨_,_,_,e⟩:=x;exact GL e
 |frz ob u=>obtain ⟨e,_⟩:=x;exact GL e
 |tbl ps=>exact GL (show h.get? a=some _ from x)
 |met f y=>exact GL (show h.get? a=some _ from x)
 |ext φ=>obtain ⟨_,⟨_,e⟩,_⟩:=x;exact GL e
theorem dZ{α β:Type}{F G:α->β->Prop}:∀{l₁:List α} {l₂:List β},Paired F l₁ l₂->(∀a b,F a b->G a b)->Paired G l₁ l₂
 |_,_,.nil,_=>.nil
 |_,_,.cons r t,f=>.cons (f _ _ r) (dZ t f)
theorem ObjOk.stay(x:ObjOk P w H h a o)(k:∀b u,(b=a\/H b=some (.own a))->h.get? b=some u->h'.get? b=some u)
  (ho:∀b,H b=some (.own a)->H' b=some (.own a)) (ht:∀b xs,H b=some (.tup xs)->H' b=some (.tup xs)):ObjOk P w H' h' a o:=by
 induction o with
 |lst xs=>obtain ⟨z,its,n,r,e⟩:=x;exact ⟨z,its,n,r,k _ _ (.inl rfl) e⟩
 |tup xs=>obtain ⟨z,its,r,ob,e,c⟩:=x;exact ⟨z,its,r,ob,k _ _ (.inl rfl) e,c⟩
 |dK kvs=>obtain ⟨z,y,vs,r,ob,es,ep,e,c⟩:=x;exact ⟨z,y,vs,r,ob,es,ep,k _ _ (.inl rfl) e,c⟩
 |dT kvs=>
  obtain ⟨z,y,xs,r,ob,es,ep,e,c⟩:=x;exact ⟨z,y,xs,dZ r fun p q z=>⟨z.1,ht _ _ z.2.1,z.2.2⟩,ob,es,ep,k _ _ (.inl rfl) e,c⟩
 |set S n=>obtain ⟨ob,es,ep,t,e,c⟩:=x;exact ⟨ob,es,ep,t,k _ _ (.inl rfl) e,c⟩
 |ins C dx fs=>
  obtain ⟨d,z,ne,e,mA,⟨od,es,ep,e2,c⟩,r⟩:=x;exact ⟨ho _ d,z,ne,k _ _ (.inl rfl) e,mA,⟨od,es,ep,k _ _ (.inr d) e2,c⟩,r⟩
 |own y=>obtain ⟨ob,e⟩:=x;exact ⟨ob,k _ _ (.inl rfl) e⟩
 |xd fs=>obtain ⟨mA,⟨od,es,ep,e,c⟩,r⟩:=x;exact ⟨mA,⟨od,es,ep,k _ _ (.inl rfl) e,c⟩,r⟩
 |rng lo hi=>obtain ⟨t,u,v,e⟩:=x;exact ⟨t,u,v,k _ _ (.inl rfl) e⟩
 |frz ob u ih=>obtain ⟨e,q⟩:=x;exact ⟨k _ _ (.inl rfl) e,ih q⟩
 |tbl ps=>
  have e:h.get? a=some { cls:=.none,data:=.fields ps }:=x;show h'.get? a=some { cls:=.none,data:=.fields ps };exact k a _ (.inl rfl) e
 |met f y=>
  have e:h.get? a=some (W.methodObj (.ref f) (.ref y)):=x;show h'.get? a=some (W.methodObj (.ref f) (.ref y));exact k a _ (.inl rfl) e
 |ext φ=>obtain ⟨p,⟨o,e⟩,st⟩:=x;exact ⟨st _ _ p fun o q=>k _ _ (.inl rfl) q,⟨o,k _ _ (.inl rfl) e⟩,st⟩
theorem HOk.lt(x:HOk P w H h)(e:H a=some o):a<h.objs.size:=(x a o e).lt
theorem HOk.fresh(x:HOk P w H h)(e:h.objs.size<=a):H a=none:=by
 cases q:H a with
 |none=>rfl
 |some u=>exact absurd (GS (x.lt q) e) (HJ _)
theorem HOk.kept(x:HOk P w H h)(k:∀b u,h.get? b=some u->h'.get? b=some u):HOk P w H h':=fun a o e=>
 (x a o e).stay (fun b u _ q=>k b u q) (fun _ q=>q) fun _ _ q=>q
theorem HOk.laid(x:HOk P w H h)(k:∀b u,h.get? b=some u->h'.get? b=some u)(hp:h.objs.size<=a)(new:ObjOk P w (upd H a o) h' a o):HOk P w (upd H a o) h':=fun b u e=>by
 have hn:=x.fresh hp
 by_cases hb:b=a
 ·subst hb;rw [upd_same] at e;cases e;exact new
 ·rw [upd_ne hb] at e
  exact (x b u e).stay (fun c v _ q=>k c v q) (fun c q=>by rw [upd_ne (bz q hn)];exact q) fun c xs q=>by rw [upd_ne (bz q hn)];exact q
end
def Rd(H:Hp)(a:Addr)(u:HO):Prop:=H a=some u\/∃o,H a=some (.frz o u)
theorem Rd.ok{P:Program}{w:World}{H:Hp}{h:Heap}{a:Addr}{u:HO}(r:Rd H a u)(x:HOk P w H h):ObjOk P w H h a u:=by
 rcases r with r|⟨o,r⟩
 ·exact x a u r
 ·obtain ⟨_,q⟩:=x a _ r
  exact q
def Gv:Option HO->Prop
 |some (.lst _)=>True
 |some (.dK _)=>True
 |some (.dT _)=>True
 |some (.set _ _)=>True
 |some (.ins _ _ _)=>True
 |some (.ext _)=>True
 |_=>False
section
variable {P:Program}{w:World}{H:Hp}{h h':Heap}{x e:Addr}{o':HO}
theorem HOk.write(ok:HOk P w H h)(mu:Gv (H x))(he:e=x\/H e=some (.own x))(k:∀b u,b≠e->h.get? b=some u->h'.get? b=some u)(heo:∃u,h'.get? e=some u)
  (new:ObjOk P w (upd H x o') h' x o'):HOk P w (upd H x o') h':=fun b u q=>by
 have nown:∀c y,H c=some (.own y)->c≠x:=fun c y r z=>by subst z;rw [r] at mu;exact mu
 have ntup:∀c xs,H c=some (.tup xs)->c≠x:=fun c xs r z=>by subst z;rw [r] at mu;exact mu
 by_cases hb:b=x
 ·subst hb;rw [upd_same] at q;cases q;exact new
 ·rw [upd_ne hb] at q
  by_cases hbe:b=e
  ·have q':H b=some (.own x):=by
    rcases he with z|z
    ·exact absurd (hbe.trans z) hb
    ·rw [hbe];exact z
   rw [q] at q';cases q';obtain ⟨v,hv⟩:=heo;exact ⟨v,by rw [hbe];exact hv⟩
  ·refine (ok b u q).stay (fun c v hc r=>k c v ?_ r) (fun c r=>by rw [upd_ne (nown c b r)];exact r) fun c xs r=>by rw [upd_ne (ntup c xs r)];exact r
   rcases hc with rfl|hc
   ·exact hbe
   ·rintro rfl
    rcases he with z|z
    ·exact nown c b hc z
    ·rw [hc] at z;cases z;exact hb rfl
end
structure Un(fs ex:List Addr)(H H':Hp)(h h':Heap):Prop where
 keep:∀b o,h.get? b=some o->H b=none->b∉fs->b∉ex->h'.get? b=some o
 slot:∀b o,h.get? b=some o->H b=none->b∈fs->b∉ex->∃sl,h'.get? b=some { o with slots:=sl }
 free:∀b o,h.get? b=some o->H b=none->b∉ex->H' b=none
 there:∀b o,h.get? b=some o->b∉ex->∃o',h'.get? b=some o'
 tups:∀b xs,H b=some (.tup xs)->H' b=some (.tup xs)
 frzs:∀b o u,H b=some (.frz o u)->H' b=some (.frz o u)
 tbls:∀b ps,H b=some (.tbl ps)->∃more,H' b=some (.tbl (ps++more))
section
variable {fs fs' ex ex':List Addr}{H H1 H2:Hp}{h h1 h2 h':Heap}{a x e:Addr}{o:HO}
theorem Un.any(u:Un fs ex H H1 h h1){b:Addr}{ob:Obj}(q:h.get? b=some ob)(n:H b=none)(hx:b∉ex):∃sl,h1.get? b=some { ob with slots:=sl }:=by
 by_cases hb:b∈fs
 ·exact u.slot b ob q n hb hx
 ·exact ⟨ob.slots,u.keep b ob q n hb hx⟩
theorem Un.kept(k:∀b u,h.get? b=some u->h'.get? b=some u):Un fs ex H H h h':=
 ⟨fun b ob q _ _ _=>k b ob q,fun b ob q _ _ _=>⟨ob.slots,k b ob q⟩,fun _ _ _ n _=>n,fun b ob q _=>⟨ob,k b ob q⟩,fun _ _ q=>q,fun _ _ _ q=>q,fun _ ps q=>⟨#[],by rw [q];simp⟩⟩
theorem Un.refl:Un fs ex H H h h:=Un.kept fun _ _ q=>q
theorem Un.laid(k:∀b u,h.get? b=some u->h'.get? b=some u)(hp:h.objs.size<=a)(hn:H a=none):Un fs ex H (upd H a o) h h' where
 keep:=fun b u q _ _ _=>k b u q
 slot:=fun b u q _ _ _=>⟨u.slots,k b u q⟩
 free:=fun b u q n _=>by rw [upd_ne (GW (GS (GL q) hp))];exact n
 there:=fun b u q _=>⟨u,k b u q⟩
 tups:=fun b xs q=>by rw [upd_ne (bz q hn)];exact q
 frzs:=fun b u xs q=>by rw [upd_ne (bz q hn)];exact q
 tbls:=fun b ps q=>⟨#[],by rw [upd_ne (bz q hn),q];simp⟩
theorem Un.write(mu:Gv (H x))(he:e=x\/H e=some (.own x))(k:∀b u,b≠e->h.get? b=some u->h'.get? b=some u)(heo:∃u,h'.get? e=some u):Un fs ex H (upd H x o) h h':=by
 have hx:∀b,H b=none->b≠x:=fun b n z=>by subst z;rw [n] at mu;exact mu
 have hb:∀b,H b=none->b≠e:=fun b n z=>by
  subst z;rcases he with r|r
  ·exact hx b n r
  ·rw [n] at r;cases r
 have hm:∀b u,H b=some u->¬Gv (some u)->b≠x:=fun b u q nm z=>by subst z;rw [q] at mu;exact nm mu
 refine ⟨fun b u q n _ _=>k b u (hb b n) q,fun b u q n _ _=>⟨u.slots,k b u (hb b n) q⟩,fun b u q n _=>by rw [upd_ne (hx b n)];exact n,fun b u q _=>?_,
  fun b xs q=>by rw [upd_ne (hm b _ q fun z=>z)];exact q,fun b u xs q=>by rw [upd_ne (hm b _ q fun z=>z)];exact q,fun b ps q=>⟨#[],by rw [upd_ne (hm b _ q fun z=>z),q];simp⟩⟩
 by_cases hbe:b=e
 ·subst hbe;exact heo
 ·exact ⟨u,k b u hbe q⟩
end
def trk(h:Heap)(H:Hp):List Addr:=(HA h.objs.size).filter fun a=>(H a).isSome
def lZ(h:Heap)(H:Hp):Heap:=KJ h (trk h H)
theorem uD(h:Heap)(H:Hp):(lZ h H).objs.size=h.objs.size:=W.hideAll_size _ _
theorem vC{h:Heap}{H:Hp}{b:Addr}{o:Obj}(e:h.get? b=some o)(n:H b=none):(lZ h H).get? b=some o:=
 W.hideAll_get _ e fun hm=>by
  have q:(H b).isSome=true:=(Jk.mp hm).2;rw [n] at q;simp at q
theorem Ab{h:Heap}{H:Hp}{b:Addr}{o:Obj}(e:(lZ h H).get? b=some o):h.get? b=some o/\H b=none:=by
 have e':h.get? b=some o:=W.of_hideAll (trk h H) e;refine ⟨e',?_⟩;cases q:H b with
 |none=>rfl
 |some x=>
  have hm:b∈trk h H:=Jk.mpr ⟨HZ.mpr (GL e'),by simp [q]⟩
  have z:(lZ h H).get? b=none:=W.hideAll_none (trk h H) hm;rw [z] at e;cases e
end L2
namespace L2
open PySem PySem.Spec PyProof.Rows
structure Mod(K:GH)(mg:Str->Option Value)(base:Heap):Prop where
 kin:K.In base
 glob:base.Ns mainGlobals mg
 blt:∃mb,base.Ns builtinsNs mb/\∀x:Str,x≠"__name__"->mb x=bootBuiltins x
 nolimit:base.NoLimit
structure Cx where
 prog:Program
 w:World
 K:GH
 mg:Str->Option Value
 base:Heap
 A:Around
 N:List Str
 s₀:Shared
 H₀:Hp
 env:Env
 outer:List Env
 stack:List Env
 ex:List Addr
 fn:Str->Bool
 calm:Bool
 pn:List (Addr×Obj)
 xe:Value->Shared->Prop
def fL(l:List Env):List Addr:=l.filterMap (·.frame)
abbrev Cx.fs(X:Cx):List Addr:=fL X.outer
def EH(sc:Scope)(x:Str):Prop:=sc.names.lookup x=some .local\/sc.names.lookup x=some .cell\/sc.names.lookup x=some .free
def BI(sc:Scope)(x:Str):Prop:=sc.names.lookup x=some .local\/sc.names.lookup x=some .cell
def Look(env:Env)(h:Heap)(m:Str->Option Value)(x:Str)(u:Value):Prop:=
 (env.kindOf x=some .local/\m x=some u)\/((env.kindOf x=some .cell\/env.kindOf x=some .free)/\∃c,env.cells.lookup x=some c/\h.IsCell c (some u))
structure Cx.Ok(X:Cx):Prop where
 mod:Mod X.K X.mg X.base
 kind:X.env.scope.kind=.function
 glob:X.env.globals=mainGlobals
 blt:X.env.builtins=builtinsNs
 above:X.s₀.heap.objs.size<=X.env.locals
 inj:∀x y c,X.env.cells.lookup x=some c->X.env.cells.lookup y=some c->x=y
 has:∀x,(X.env.kindOf x=some .cell\/X.env.kindOf x=some .free)->∃c,X.env.cells.lookup x=some c
 cab:∀x c,X.fn x=true->X.env.cells.lookup x=some c->X.s₀.heap.objs.size<=c
 hd:X.calm=true->X.A.handled=none
 frames:X.A.frames=some X.stack
 stk:X.stack=X.outer\/(X.stack=X.env::X.outer/\X.env.frame=some X.env.locals)
 exf:∀b∈X.ex,b≠X.env.locals/\∀x c,X.env.cells.lookup x=some c->c≠b
 bs:∀b o,X.base.get? b=some o->X.s₀.heap.get? b=some o/\X.H₀ b=none
 bsz:X.base.objs.size<=X.s₀.heap.objs.size
 noex:∀b o,X.base.get? b=some o->b∉X.ex
 exfs:∀b∈X.ex,b∉X.fs
 funs:X.s₀.heap.FunFrames X.base X.outer
 frf:∀b∈X.fs,X.H₀ b=none
structure Inv(X:Cx)(pins:List (Addr×Obj))(σ:List (Option V))(H:Hp)(s:Shared):Prop where
 ok:X.Ok
 os:s.os=X.s₀.os
 bare:AllBare s.gens
 base:Un X.fs X.ex X.H₀ H X.s₀.heap s.heap
 loc:∃m,s.heap.Ns X.env.locals m/\∀(i:Nat) (x:Str) (v:V),X.N[i]?=some x->σ[i]?=some (some v)->EH X.env.scope x->∃u,RelV v u/\Look X.env s.heap m x u
 cell:∀x c,X.env.cells.lookup x=some c->∃v,s.heap.IsCell c v
 free:H X.env.locals=none
 freeC:∀x c,X.env.cells.lookup x=some c->H c=none
 pin:∀p∈X.pn++pins,s.heap.get? p.1=some p.2/\H p.1=none/\p.1≠X.env.locals/\p.1∉X.fs/\∀v,p.2.data≠.cell v
 hok:HOk X.prog X.w H s.heap
 len:σ.length=X.N.length
section
variable {X:Cx}{pins:List (Addr×Obj)}{σ:List (Option V)}{H H':Hp}{s:Shared}{h':Heap}
theorem Cx.Ok.nofr(ok:X.Ok){b:Addr}{o:Obj}(e:X.base.get? b=some o):b∉X.fs:=fun hb=>by
 have:=(ok.funs.mem hb).1;rw [e] at this;cases this
theorem Inv.bs(I:Inv X pins σ H s):∀b o,X.base.get? b=some o->s.heap.get? b=some o/\H b=none:=fun b o e=>
 ⟨I.base.keep b o (I.ok.bs b o e).1 (I.ok.bs b o e).2 (I.ok.nofr e) (I.ok.noex b o e),I.base.free b o (I.ok.bs b o e).1 (I.ok.bs b o e).2 (I.ok.noex b o e)⟩
theorem Inv.bk(I:Inv X pins σ H s):∀b o,X.base.get? b=some o->s.heap.get? b=some o:=fun b o e=>(I.bs b o e).1
theorem Inv.mod(I:Inv X pins σ H s):Mod X.K X.mg X.base:=I.ok.mod
theorem Inv.kIn(I:Inv X pins σ H s):X.K.In s.heap:=I.ok.mod.kin.keeps I.bk
theorem Inv.lt(I:Inv X pins σ H s):X.env.locals<s.heap.objs.size:=let ⟨_,hn,_⟩:=I.loc;hn.lt
theorem Inv.sz(I:Inv X pins σ H s):X.s₀.heap.objs.size<=s.heap.objs.size:=Hd I.ok.above (LR I.lt)
theorem Inv.nofs(I:Inv X pins σ H s){a:Addr}(h:s.heap.objs.size<=a):a∉X.fs:=fun hb=>by
 obtain ⟨_,o,ho,_⟩:=I.ok.funs.mem hb;exact absurd (GS (GL ho) (Hd I.sz h)) (HJ _)
theorem Inv.cne(I:Inv X pins σ H s):∀x c,X.env.cells.lookup x=some c->c≠X.env.locals:=fun x c e z=>by
 obtain ⟨v,o,ho,hd⟩:=I.cell x c e;obtain ⟨m,⟨o',es,ep,ho',hd',_⟩,_⟩:=I.loc;rw [z,ho'] at ho;cases ho;rw [hd'] at hd;cases hd
theorem Inv.funs(I:Inv X pins σ H s):s.heap.FunFrames X.base X.outer:=by
 have all:∀(l:List Env),(∀b∈fL l,b∈X.fs)->X.s₀.heap.FunFrames X.base l->s.heap.FunFrames X.base l:=by
  intro l
  induction l with
  |nil=>intro _ _;trivial
  |cons env r ih=>
   intro hs hl;obtain ⟨hk,⟨L,o,hf,hn,ho,hd⟩,hr⟩:=hl;have hL:L∈X.fs:=hs L (by unfold fL;rw [IA,hf];exact Js)
   obtain ⟨sl,e⟩:=I.base.slot L o ho (I.ok.frf L hL) hL fun z=>I.ok.exfs L z hL;exact ⟨hk,⟨L,_,hf,hn,e,hd⟩,ih (fun b hb=>hs b (by unfold fL;rw [IA,hf];exact Hf _ hb)) hr⟩
 exact all X.outer (fun _ hb=>hb) I.ok.funs
theorem Inv.stack(I:Inv X pins σ H s):s.heap.FunFrames X.base X.stack:=by
 rcases I.ok.stk with e|⟨e,hf⟩
 ·rw [e];exact I.funs
 ·rw [e]
  obtain ⟨m,hn,_⟩:=I.loc;refine .cons (by rw [I.ok.kind];decide) hf hn ?_ I.funs
  exact Heap.get?_none_of_le (Hd I.ok.bsz I.ok.above)
theorem Inv.stkSub(I:Inv X pins σ H s):∀b∈fL X.stack,b∈X.env.locals::X.fs:=fun b hb=>by
 rcases I.ok.stk with e|⟨e,hf⟩
 ·rw [e] at hb;exact Hf _ hb
 ·rw [e] at hb
  unfold fL at hb;rw [IA,hf] at hb;exact hb
theorem Inv.stkFree(I:Inv X pins σ H s):∀b∈fL X.stack,H b=none:=fun b hb=>by
 rcases Hq.mp (I.stkSub b hb) with e|hb
 ·rw [e];exact I.free
 ·obtain ⟨_,o,ho,_⟩:=I.ok.funs.mem hb
  exact I.base.free b o ho (I.ok.frf b hb) fun z=>I.ok.exfs b z hb
theorem Inv.step{g':Array GenState}{t':Nat}{d':Drawn}{ch:List Addr}(I:Inv X pins σ H s)
  (hch:∀b∈ch,(b∈X.ex\/X.s₀.heap.objs.size<=b)/\b≠X.env.locals/\(∀x c,X.env.cells.lookup x=some c->c≠b)/\∀p∈X.pn++pins,p.1≠b)
  (keep:∀b o,b≠X.env.locals->b∉X.fs->b∉ch->s.heap.get? b=some o->H b=none->h'.get? b=some o)
  (slot:∀b o,b≠X.env.locals->b∈X.fs->b∉ch->s.heap.get? b=some o->H b=none->∃sl,h'.get? b=some { o with slots:=sl }) (free:∀b o,b∉ch->s.heap.get? b=some o->H b=none->H' b=none)
  (there:∀b o,b∉ch->s.heap.get? b=some o->∃o',h'.get? b=some o')
  (tups:∀b xs,H b=some (.tup xs)->H' b=some (.tup xs)) (frzs:∀b o u,H b=some (.frz o u)->H' b=some (.frz o u)) (tbls:∀b ps,H b=some (.tbl ps)->∃more,H' b=some (.tbl (ps++more)))
  (ns:∀m,s.heap.Ns X.env.locals m->h'.Ns X.env.locals m) (hok:HOk X.prog X.w H' h') (hg:AllBare g'):
  Inv X pins σ H' { s with heap:=h',gens:=g',drawn:=d',toks:=t' }:=by
 have neL:∀b o,X.s₀.heap.get? b=some o->b≠X.env.locals:=fun b o e=>GW (GS (GL e) I.ok.above);have neC:∀b o,X.s₀.heap.get? b=some o->b∉X.ex->b∉ch:=fun b o e hx hb=>by
  rcases (hch b hb).1 with z|z
  ·exact hx z
  ·exact absurd (GS (GL e) z) (HJ _)
 have cellK:∀x c,X.env.cells.lookup x=some c->∀v,s.heap.IsCell c v->h'.IsCell c v:=fun x c e v ⟨o,ho,hd⟩=>by
  have nch:c∉ch:=fun z=>(hch c z).2.2.1 x c e rfl
  by_cases hc:c∈X.fs
  ·obtain ⟨sl,q⟩:=slot c o (I.cne x c e) hc nch ho (I.freeC x c e)
   exact ⟨_,q,hd⟩
  ·exact ⟨o,keep c o (I.cne x c e) hc nch ho (I.freeC x c e),hd⟩
 refine ⟨I.ok,I.os,hg,⟨fun b o e n hb hx=>?_,fun b o e n hb hx=>?_,fun b o e n hx=>?_,fun b o e hx=>?_,fun b xs e=>tups b xs (I.base.tups b xs e),fun b o xs e=>frzs b o xs (I.base.frzs b o xs e),fun b ps e=>?_⟩,?_,fun x c e=>?_,?_,fun x c e=>?_,fun p hp=>?_,hok,I.len⟩
 ·exact keep b o (neL b o e) hb (neC b o e hx) (I.base.keep b o e n hb hx) (I.base.free b o e n hx)
 ·obtain ⟨sl,e1⟩:=I.base.slot b o e n hb hx
  obtain ⟨sl',e2⟩:=slot b _ (neL b o e) hb (neC b o e hx) e1 (I.base.free b o e n hx);exact ⟨sl',e2⟩
 ·obtain ⟨o',e1⟩:=I.base.there b o e hx
  exact free b o' (neC b o e hx) e1 (I.base.free b o e n hx)
 ·obtain ⟨o',e1⟩:=I.base.there b o e hx
  exact there b o' (neC b o e hx) e1
 ·obtain ⟨m1,e1⟩:=I.base.tbls b ps e
  obtain ⟨m2,e2⟩:=tbls b _ e1;exact ⟨m1++m2,by rw [e2,Kd]⟩
 ·obtain ⟨m,hn,hl⟩:=I.loc
  refine ⟨m,ns m hn,fun i x v e1 e2 e3=>?_⟩;obtain ⟨u,r,l⟩:=hl i x v e1 e2 e3;refine ⟨u,r,?_⟩;rcases l with l|⟨k,c,e,z⟩
  ·exact .inl l
  ·exact .inr ⟨k,c,e,cellK x c e _ z⟩
 ·obtain ⟨v,z⟩:=I.cell x c e
  exact ⟨v,cellK x c e v z⟩
 ·obtain ⟨m,⟨o,_,_,ho,_⟩,_⟩:=I.loc
  exact free _ o (fun z=>(hch _ z).2.1 rfl) ho I.free
 ·obtain ⟨v,o,ho,hd⟩:=I.cell x c e
  exact free c o (fun z=>(hch c z).2.2.1 x c e rfl) ho (I.freeC x c e)
 ·obtain ⟨e,n,ne,nf,d⟩:=I.pin p hp
  have nch:p.1∉ch:=fun z=>(hch p.1 z).2.2.2 p hp rfl;exact ⟨keep p.1 p.2 ne nf nch e n,free p.1 p.2 nch e n,ne,nf,d⟩
theorem Inv.un{t':Nat}(I:Inv X pins σ H s)(u:Un X.fs [] H H' s.heap h')(hok:HOk X.prog X.w H' h'):Inv X pins σ H' { s with heap:=h',toks:=t' }:=by
 obtain ⟨m,⟨o,es,ep,ho,r⟩,_⟩:=id I.loc;obtain ⟨sl,hL⟩:=u.any ho I.free (by simp)
 exact I.step (g':=s.gens) (d':=s.drawn) (ch:=[]) (fun _ z=>nomatch z) (fun b o _ hb _ e n=>u.keep b o e n hb (by simp)) (fun b o _ hb _ e n=>u.slot b o e n hb (by simp)) (fun b o _ e n=>u.free b o e n (by simp)) (fun b o _ e=>u.there b o e (by simp)) u.tups u.frzs u.tbls (fun m' hm=>by
  obtain ⟨o',es',ep',ho',r'⟩:=hm;rw [ho] at ho';cases ho';exact ⟨_,es',ep',hL,r'⟩) hok I.bare
theorem Inv.call{g':Array GenState}{t':Nat}{d':Drawn}{ch:List Addr}(I:Inv X pins σ H s)(u:Un (fL X.stack) ch H H' s.heap h')(hok:HOk X.prog X.w H' h')(hg:AllBare g')
  (hch:∀b∈ch,(b∈X.ex\/X.s₀.heap.objs.size<=b)/\b≠X.env.locals/\(∀x c,X.env.cells.lookup x=some c->c≠b)/\∀p∈X.pn++pins,p.1≠b):
  Inv X pins σ H' { s with heap:=h',gens:=g',drawn:=d',toks:=t' }:=by
 obtain ⟨m,⟨o,es,ep,ho,r⟩,_⟩:=id I.loc;obtain ⟨sl,hL⟩:=u.any ho I.free fun z=>(hch _ z).2.1 rfl;exact I.step (ch:=ch) hch (fun b o hL hb hc e n=>u.keep b o e n (fun z=>(Hq.mp (I.stkSub b z)).elim hL hb) hc) (fun b o _ _ hc e n=>u.any e n hc) (fun b o hc e n=>u.free b o e n hc) (fun b o hc e=>u.there b o e hc) u.tups u.frzs u.tbls (fun m' hm=>by
  obtain ⟨o',es',ep',ho',r'⟩:=hm;rw [ho] at ho';cases ho';exact ⟨_,es',ep',hL,r'⟩) hok hg
theorem Inv.turned{t':Nat}{it:Addr}(I:Inv X pins σ H s)(k:∀b o,b≠it->s.heap.get? b=some o->h'.get? b=some o)(hn:H it=none)(hL:it≠X.env.locals)
  (h1:it∈X.ex\/X.s₀.heap.objs.size<=it) (h2:∀x c,X.env.cells.lookup x=some c->c≠it) (h3:∀p∈X.pn++pins,p.1≠it):Inv X pins σ H { s with heap:=h',toks:=t' }:=by
 have nit:∀b u,H b=some u->b≠it:=fun b u e z=>by rw [z,hn] at e;cases e
 refine I.step (g':=s.gens) (d':=s.drawn) (ch:=[it]) (fun b hb=>?_) (fun b o _ _ hc e _=>k b o (fun z=>hc (by simp [z])) e) (fun b o _ _ hc e _=>⟨o.slots,k b o (fun z=>hc (by simp [z])) e⟩) (fun _ _ _ _ n=>n)
  (fun b o hc e=>⟨o,k b o (fun z=>hc (by simp [z])) e⟩) (fun _ _ e=>e) (fun _ _ _ e=>e) (fun b ps e=>⟨#[],by rw [e];simp⟩) (fun m hm=>?_) (fun b u e=>?_) I.bare
 ·have e:b=it:=by simpa using hb
  subst e;exact ⟨h1,hL,h2,h3⟩
 ·obtain ⟨o,es,ep,ho,r⟩:=hm
  exact ⟨o,es,ep,k _ o (Hw hL) ho,r⟩
 ·refine (I.hok b u e).stay (fun c v hc q=>k c v ?_ q) (fun _ q=>q) fun _ _ q=>q
  rcases hc with z|z
  ·rw [z];exact nit b u e
  ·exact nit c _ z
theorem Inv.tok(I:Inv X pins σ H s)(t:Nat):Inv X pins σ H { s with toks:=t }:=I.un (h':=s.heap) (t':=t) Un.refl I.hok
theorem Inv.kept{t':Nat}(I:Inv X pins σ H s)(k:∀b u,s.heap.get? b=some u->h'.get? b=some u):Inv X pins σ H { s with heap:=h',toks:=t' }:=I.un (Un.kept k) (I.hok.kept k)
theorem Inv.laid{a:Addr}{o:HO}{t':Nat}(I:Inv X pins σ H s)(k:∀b u,s.heap.get? b=some u->h'.get? b=some u)(hp:s.heap.objs.size<=a)(new:ObjOk X.prog X.w (upd H a o) h' a o):
  Inv X pins σ (upd H a o) { s with heap:=h',toks:=t' }:=I.un (Un.laid k hp (I.hok.fresh hp)) (I.hok.laid k hp new)
theorem Inv.write{x e:Addr}{o:HO}{t':Nat}(I:Inv X pins σ H s)(mu:Gv (H x))(he:e=x\/H e=some (.own x))(k:∀b u,b≠e->s.heap.get? b=some u->h'.get? b=some u)(heo:∃u,h'.get? e=some u)
  (new:ObjOk X.prog X.w (upd H x o) h' x o):Inv X pins σ (upd H x o) { s with heap:=h',toks:=t' }:=I.un (Un.write mu he k heo) (I.hok.write mu he k heo new)
theorem Inv.pins_of{pins':List (Addr×Obj)}(I:Inv X pins σ H s)(h:∀p∈pins',s.heap.get? p.1=some p.2/\H p.1=none/\p.1≠X.env.locals/\p.1∉X.fs/\∀v,p.2.data≠.cell v):Inv X pins' σ H s:=
 ⟨I.ok,I.os,I.bare,I.base,I.loc,I.cell,I.free,I.freeC,fun p hp=>(Hm.mp hp).elim (fun z=>I.pin p (Ji _ z)) (h p),I.hok,I.len⟩
theorem pe{N:List Str}(hN:N.Nodup){i j:Nat}{x:Str}(a:N[i]?=some x)(b:N[j]?=some x):i=j:=by
 obtain ⟨h1,e1⟩:=HU.mp a;obtain ⟨h2,e2⟩:=HU.mp b;exact (List.getElem_inj hN).mp (e1.trans e2.symm)
theorem uO{M:Model}{A:Around}{E:Value->Shared->Prop}{i:Nat}{x:Str}{v:V}{u:Value}{Q:Unit->Shared->Prop}(I:Inv X pins σ H s)(hN:X.N.Nodup)(hi:X.N[i]?=some x)(hx:BI X.env.scope x)(r:RelV v u)
  (h:∀s',Inv X pins (σ.set i (some v)) H s'->(∃a,Im a s.heap s'.heap/\(a=X.env.locals\/X.env.cells.lookup x=some a))->Q () s') (hf:X.fn x=true\/X.env.scope.names.lookup x=some .local:=by first|exact .inl rfl|exact .inr rfl|assumption):wpAny M A (storeName X.env x u) Q E s:=by
 obtain ⟨m,hn,hl⟩:=id I.loc;have hcls:(X.env.scope.kind==.class||(X.env.scope.kind==.module&&X.env.locals != X.env.globals))=false:=by rw [I.ok.kind];rfl
 have hiσ:i<σ.length:=by rw [I.len];exact (HU.mp hi).1
 have cne:=I.cne;have tracked:∀{a:Addr} {h':Heap},(∃o,s.heap.get? a=some o/\H a=none)->Im a s.heap h'->HOk X.prog X.w H h':=fun {a h'} ha hs b ob e=>by
  obtain ⟨_,_,hfree⟩:=ha;refine (I.hok b ob e).stay (fun c w' hc q=>(hs.2 c ?_).trans q) (fun _ q=>q) fun _ _ q=>q
  rintro rfl
  rcases hc with rfl|hc
  ·rw [hfree] at e;cases e
  ·rw [hfree] at hc;cases hc
 rcases hx with hk|hk
 ·refine wpAny_storeName_local hk hn (fun h' hn' hs=>?_) hcls
  obtain ⟨oL,_,_,hoL,_⟩:=id hn;refine h _ ⟨I.ok,I.os,I.bare,⟨fun b o e n hb hx=>?_,fun b o e n hb hx=>?_,I.base.free,fun b o e hx=>?_,I.base.tups,I.base.frzs,I.base.tbls⟩,⟨_,hn',fun j y v' e1 e2 e3=>?_⟩,fun y c e=>?_,I.free,I.freeC,fun p hp=>?_,tracked ⟨oL,hoL,I.free⟩ hs,by simpa using I.len⟩ ⟨_,hs,.inl rfl⟩
  ·exact (hs.2 b (GW (GS (GL e) I.ok.above))).trans (I.base.keep b o e n hb hx)
  ·obtain ⟨sl,e1⟩:=I.base.slot b o e n hb hx
   exact ⟨sl,(hs.2 b (GW (GS (GL e) I.ok.above))).trans e1⟩
  ·obtain ⟨o',e1⟩:=I.base.there b o e hx
   exact ⟨o',(hs.2 b (GW (GS (GL e) I.ok.above))).trans e1⟩
  ·by_cases hj:j=i
   ·subst hj
    rw [hi] at e1;cases e1;rw [LI hiσ] at e2;cases e2;exact ⟨u,r,.inl ⟨hk,by simp⟩⟩
   ·rw [L8 (Hw hj)] at e2
    obtain ⟨u',r',q⟩:=hl j y v' e1 e2 e3;refine ⟨u',r',?_⟩;rcases q with ⟨k,e⟩|⟨k,c,e,z⟩
    ·refine .inl ⟨k,?_⟩
     have:y≠x:=fun e=>hj (pe hN e1 (e▸hi));simp [this,e]
    ·exact .inr ⟨k,c,e,z.sameBut hs (cne y c e)⟩
  ·obtain ⟨w',z⟩:=I.cell y c e
   exact ⟨w',z.sameBut hs (cne y c e)⟩
  ·obtain ⟨e,n,ne,nf,d⟩:=I.pin p hp
   exact ⟨(hs.2 p.1 ne).trans e,n,ne,nf,d⟩
 ·have hfn:X.fn x=true:=by
   rcases hf with z|z
   ·exact z
   ·rw [z] at hk;cases hk
  obtain ⟨c,hc⟩:=I.ok.has x (.inl hk);obtain ⟨w',z⟩:=I.cell x c hc;refine wpAny_storeName_cell I.ok.kind hk hc z (fun h' hc' hs=>?_);obtain ⟨oc,hoc,hocd⟩:=id z;refine h { s with heap:=h' } ⟨I.ok,I.os,I.bare,⟨fun b o e n hb hx=>?_,fun b o e n hb hx=>?_,I.base.free,fun b o e hx=>?_,I.base.tups,I.base.frzs,I.base.tbls⟩,⟨m,hn.sameBut hs (Hw (cne x c hc)),fun j y v' e1 e2 e3=>?_⟩,fun y c' e=>?_,I.free,I.freeC,fun p hp=>?_,tracked ⟨oc,hoc,I.freeC x c hc⟩ hs,by simpa using I.len⟩ ⟨c,hs,.inr hc⟩
  ·exact (hs.2 b (GW (GS (GL e) (I.ok.cab x c hfn hc)))).trans (I.base.keep b o e n hb hx)
  ·obtain ⟨sl,e1⟩:=I.base.slot b o e n hb hx
   exact ⟨sl,(hs.2 b (GW (GS (GL e) (I.ok.cab x c hfn hc)))).trans e1⟩
  ·obtain ⟨o',e1⟩:=I.base.there b o e hx
   exact ⟨o',(hs.2 b (GW (GS (GL e) (I.ok.cab x c hfn hc)))).trans e1⟩
  ·by_cases hj:j=i
   ·subst hj
    rw [hi] at e1;cases e1;rw [LI hiσ] at e2;cases e2;exact ⟨u,r,.inr ⟨.inl hk,c,hc,hc'⟩⟩
   ·rw [L8 (Hw hj)] at e2
    obtain ⟨u',r',q⟩:=hl j y v' e1 e2 e3;refine ⟨u',r',?_⟩;rcases q with q|⟨k,c',e,z'⟩
    ·exact .inl q
    ·refine .inr ⟨k,c',e,z'.sameBut hs ?_⟩
     rintro rfl
     exact hj (pe hN e1 (I.ok.inj _ _ _ e hc▸hi))
  ·by_cases hcc:c'=c
   ·subst hcc;exact ⟨_,hc'⟩
   ·obtain ⟨w2,z2⟩:=I.cell y c' e
    exact ⟨w2,z2.sameBut hs hcc⟩
  ·obtain ⟨e,n,ne,nf,d⟩:=I.pin p hp
   refine ⟨(hs.2 p.1 ?_).trans e,n,ne,nf,d⟩;intro q;rw [q,hoc] at e;have q':oc=p.2:=HC e;exact d w' (by rw [<- q'];exact hocd)
theorem store_ok{M:Model}{A:Around}{E:Value->Shared->Prop}{i:Nat}{x:Str}{v:V}{u:Value}{Q:Unit->Shared->Prop}(I:Inv X pins σ H s)(hN:X.N.Nodup)(hi:X.N[i]?=some x)(hx:BI X.env.scope x)(r:RelV v u)
  (h:∀s',Inv X pins (σ.set i (some v)) H s'->Q () s') (hf:X.fn x=true\/X.env.scope.names.lookup x=some .local:=by first|exact .inl rfl|exact .inr rfl|assumption):wpAny M A (storeName X.env x u) Q E s:=
 uO I hN hi hx r (fun s' I' _=>h s' I') hf
theorem Inv.call'{s':Shared}{ch:List Addr}(I:Inv X pins σ H s)(ho:s'.os=s.os)(u:Un (fL X.stack) ch H H' s.heap s'.heap)(hok:HOk X.prog X.w H' s'.heap)(hg:AllBare s'.gens)
  (hch:∀b∈ch,(b∈X.ex\/X.s₀.heap.objs.size<=b)/\b≠X.env.locals/\(∀x c,X.env.cells.lookup x=some c->c≠b)/\∀p∈X.pn++pins,p.1≠b):Inv X pins σ H' s':=by
 obtain ⟨h',g',d',t',o'⟩:=s';have e:o'=s.os:=ho;subst e;exact I.call (g':=g') (t':=t') (d':=d') u hok hg hch
end
abbrev XK:=Value->Option Addr->Hp->Prop
abbrev St:=List (Option V)
abbrev VK:=V->Hp->Prop
abbrev TE:=St->Hp->VK->Prop
abbrev TT:=St->Hp->(Bool->Hp->Prop)->Prop
abbrev TA:=St->Hp->(List V->Hp->Prop)->Prop
structure Ends where
 nx:St->Hp->Prop
 rt:VK
 bk:St->Hp->Prop:=fun _ _=>False
 ct:St->Hp->Prop:=fun _ _=>False
abbrev TS:=Ends->St->Hp->Prop
inductive EP(X:Cx)(pins:List (Addr×Obj))(σ:St)(Q:VK)(u:Value)(s':Shared):Prop
 |mk (v:V) (H':Hp) (h0:Inv X pins σ H' s') (h1:RelV v u) (h2:Q v H'):EP X pins σ Q u s'
inductive TP(X:Cx)(pins:List (Addr×Obj))(σ:St)(Q:Bool->Hp->Prop)(b:Bool)(s':Shared):Prop
 |mk (H':Hp) (h0:Inv X pins σ H' s') (h1:Q b H'):TP X pins σ Q b s'
inductive AP(X:Cx)(pins:List (Addr×Obj))(σ:St)(Q:List V->Hp->Prop)(us:List Value)(s':Shared):Prop
 |mk (vs:List V) (H':Hp) (h0:Inv X pins σ H' s') (h1:Vals vs us) (h2:Q vs H'):AP X pins σ Q us s'
def SP(X:Cx)(pins:List (Addr×Obj))(D:Ends)(f:Flow)(s':Shared):Prop:=
 match f with
 |.next=>∃σ' H',Inv X pins σ' H' s'/\D.nx σ' H'
 |.brk=>∃σ' H',Inv X pins σ' H' s'/\D.bk σ' H'
 |.cont=>∃σ' H',Inv X pins σ' H' s'/\D.ct σ' H'
 |.ret u=>∃v σ' H',Inv X pins σ' H' s'/\RelV v u/\D.rt v H'
def PE(X:Cx)(e:Expr)(t:TE):Prop:=
 ∀(pins:List (Addr×Obj)) (s:Shared) (σ:St) (H:Hp) (Q:VK),Inv X pins σ H s->t σ H Q->wpAny (model X.prog X.w) X.A (eval e X.env) (EP X pins σ Q) X.xe s
def PT(X:Cx)(e:Expr)(t:TT):Prop:=
 ∀(pins:List (Addr×Obj)) (s:Shared) (σ:St) (H:Hp) (Q:Bool->Hp->Prop),Inv X pins σ H s->t σ H Q->wpAny (model X.prog X.w) X.A (isTrue e X.env (eval e X.env)) (TP X pins σ Q) X.xe s
def PW(X:Cx)(e:Expr)(t:TT):Prop:=
 ∀(whole:Sem Value) (pins:List (Addr×Obj)) (s:Shared) (σ:St) (H:Hp) (Q:Bool->Hp->Prop),Inv X pins σ H s->t σ H Q->wpAny (model X.prog X.w) X.A (isTrue e X.env whole) (TP X pins σ Q) X.xe s
theorem GB{X:Cx}{e:Expr}{t:TT}(h:PW X e t):PT X e t:=h _
def PA(X:Cx)(es:List Expr)(t:TA):Prop:=
 ∀(pos:Pos) (pins:List (Addr×Obj)) (s:Shared) (σ:St) (H:Hp) (Q:List V->Hp->Prop),Inv X pins σ H s->t σ H Q->wpAny (model X.prog X.w) X.A (spliced (backTo pos (starEach es X.env))) (AP X pins σ Q) X.xe s
def PS(X:Cx)(st:Stmt)(t:TS):Prop:=
 ∀(pins:List (Addr×Obj)) (s:Shared) (σ:St) (H:Hp) (D:Ends),Inv X pins σ H s->t D σ H->wpAny (model X.prog X.w) X.A (exec st X.env) (SP X pins D) X.xe s
def rm(X:Cx)(st:List Stmt)(t:TS):Prop:=
 ∀(pins:List (Addr×Obj)) (s:Shared) (σ:St) (H:Hp) (D:Ends),Inv X pins σ H s->t D σ H->wpAny (model X.prog X.w) X.A (execs st X.env) (SP X pins D) X.xe s
theorem thn{α:Type}{t:Sem α}{Q Q':α->Shared->Prop}{M:Model}{A:Around}{E:Value->Shared->Prop}{s:Shared}(h:wpAny M A t Q E s)(hQ:∀a s,Q a s->Q' a s):wpAny M A t Q' E s:=wpAny_mono h hQ fun _ _ x=>x
end L2
namespace L2
open PySem PySem.Spec PyProof.Rows
section
variable {X:Cx}
def tVar(i:Nat):TE:=fun σ H Q=>∃v,σ[i]?=some (some v)/\Q v H
def tC(v:V):TE:=fun _ H Q=>Q v H
theorem C2{i:Nat}{x:Str}{pos:Pos}(hN:X.N[i]?=some x)(hv:EH X.env.scope x)(hd:(x==("__debug__":Str))=false:=by decide)(hcd:(x==("__classdict__":Str))=false:=by decide):PE X (.Name x pos) (tVar i):=by
 intro pins s σ H Q I h;obtain ⟨v,e,h⟩:=h;obtain ⟨m,hn,hl⟩:=I.loc;obtain ⟨u,r,l⟩:=hl i x v hN e hv;have fin:EP X pins σ Q u s:=⟨v,H,I,r,h⟩;rcases l with ⟨hk,hm⟩|⟨hk,c,hc,hcell⟩
 ·exact wpAny_Name (wpAny_loadName_local I.ok.kind hk hn hm fin) hd
 ·rcases hk with hk|hk
  ·exact wpAny_Name (wpAny_loadName_cell I.ok.kind hk hc hcell fin) hd
  ·exact wpAny_Name (wpAny_loadName_free I.ok.kind hk hc hcell fin hcd) hd
theorem Df{i j pos}:PE X (.Constant (.int i) j pos) (tC (.int i)):=fun _ _ _ H _ I h=>wpAny_Constant_int ⟨.int i,H,I.tok _,⟨_,rfl⟩,h⟩
theorem FN{b j pos}:PE X (.Constant (.bool b) j pos) (tC (.bl b)):=fun _ _ _ H _ I h=>Constant_bool ⟨.bl b,H,I,rfl,h⟩
theorem CS{j pos}:PE X (.Constant .none j pos) (tC .non):=fun _ _ _ H _ I h=>Constant_none ⟨.non,H,I,rfl,h⟩
theorem qt{x j pos}:PE X (.Constant (.str x) j pos) (tC (.str x)):=fun _ _ _ H _ I h=>Calls.Constant_str ⟨.str x,H,I.tok _,⟨_,rfl⟩,h⟩
def Gl(X:Cx)(x:Str):Prop:=X.env.kindOf x=some .globalImplicit
theorem ld_glob{E:Value->Shared->Prop}{pins:List (Addr×Obj)}{s:Shared}{σ:St}{H:Hp}{x:Str}{u:Value}{pos:Pos}{Q:Value->Shared->Prop}(I:Inv X pins σ H s)(hg:Gl X x)(hm:X.mg x=some u)(h:Q u s)
  (hd:(x==("__debug__":Str))=false:=by decide):wpAny (model X.prog X.w) X.A (eval (.Name x pos) X.env) Q E s:=
 KR I.ok.kind hg (Calls.loadGlobal_global (by rw [I.ok.glob];exact I.mod.glob.keeps I.bk) hm h) hd
theorem ld_blt{E:Value->Shared->Prop}{pins:List (Addr×Obj)}{s:Shared}{σ:St}{H:Hp}{x:Str}{u:Value}{pos:Pos}{Q:Value->Shared->Prop}(I:Inv X pins σ H s)(hg:Gl X x)(hm:X.mg x=none)(hv:bootBuiltins x=some u)(h:Q u s)
  (hn:x≠"__name__":=by decide) (hd:(x==("__debug__":Str))=false:=by decide):wpAny (model X.prog X.w) X.A (eval (.Name x pos) X.env) Q E s:=by
 obtain ⟨mb,h1,h2⟩:=I.mod.blt;exact KR I.ok.kind hg (Calls.loadGlobal_builtin (by rw [I.ok.glob];exact I.mod.glob.keeps I.bk) hm (by rw [I.ok.blt];exact h1.keeps I.bk) ((h2 x hn).trans hv) h) hd
theorem yA{x:Str}{v:V}{u:Value}{pos:Pos}(hg:Gl X x)(hm:X.mg x=none)(hv:bootBuiltins x=some u)(r:RelV v u)(hn:x≠"__name__":=by decide)(hd:(x==("__debug__":Str))=false:=by decide):PE X (.Name x pos) (tC v):=
 fun _ _ _ H _ I h=>ld_blt I hg hm hv ⟨v,H,I,r,h⟩ hn hd
variable {a b:Expr}{ta tb:TE}{pos:Pos}
variable {tA tB':TT}{rest:List Expr}
def tAnd(t u:TT):TT:=fun σ H Q=>t σ H fun c H1=>if c=true then u σ H1 Q else Q false H1
def tOr(t u:TT):TT:=fun σ H Q=>t σ H fun c H1=>if c=true then Q true H1 else u σ H1 Q
def tNot(t:TT):TT:=fun σ H Q=>t σ H fun c H1=>Q (!c) H1
theorem Ac(ha:PT X a tA):PW X (.BoolOp .And [a] pos) tA:=by
 intro wh pins s σ H Q I h;refine isTrue_and (thn (ha pins s σ H Q I h) fun c s1 e=>?_);cases c with
 |true=>exact isTrue_and_nil e
 |false=>exact e
theorem Eg(ha:PT X a tA):PW X (.BoolOp .Or [a] pos) tA:=by
 intro wh pins s σ H Q I h;refine isTrue_or (thn (ha pins s σ H Q I h) fun c s1 e=>?_);cases c with
 |false=>exact isTrue_or_nil e
 |true=>exact e
theorem CD(ha:PT X a tA)(hb:PW X (.BoolOp .And (b::rest) pos) tB'):PW X (.BoolOp .And (a::b::rest) pos) (tAnd tA tB'):=by
 intro wh pins s σ H Q I h;refine isTrue_and (thn (ha pins s σ H _ I h) fun c s1 ⟨H1,I1,q1⟩=>?_);cases c with
 |true=>exact hb wh pins s1 σ H1 Q I1 q1
 |false=>exact ⟨H1,I1,q1⟩
theorem FJ(ha:PT X a tA)(hb:PW X (.BoolOp .Or (b::rest) pos) tB'):PW X (.BoolOp .Or (a::b::rest) pos) (tOr tA tB'):=by
 intro wh pins s σ H Q I h;refine isTrue_or (thn (ha pins s σ H _ I h) fun c s1 ⟨H1,I1,q1⟩=>?_);cases c with
 |true=>exact ⟨H1,I1,q1⟩
 |false=>exact hb wh pins s1 σ H1 Q I1 q1
theorem Cw(ha:PT X a tA):PT X (.UnaryOp .Not a pos) (tNot tA):=by
 intro pins s σ H Q I h;exact isTrue_not (wpAny_mono (ha pins s σ H (fun c H1=>Q (!c) H1) I h) (fun c s' z=>by cases z with|mk a b d=>exact ⟨a,b,d⟩) fun _ _ e=>e)
def Fy(ta tb:TE):TE:=fun σ H Q=>ta σ H fun x H1=>∃c,x=.bl c/\if c=true then tb σ H1 Q else Q (.bl false) H1
theorem C_{op}{t:TE}(h:PE X a t):PE X (.BoolOp op [a] pos) t:=fun pins s σ H Q I hw=>BoolOp_one (h pins s σ H Q I hw)
theorem DL(ha:PE X a ta)(hb:PE X (.BoolOp .And (b::rest) pos) tb):PE X (.BoolOp .And (a::b::rest) pos) (Fy ta tb):=by
 intro pins s σ H Q I h;refine BoolOp_and (thn (ha pins s σ H _ I h) fun v s1 ⟨x,H1,I1,r1,q1⟩=>?_);obtain ⟨c,rfl,q1⟩:=q1;cases r1;refine wpAny_truthy_bool ?_;cases c with
 |true=>exact hb pins s1 σ H1 Q I1 q1
 |false=>exact ⟨.bl false,H1,I1,rfl,q1⟩
def tIf(t:TT)(ta tb:TE):TE:=fun σ H Q=>t σ H fun c H1=>if c=true then ta σ H1 Q else tb σ H1 Q
theorem xT{c:Expr}(hc:PT X c tA)(ha:PE X a ta)(hb:PE X b tb):PE X (.IfExp c a b pos) (tIf tA ta tb):=by
 intro pins s σ H Q I h;refine wpAny_IfExp (thn (hc pins s σ H _ I h) fun d s1 ⟨H1,I1,q1⟩=>?_);cases d with
 |true=>exact ha pins s1 σ H1 Q I1 q1
 |false=>exact hb pins s1 σ H1 Q I1 q1
end
end L2
namespace L2
open PySem PySem.Spec PyProof.Rows
def SqL(K:GH)(H:Hp)(a:Addr)(xs:List V):Prop:=
 Rd H a (.lst xs)\/
  ∃(o:Obj) (its:Array Value) (n:Nat),K.lookup a=some o/\o.cls=.type "list"/\o.dict=none/\o.data=.seq its n/\its.size<=sizeLine/\Vals xs its.toList
def ic(K:GH)(H:Hp)(a:Addr)(xs:List V):Prop:=
 Rd H a (.tup xs)\/
  ∃(o:Obj) (its:Array Value) (n:Nat),K.lookup a=some o/\o.cls=.type "tuple"/\o.data=.seq its n/\its.size<=sizeLine/\Vals xs its.toList
def absV:Value->Option V
 |.none=>some .non
 |.bool b=>some (.bl b)
 |.int i _=>some (.int i)
 |.str x _=>some (.str x)
 |.bytes b _=>some (.byt b)
 |.float b _=>some (.flt b)
 |.ref a=>some (.ref a)
 |.type n=>some (.ty n)
 |_=>none
theorem RelV.abs{x:V}{u:Value}(r:RelV x u):absV u=some x:=by
 cases x with
 |non=>cases r;rfl
 |bl _=>cases r;rfl
 |int _=>obtain ⟨t,rfl⟩:=r;rfl
 |str _=>obtain ⟨t,rfl⟩:=r;rfl
 |byt _=>obtain ⟨t,rfl⟩:=r;rfl
 |flt _=>obtain ⟨t,rfl⟩:=r;rfl
 |ref _=>cases r;rfl
 |ty _=>cases r;rfl
theorem RelV.inj{x y:V}{u:Value}(r:RelV x u)(q:RelV y u):x=y:=HC (r.abs.symm.trans q.abs)
theorem Vals.inj:∀{xs ys:List V} {us:List Value},Vals xs us->Vals ys us->xs=ys
 |_,_,_,.nil,.nil=>rfl
 |_,_,_,.cons r t,.cons r' t'=>by rw [r.inj r',Vals.inj t t']
section
variable {X:Cx}{pins:List (Addr×Obj)}{σ:St}{H:Hp}{s:Shared}{a:Addr}{xs ys:List V}
theorem gj{K:GH}(h:H a=some (.lst xs)):SqL K H a xs:=.inl (.inl h)
theorem Inv.list(I:Inv X pins σ H s)(h:SqL X.K H a xs):∃its:List Value,Vals xs its/\PlainL s.heap a its.toArray/\xs.length<=sizeLine:=by
 rcases h with h|⟨o,its,n,hk,hc,hd,hs,hz,r⟩
 ·obtain ⟨z,its,n,r,e⟩:=h.ok I.hok
  exact ⟨its,r,⟨_,n,e,rfl,rfl,rfl⟩,z⟩
 ·refine ⟨its.toList,r,⟨o,n,I.kIn a o hk,hc,hd,by simpa using hs⟩,?_⟩
  have e:=r.length;simp only [Iz] at e;lia
theorem Inv.tuple(I:Inv X pins σ H s)(h:ic X.K H a xs):∃its:List Value,Vals xs its/\IsTup s.heap a its.toArray/\xs.length<=sizeLine:=by
 rcases h with h|⟨o,its,n,hk,hc,hs,hz,r⟩
 ·obtain ⟨z,its,r,ob,e,c,_⟩:=h.ok I.hok
  exact ⟨its,r,⟨ob,e,c⟩,z⟩
 ·refine ⟨its.toList,r,⟨o,I.kIn a o hk,hc,n,by simpa using hs⟩,?_⟩
  have e:=r.length;simp only [Iz] at e;lia
theorem Inv.list_inj(I:Inv X pins σ H s)(h:SqL X.K H a xs)(h':SqL X.K H a ys):xs=ys:=by
 obtain ⟨its,r,⟨o,n,e,_,_,d⟩,_⟩:=I.list h;obtain ⟨its',r',⟨o',n',e',_,_,d'⟩,_⟩:=I.list h';rw [e] at e';cases e';rw [d] at d'
 injection d' with d1 _
 have:its=its':=by simpa using congrArg Jm d1
 subst this;exact r.inj r'
theorem Inv.tuple_inj(I:Inv X pins σ H s)(h:ic X.K H a xs)(h':ic X.K H a ys):xs=ys:=by
 obtain ⟨its,r,⟨o,e,_,n,d⟩,_⟩:=I.tuple h;obtain ⟨its',r',⟨o',e',_,n',d'⟩,_⟩:=I.tuple h';rw [e] at e';cases e';rw [d] at d'
 injection d' with d1 _
 have:its=its':=by simpa using congrArg Jm d1
 subst this;exact r.inj r'
end
abbrev Cx.wish(X:Cx)(E:Value->Shared->Prop):Cx:={ X with xe:=E }
abbrev Cx.nox(X:Cx):Cx:=X.wish fun _ _=>False
theorem Cx.Ok.wish{X:Cx}(ok:X.Ok)(E:Value->Shared->Prop):(X.wish E).Ok:=
 ⟨ok.mod,ok.kind,ok.glob,ok.blt,ok.above,ok.inj,ok.has,ok.cab,ok.hd,ok.frames,ok.stk,ok.exf,ok.bs,ok.bsz,ok.noex,ok.exfs,ok.funs,ok.frf⟩
theorem Cx.Ok.unwish{X:Cx}{E:Value->Shared->Prop}(ok:(X.wish E).Ok):X.Ok:=
 ⟨ok.mod,ok.kind,ok.glob,ok.blt,ok.above,ok.inj,ok.has,ok.cab,ok.hd,ok.frames,ok.stk,ok.exf,ok.bs,ok.bsz,ok.noex,ok.exfs,ok.funs,ok.frf⟩
section
variable {X:Cx}{pins:List (Addr×Obj)}{σ:St}{H:Hp}{s:Shared}{E:Value->Shared->Prop}
theorem Inv.wish(I:Inv X pins σ H s)(E:Value->Shared->Prop):Inv (X.wish E) pins σ H s:=⟨I.ok.wish E,I.os,I.bare,I.base,I.loc,I.cell,I.free,I.freeC,I.pin,I.hok,I.len⟩
theorem Inv.unwish(I:Inv (X.wish E) pins σ H s):Inv X pins σ H s:=⟨I.ok.unwish,I.os,I.bare,I.base,I.loc,I.cell,I.free,I.freeC,I.pin,I.hok,I.len⟩
end
section
variable {X:Cx}{st:Stmt}{rest:List Stmt}{t u:TS}{e:Expr}{te:TE}{pos:Pos}
def FC:TS:=fun D σ H=>D.nx σ H
def tSeq(t u:TS):TS:=fun D σ H=>t { D with nx:=u D } σ H
theorem Az:rm X [] FC:=fun _ _ σ H _ I h=>wpAny_execs_nil ⟨σ,H,I,h⟩
theorem vK(h1:PS X st t)(h2:rm X rest u):rm X (st::rest) (tSeq t u):=by
 intro pins s σ H D I h;refine wpAny_execs_cons (thn (h1 pins s σ H { D with nx:=u D } I h) fun f s1 q=>?_);cases f with
 |next=>
  obtain ⟨σ',H',I',q⟩:=q;exact h2 pins s1 σ' H' D I' q
 |ret v=>exact q
 |brk=>exact q
 |cont=>exact q
theorem AA(h1:PS X st t):rm X [st] t:=by
 intro pins s σ H D I h;refine wpAny_execs_cons (thn (h1 pins s σ H D I h) fun f s1 q=>?_);cases f with
 |next=>exact wpAny_execs_nil q
 |ret v=>exact q
 |brk=>exact q
 |cont=>exact q
def DJ:TS:=fun D σ H=>D.bk σ H
theorem vU:PS X (.Break pos) DJ:=fun _ _ σ H _ I h=>wpAny_Break ⟨σ,H,I,h⟩
theorem Inv.quiet{pins:List (Addr×Obj)}{σ:St}{H:Hp}{s:Shared}(I:Inv X pins σ H s):interactive X.env=false:=by simp [interactive,I.ok.kind]
def FM(te:TE):TS:=fun D σ H=>te σ H fun _ H1=>D.nx σ H1
theorem B8(he:PE X e te)(hs:swapsWith e none pos.line X.env=pure false:=by rfl):PS X (.Expr e pos) (FM te):=by
 intro pins s σ H D I h;exact wpAny_Expr_any (thn (he pins s σ H _ I h) fun v s1 ⟨x,H1,I1,r1,q1⟩=>⟨σ,H1,I1,q1⟩) I.quiet hs
def tRet(te:TE):TS:=fun D σ H=>te σ H D.rt
theorem C9(he:PE X e te):PS X (.Return (some e) pos) (tRet te):=by
 intro pins s σ H D I h;exact wpAny_Return_some (thn (he pins s σ H _ I h) fun v s1 ⟨x,H1,I1,r1,q1⟩=>⟨x,σ,H1,I1,r1,q1⟩)
def tIfS(c:TT)(t u:TS):TS:=fun D σ H=>c σ H fun b H1=>if b=true then t D σ H1 else u D σ H1
theorem EV{c:Expr}{a b:List Stmt}{tc:TT}(hc:PT X c tc)(ha:rm X a t)(hb:rm X b u):PS X (.If c a b pos) (tIfS tc t u):=by
 intro pins s σ H D I h;refine wpAny_If (thn (hc pins s σ H _ I h) fun d s1 ⟨H1,I1,q1⟩=>?_);cases d with
 |true=>exact ha pins s1 σ H1 D I1 q1
 |false=>exact hb pins s1 σ H1 D I1 q1
end
abbrev TG:=V->St->Hp->(St->Hp->Prop)->Prop
abbrev Bk:=List V->St->Hp->(St->Hp->Prop)->Prop
def PG(X:Cx)(target:Expr)(t:TG):Prop:=
 ∀(pins:List (Addr×Obj)) (s:Shared) (σ:St) (H:Hp) (v:V) (u:Value) (Q:St->Hp->Prop),Inv X pins σ H s->RelV v u->t v σ H Q->
  wpAny (model X.prog X.w) X.A (assign target X.env u) (fun _ s'=>∃σ' H',Inv X pins σ' H' s'/\Q σ' H') X.xe s
def Dv(X:Cx)(ts:List Expr)(t:Bk):Prop:=
 ∀(pins:List (Addr×Obj)) (s:Shared) (σ:St) (H:Hp) (vs:List V) (us:List Value) (Q:St->Hp->Prop),Inv X pins σ H s->Vals vs us->t vs σ H Q->
  wpAny (model X.prog X.w) X.A (assignInOrder ((assignEach ts X.env).map (·.2)) us) (fun _ s'=>∃σ' H',Inv X pins σ' H' s'/\Q σ' H') X.xe s
abbrev DR:=V->V->V->Hp->(Hp->Prop)->Prop
def E8(X:Cx)(t:DR):Prop:=
 ∀(pins:List (Addr×Obj)) (s:Shared) (σ:St) (H:Hp) (o i v:V) (ov iv u:Value) (Q:Hp->Prop),Inv X pins σ H s->RelV o ov->RelV i iv->RelV v u->t o i v H Q->
  wpAny (model X.prog X.w) X.A (setItem ov iv u) (fun _ s'=>∃H',Inv X pins σ H' s'/\Q H') X.xe s
abbrev TIp:=V->V->Hp->VK->Prop
def EJ(X:Cx)(op:Operator)(t:TIp):Prop:=
 ∀(pins:List (Addr×Obj)) (s:Shared) (σ:St) (H:Hp) (x y:V) (v u:Value) (Q:VK),Inv X pins σ H s->RelV x v->RelV y u->t x y H Q->
  wpAny (model X.prog X.w) X.A (inplaceOp op v u) (EP X pins σ Q) X.xe s
section
variable {X:Cx}{pos:Pos}
def Bt(i:Nat):TG:=fun v σ H Q=>Q (σ.set i (some v)) H
theorem yU{i:Nat}{x:Str}(hN:X.N.Nodup)(hi:X.N[i]?=some x)(hx:BI X.env.scope x)(hf:X.fn x=true\/X.env.scope.names.lookup x=some .local:=by first|exact .inl rfl|exact .inr rfl|assumption):PG X (.Name x pos) (Bt i):=by
 intro pins s σ H v u Q I r h;exact wpAny_assign_Name (store_ok I hN hi hx r (fun s' I'=>⟨_,H,I',h⟩) hf)
def gNil:Bk:=fun vs σ H Q=>vs=[]/\Q σ H
def FP(t:TG)(u:Bk):Bk:=fun vs σ H Q=>∃v r,vs=v::r/\t v σ H fun σ' H'=>u r σ' H' Q
theorem zm:Dv X [] gNil:=by
 intro pins s σ H vs us Q I r h;obtain ⟨e,h⟩:=h;subst e;cases r;exact assignInOrder_nil ⟨σ,H,I,h⟩
theorem xk{e:Expr}{es:List Expr}{t:TG}{u:Bk}(h1:PG X e t)(h2:Dv X es u)
  (hs:(assignEach (e::es) X.env).map (·.2)=assign e X.env::(assignEach es X.env).map (·.2):=by rfl):Dv X (e::es) (FP t u):=by
 intro pins s σ H vs us Q I r h;obtain ⟨v,vr,e1,h⟩:=h;subst e1;cases r with
 |cons r rr=>
  rw [hs];refine assignInOrder_cons (thn (h1 pins s σ H _ _ _ I r h) fun _ s1 ⟨σ1,H1,I1,q1⟩=>?_);exact h2 pins s1 σ1 H1 _ _ Q I1 rr q1
def gTup(K:GH)(n:Nat)(t:Bk):TG:=fun v σ H Q=>∃a xs,v=.ref a/\ic K H a xs/\xs.length=n/\t xs σ H Q
theorem Eu{es:List Expr}{k:Nat}{t:Bk}{n:Nat}(hc:X.calm=true)(h:Dv X es t)
  (hn:(assignEach es X.env).length=n:=by rfl) (hst:(assignEach es X.env).findIdx? (·.1)=none:=by rfl):PG X (.Tuple es k pos) (gTup X.K n t):=by
 intro pins s σ H v u Q I r hw;obtain ⟨a,xs,e1,hq,hl,hw⟩:=hw;subst e1;cases r;obtain ⟨its,rv,ht,hz⟩:=I.tuple hq;refine assign_Tuple_tuple (I.ok.hd hc) ht (by simp [hn,<- hl,rv.length]) hst fun h' hx=>?_
 have I1:Inv X pins σ H { s with heap:=h' }:=I.kept (t':=s.toks) fun b o e=>hx b o (GW (GL e)) e;exact h pins _ σ H xs _ Q I1 (by simpa using rv) hw
def gSub(to ti:TE)(t:DR):TG:=fun v σ H Q=>to σ H fun o H1=>ti σ H1 fun i H2=>t o i v H2 fun H3=>Q σ H3
theorem DM{o i:Expr}{to ti:TE}{t:DR}(ho:PE X o to)(hi:PE X i ti)(hs:E8 X t)
  (ha:∀v,assign (.Subscript o i pos) X.env v=(do
   let ov <- holding [v] (eval o X.env)
   let iv <- holding [v,ov] (eval i X.env)
   standAt pos
   holding [v,ov,iv] (setItem ov iv v)
   release [v,ov,iv] []):=by intro _;rfl):PG X (.Subscript o i pos) (gSub to ti t):=by
 intro pins s σ H v u Q I r h;rw [ha];refine wpAny_bind (wpAny_holding (thn (ho pins s σ H _ I h) fun ov s1 ⟨x,H1,I1,r1,q1⟩=>?_));refine wpAny_bind (wpAny_holding (thn (hi pins s1 σ H1 _ I1 q1) fun iv s2 ⟨y,H2,I2,r2,q2⟩=>?_));refine wpAny_bind (wpAny_standAt (wpAny_bind (wpAny_holding (thn (hs pins s2 σ H2 x y v ov iv u _ I2 r1 r2 r q2) fun _ s3 ⟨H3,I3,q3⟩=>?_))));exact wpAny_release ⟨σ,H3,I3,q3⟩
def G5(te:TE)(g:TG):TS:=fun D σ H=>te σ H fun x H1=>g x σ H1 D.nx
theorem Eo{tg e:Expr}{te:TE}{g:TG}(he:PE X e te)(hg:PG X tg g)(hs:swapsWithSole [tg] e pos.line X.env=pure false:=by rfl)(hw:swappedStores [tg] e X.env=pure none:=by rfl)
  (h1:(assignEach [tg] X.env).map (·.2)=[assign tg X.env]:=by rfl):PS X (.Assign [tg] e pos) (G5 te g):=by
 intro pins s σ H D I h;refine wpAny_Assign_stores (thn (he pins s σ H _ I h) fun v s1 ⟨x,H1,I1,r1,q1⟩=>?_) hs hw;rw [h1];exact thn (hg pins s1 σ H1 x v _ I1 r1 q1) fun _ s2 q=>q
theorem Ca{i:Nat}{x:Str}{e:Expr}{te:TE}{pos':Pos}(hN:X.N.Nodup)(hi:X.N[i]?=some x)(hx:BI X.env.scope x)(he:PE X e te)(hs:swapsWith e (some (.Name x pos')) pos.line X.env=pure false:=by rfl)(hf:X.fn x=true\/X.env.scope.names.lookup x=some .local:=by first|exact .inl rfl|exact .inr rfl|assumption):
  PS X (.Assign [.Name x pos'] e pos) (G5 te (Bt i)):=by
 intro pins s σ H D I h;refine wpAny_Assign_Name (thn (he pins s σ H _ I h) fun v s1 ⟨y,H1,I1,r1,q1⟩=>?_) hs;exact store_ok I1 hN hi hx r1 (fun s2 I2=>⟨_,H1,I2,q1⟩) hf
def tAug(i:Nat)(te:TE)(ti:TIp):TS:=fun D σ H=>∃x,σ[i]?=some (some x)/\te σ H fun y H1=>ti x y H1 fun z H2=>D.nx (σ.set i (some z)) H2
theorem CM{i:Nat}{x:Str}{e:Expr}{te:TE}{op:Operator}{ti:TIp}{pos':Pos}(hN:X.N.Nodup)(hi:X.N[i]?=some x)(hx:BI X.env.scope x)(he:PE X e te)(ho:EJ X op ti)(hf:X.fn x=true\/X.env.scope.names.lookup x=some .local:=by first|exact .inl rfl|exact .inr rfl|assumption):
  PS X (.AugAssign (.Name x pos') op e pos) (tAug i te ti):=by
 intro pins s σ H D I h;obtain ⟨v,e1,h⟩:=h;obtain ⟨m,hn,hl⟩:=I.loc;have vis:EH X.env.scope x:=by rcases hx with k|k;exact .inl k;exact .inr (.inl k)
 obtain ⟨u,r,l⟩:=hl i x v hi e1 vis;refine wpAny_AugAssign_Name ?_;have go:wpAny (model X.prog X.w) X.A (eval e X.env) (fun w s₂=>wpAny (model X.prog X.w) X.A (inplaceOp op u w) (fun r s₃=>wpAny (model X.prog X.w) X.A (storeName X.env x r) (fun _=>SP X pins D .next) X.xe s₃) X.xe s₂) X.xe s:=by
  refine thn (he pins s σ H _ I h) fun w s1 ⟨y,H1,I1,r1,q1⟩=>?_;refine thn (ho pins s1 σ H1 v y u w _ I1 r r1 q1) fun z s2 ⟨zv,H2,I2,r2,q2⟩=>?_;exact store_ok I2 hN hi hx r2 (fun s3 I3=>⟨_,H2,I3,q2⟩) hf
 rcases l with ⟨hk,hm⟩|⟨hk,c,hc,hcell⟩
 ·exact wpAny_loadName_local I.ok.kind hk hn hm go
 ·rcases hk with hk|hk
  ·exact wpAny_loadName_cell I.ok.kind hk hc hcell go
  ·rcases hx with k|k
   ·have:X.env.scope.names.lookup x=some .free:=hk
    rw [k] at this;cases this
   ·have:X.env.scope.names.lookup x=some .free:=hk
    rw [k] at this;cases this
def ipI(f:Int->Int->Int):TIp:=fun x y H Q=>∃i j,x=.int i/\y=.int j/\Q (.int (f i j)) H
theorem CZ:EJ X .Add (ipI fun i j=>i+j):=by
 intro pins s σ H x y v u Q I r1 r2 h;obtain ⟨i,j,e1,e2,q⟩:=h;subst e1;subst e2;obtain ⟨t,rfl⟩:=r1;obtain ⟨t',rfl⟩:=r2;exact iadd_int ⟨.int _,H,I.tok _,⟨_,rfl⟩,q⟩
end
section
variable {X:Cx}{pos:Pos}
def DQ(c:TT)(tb:TS):TS:=fun D σ H=>∃W:Nat->St->Hp->Prop,(∃m,W m σ H)/\∀m σ H,W m σ H->
 c σ H fun b H1=>if b=true then ∃N:St->Hp->Prop,(∀σ' H',N σ' H'->∃m',m'<m/\W m' σ' H')/\tb { D with nx:=N,ct:=N,bk:=D.nx } σ H1 else D.nx σ H1
theorem yh{c:Expr}{body:List Stmt}{tc:TT}{tb:TS}(hp:PassesOwn (model X.prog X.w) X.A X.env X.xe)(hc:PT X c tc)(hb:rm X body tb):PS X (.While c body [] pos) (DQ tc tb):=by
 intro pins s σ H D I h;obtain ⟨W,⟨m0,w0⟩,turn⟩:=h;refine wpAny_While (codeAny_whileLoop (fun n s'=>∃σ' H',Inv X pins σ' H' s'/\W n σ' H') ?_ m0 ⟨σ,H,I,w0⟩)
 rintro n s1 ⟨σ1,H1,I1,w1⟩
 refine wpAny_passesOwn hp (thn (hc pins s1 σ1 H1 _ I1 (turn n σ1 H1 w1)) fun b s2 ⟨H2,I2,q2⟩=>?_);cases b with
 |true=>
  obtain ⟨N,hN,q2⟩:=q2;rw [if_pos rfl];refine wpAny_passesOwn hp (thn (hb pins s2 σ1 H2 _ I2 q2) fun f s3 q3=>?_);cases f with
  |next=>
   obtain ⟨σ3,H3,I3,n3⟩:=q3;obtain ⟨m',hm,w3⟩:=hN σ3 H3 n3;exact ⟨m',hm,σ3,H3,I3,w3⟩
  |cont=>
   obtain ⟨σ3,H3,I3,n3⟩:=q3;obtain ⟨m',hm,w3⟩:=hN σ3 H3 n3;exact ⟨m',hm,σ3,H3,I3,w3⟩
  |brk=>exact q3
  |ret v=>exact q3
 |false=>
  rw [if_neg GY];exact wpAny_execs_nil ⟨σ1,H2,I2,q2⟩
end
structure It where
 go:Nat->Hp->Prop
 yld:Nat->Hp->V->Hp->Prop
 stop:Nat->Hp->Prop
def ig(X:Cx)(pins:List (Addr×Obj))(H:Hp)(b:Addr):Prop:=
 H b=none/\b≠X.env.locals/\b∉X.fs/\(b∈X.ex\/X.s₀.heap.objs.size<=b)/\(∀x c,X.env.cells.lookup x=some c->c≠b)/\∀p∈X.pn++pins,p.1≠b
theorem Inv.fpOk{X:Cx}{pins:List (Addr×Obj)}{σ:St}{H H':Hp}{s:Shared}{b:Addr}(I:Inv X pins σ H s)(hb:s.heap.objs.size<=b)(hn:H' b=none):ig X pins H' b:=by
 refine ⟨hn,Iv (GS I.lt hb),I.nofs hb,.inr (Hd I.sz hb),fun x c e z=>?_,fun p hp z=>?_⟩
 ·obtain ⟨v,q⟩:=I.cell x c e
  exact absurd (GS q.lt (by rw [z];exact hb)) (HJ _)
 ·exact absurd (GS (GL (I.pin p hp).1) (by rw [z];exact hb)) (HJ _)
structure Turn(P:Program)(w:World)(K:GH)(tg:Expr)(J:It)(fp:List Addr)(it:Addr)(tn:Nat->Heap->Prop):Prop where
 mem:it∈fp
 obj:∀i h,tn i h->∀b∈fp,∃o,h.get? b=some o/\∀v,o.data≠.cell v
 keep:∀i h h',tn i h->(∀b∈fp,∀o,h.get? b=some o->h'.get? b=some o)->tn i h'
 item:∀(X:Cx),X.prog=P->X.w=w->X.K=K->X.calm=true->∀(i:Nat) (pins:List (Addr×Obj)) (s:Shared) (σ:St) (H:Hp) (E:Value->Shared->Prop),Inv X pins σ H s->(∀b∈fp,ig X pins H b)->tn i s.heap->J.go i H->
  wpAny (model P w) X.A (pyNext (.ref it)) (fun r s1=>∃u,r=some u/\
   wpAny (model P w) X.A (letOwnedTupleGo tg (.ref it) u) (fun _ s2=>∃x H',Inv X pins σ H' s2/\RelV x u/\J.yld i H x H'/\tn (i+1) s2.heap/\∀b∈fp,H' b=none) E s1) E s
 done:∀(X:Cx),X.prog=P->X.w=w->X.K=K->X.calm=true->∀(i:Nat) (pins:List (Addr×Obj)) (s:Shared) (σ:St) (H:Hp) (E:Value->Shared->Prop),Inv X pins σ H s->(∀b∈fp,ig X pins H b)->tn i s.heap->J.stop i H->
  wpAny (model P w) X.A (pyNext (.ref it)) (fun r s1=>r=none/\Inv X pins σ H s1) E s
 self:∀(A:Around) (i:Nat) (s:Shared) (Q:Value->Shared->Prop) (E:Value->Shared->Prop),tn i s.heap->Q (.ref it) s->wpAny (model P w) A (pyIter (.ref it)) Q E s
abbrev TI:=St->Hp->(It->Hp->Prop)->Prop
def PIE(X:Cx)(pins:List (Addr×Obj))(σ:St)(tg:Expr)(R:It->Hp->Prop)(itv:Value)(s2:Shared):Prop:=
 ∃(it:Addr) (fp:List Addr) (tn:Nat->Heap->Prop) (J:It) (H':Hp),itv=.ref it/\Inv X pins σ H' s2/\Turn X.prog X.w X.K tg J fp it tn/\tn 0 s2.heap/\(∀b∈fp,ig X pins H' b)/\R J H'
def PI(X:Cx)(tg iter:Expr)(wi:TI):Prop:=
 ∀(pins:List (Addr×Obj)) (s:Shared) (σ:St) (H:Hp) (R:It->Hp->Prop),Inv X pins σ H s->wi σ H R->
  wpAny (model X.prog X.w) X.A (eval iter X.env) (fun v s1=>wpAny (model X.prog X.w) X.A (pyIter v) (PIE X pins σ tg R) X.xe s1) X.xe s
theorem xj{M:Model}{A:Around}{E:Value->Shared->Prop}{s:Shared}{tg:Expr}{it:Addr}{u:Value}{o:Obj}{n:String}{vs:Array Value}{Q:Unit->Shared->Prop}(ho:s.heap.get? it=some o)(hc:o.cls=.type n)(hd:o.data=.fields vs)
  (hn:["enumerate","zip","dict_itemiterator","dict_reverseitemiterator","odict_iterator","itertools.zip_longest","itertools.pairwise"].contains n=false) (hQ:Q () s):wpAny M A (letOwnedTupleGo tg (.ref it) u) Q E s:=by
 unfold letOwnedTupleGo
 cases tg<;>first
  |exact wpAny_pure hQ
  |(cases u<;>first
    |exact wpAny_pure hQ
    |(refine wpAny_bind (wpAny_load ho ?_)
      rw [hc,hd];show wpAny M A (if (["enumerate","zip","dict_itemiterator","dict_reverseitemiterator","odict_iterator","itertools.zip_longest","itertools.pairwise"].contains n&&vs[0]?==some (rawInt _))=true then _ else _) Q E s
      rw [if_neg (by intro h;rw [hn,Bool.false_and] at h;cases h)]
      exact wpAny_pure hQ))
def Itl(K:GH)(a:Addr):It:=
 ⟨fun i H=>∃xs x,SqL K H a xs/\xs[i]?=some x,fun i H x H'=>H'=H/\∀xs,SqL K H a xs->xs[i]?=some x,fun i H=>∃xs,SqL K H a xs/\xs.length<=i⟩
def Itt(K:GH)(a:Addr):It:=
 ⟨fun i H=>∃xs x,ic K H a xs/\xs[i]?=some x,fun i H x H'=>H'=H/\∀xs,ic K H a xs->xs[i]?=some x,fun i H=>∃xs,ic K H a xs/\xs.length<=i⟩
def Itr(lo:Int)(n:Nat):It:=⟨fun i _=>i<n,fun i H x H'=>H'=H/\x=.int (lo+i),fun i _=>n<=i⟩
theorem uM{P:Program}{w:World}{K:GH}{tg:Expr}(a it:Addr):Turn P w K tg (Itl K a) [it] it (fun i h=>h.IsListIter it a i) where
 mem:=by simp
 obj:=fun i h st b hb=>by
  have e:b=it:=by simpa using hb
  subst e;obtain ⟨o,e,c,d⟩:=st;exact ⟨o,e,fun v z=>by rw [d] at z;cases z⟩
 keep:=fun i h h' st k=>st.at fun o e=>k it (by simp) o e
 item:=by
  intro X hP hw hK hc i pins s σ H E I hf st hg;subst hP hw hK;obtain ⟨xs,x,hq,hx⟩:=hg;obtain ⟨its,rv,p,hz⟩:=I.list hq;obtain ⟨u,hu,ru⟩:=rv.get hx;obtain ⟨f0,f1,f2,f3,f4,f5⟩:=hf it (by simp)
  refine wpAny_pyNext_list_item st p.isList (x:=u) (by simpa using hu) fun h' st' sb=>?_
  have I1:Inv X pins σ H { s with heap:=h' }:=I.turned (t':=s.toks) (fun b o hb e=>(sb.2 b hb).trans e) f0 f1 f3 f4 f5;obtain ⟨o,e,c,d⟩:=id st';exact ⟨u,rfl,xj (s:={ s with heap:=h' }) e c d (by decide) ⟨x,H,I1,ru,⟨rfl,fun ys hy=>by rw [I.list_inj hy hq];exact hx⟩,st',fun b hb=>(hf b hb).1⟩⟩
 done:=by
  intro X hP hw hK hc i pins s σ H E I hf st hg;subst hP hw hK;obtain ⟨xs,hq,hx⟩:=hg;obtain ⟨its,rv,p,hz⟩:=I.list hq;obtain ⟨f0,f1,f2,f3,f4,f5⟩:=hf it (by simp)
  have hl:=rv.length;exact wpAny_pyNext_list_end (I.ok.hd hc) st p.isList (by simp;lia) fun h' eb=>⟨rfl,I.turned (t':=s.toks) (fun b o hb e=>eb b o hb e) f0 f1 f3 f4 f5⟩
 self:=fun _ _ _ _ _ st h=>wpAny_pyIter_listiter st h
theorem qz{P:Program}{w:World}{K:GH}{tg:Expr}(a it:Addr):Turn P w K tg (Itt K a) [it] it (fun i h=>h.IsTupleIter it a i) where
 mem:=by simp
 obj:=fun i h st b hb=>by
  have e:b=it:=by simpa using hb
  subst e;obtain ⟨o,e,c,d⟩:=st;exact ⟨o,e,fun v z=>by rw [d] at z;cases z⟩
 keep:=fun i h h' st k=>st.at fun o e=>k it (by simp) o e
 item:=by
  intro X hP hw hK hc i pins s σ H E I hf st hg;subst hP hw hK;obtain ⟨xs,x,hq,hx⟩:=hg;obtain ⟨its,rv,p,hz⟩:=I.tuple hq;obtain ⟨u,hu,ru⟩:=rv.get hx;obtain ⟨f0,f1,f2,f3,f4,f5⟩:=hf it (by simp)
  refine wpAny_pyNext_tuple_item st (show s.heap.IsTuple a its.toArray from p) (x:=u) (by simpa using hu) fun h' st' sb=>?_
  have I1:Inv X pins σ H { s with heap:=h' }:=I.turned (t':=s.toks) (fun b o hb e=>(sb.2 b hb).trans e) f0 f1 f3 f4 f5;obtain ⟨o,e,c,d⟩:=id st';exact ⟨u,rfl,xj (s:={ s with heap:=h' }) e c d (by decide) ⟨x,H,I1,ru,⟨rfl,fun ys hy=>by rw [I.tuple_inj hy hq];exact hx⟩,st',fun b hb=>(hf b hb).1⟩⟩
 done:=by
  intro X hP hw hK hc i pins s σ H E I hf st hg;subst hP hw hK;obtain ⟨xs,hq,hx⟩:=hg;obtain ⟨its,rv,p,hz⟩:=I.tuple hq;obtain ⟨f0,f1,f2,f3,f4,f5⟩:=hf it (by simp)
  have hl:=rv.length;exact wpAny_pyNext_tuple_end (I.ok.hd hc) st (show s.heap.IsTuple a its.toArray from p) (by simp;lia) fun h' eb=>⟨rfl,I.turned (t':=s.toks) (fun b o hb e=>eb b o hb e) f0 f1 f3 f4 f5⟩
 self:=fun _ _ _ _ _ st h=>wpAny_pyIter_tupleiter st h
theorem qv{P:Program}{w:World}{K:GH}{tg:Expr}(it:Addr)(lo:Int)(n:Nat):Turn P w K tg (Itr lo n) [it] it (fun i h=>IsRangeIter h it (lo+(i:Nat)*1) ((n:Int)-(i:Nat)) 1) where
 mem:=by simp
 obj:=fun i h st b hb=>by
  have e:b=it:=by simpa using hb
  subst e;exact ⟨_,st,fun v z=>by
   have z':Data.fields _=Data.cell v:=z;cases z'⟩
 keep:=fun i h h' st k=>k it (by simp) _ st
 item:=by
  intro X hP hw hK hc i pins s σ H E I hf st hg;subst hP hw hK;obtain ⟨f0,f1,f2,f3,f4,f5⟩:=hf it (by simp)
  have W:=Walks.range (prog:=X.prog) (w:=X.w) (I.ok.hd hc) it lo 1 n;refine W.item i s _ _ hg st fun v h' tk hv st' kk=>?_;obtain ⟨t,rfl⟩:=hv;have I1:Inv X pins σ H { s with heap:=h',toks:=tk }:=I.turned (fun b o hb e=>kk b o (by simpa using hb) e) f0 f1 f3 f4 f5
  refine ⟨_,rfl,xj (s:={ s with heap:=h',toks:=tk }) (n:="range_iterator") st' rfl rfl (by decide) ⟨.int (lo+i),H,I1,⟨t,?_⟩,⟨rfl,rfl⟩,st',fun b hb=>(hf b hb).1⟩⟩
  rw [Int.mul_one]
 done:=by
  intro X hP hw hK hc i pins s σ H E I hf st hg;subst hP hw hK;obtain ⟨f0,f1,f2,f3,f4,f5⟩:=hf it (by simp)
  exact wpAny_pyNext_range_end (I.ok.hd hc) st (by have:n<=i:=hg;lia) fun h' eb=>⟨rfl,I.turned (t':=s.toks) (fun b o hb e=>eb b o hb e) f0 f1 f3 f4 f5⟩
 self:=fun _ _ _ _ _ st h=>wpAny_pyIter_rangeiter st h
end L2
namespace L2
open PySem PySem.Spec PyProof.Rows
section
variable {X:Cx}{tg:Expr}
theorem xP{pins:List (Addr×Obj)}{σ:St}{H:Hp}{s:Shared}{R:It->Hp->Prop}{E:Value->Shared->Prop}{lo hi:Int}{t u v:Tok}{tk:Nat}(I:Inv X pins σ H s)(h1:-(2 ^ 62)<=lo)(h2:lo<2 ^ 62)(h3:-(2 ^ 62)<=hi)(h4:hi<2 ^ 62)
  (q:R (Itr lo (hi-lo).toNat) H):wpAny (model X.prog X.w) X.A (pyIter (.ref s.heap.objs.size)) (PIE X pins σ tg R) E { s with heap:=s.heap.push { cls:=.type "range",data:=.fields #[.int lo t,.int hi u,.int 1 v] },toks:=tk }:=by
 refine wpAny_pyIter_range (IsRange.new ..) (small_one h1 h2 h3 h4) ?_;have I1:Inv X pins σ H { s with heap:=s.heap.push { cls:=.type "range",data:=.fields #[.int lo t,.int hi u,.int 1 v] },toks:=tk }:=I.kept fun b o e=>GC _ e;refine ⟨(s.heap.push { cls:=.type "range",data:=.fields #[.int lo t,.int hi u,.int 1 v] }).objs.size,[(s.heap.push { cls:=.type "range",data:=.fields #[.int lo t,.int hi u,.int 1 v] }).objs.size],_,_,H,rfl,
  I1.kept (t':=tk) fun b o e=>GC _ e,qv _ lo (hi-lo).toNat,?_,fun b hb=>?_,q⟩
 ·have e1:lo+((0:Nat):Int)*1=lo:=by simp
  have e2:(((hi-lo).toNat:Nat):Int)-((0:Nat):Int)=Builtin.Range.rangeSize lo hi 1:=by rw [rangeSize_one];split<;>lia
  show IsRangeIter _ _ (lo+((0:Nat):Int)*1) ((((hi-lo).toNat:Nat):Int)-((0:Nat):Int)) 1;rw [e1,e2];exact GN _ rfl
 ·have e:b=(s.heap.push { cls:=.type "range",data:=.fields #[.int lo t,.int hi u,.int 1 v] }).objs.size:=by simpa using hb
  subst e;exact I1.fpOk (GO _) (I1.hok.fresh (GO _))
def FQ(ta:TA):TI:=fun σ H R=>ta σ H fun vs H1=>∃j:Int,vs=[.int j]/\-(2 ^ 62)<=j/\j<2 ^ 62/\R (Itr 0 j.toNat) H1
theorem uW{a:Expr}{ta:TA}{p pos:Pos}(hg:Gl X "range")(hm:X.mg "range"=none)(ha:PA X [a] ta)(hs:starEach [a] X.env=[(false,eval a X.env)]:=by rfl):PI X tg (.Call (.Name "range" p) [a] [] pos) (FQ ta):=by
 intro pins s σ H R I h;refine Call_ (ld_blt I hg hm boot_range (Ht (thn (ha pos pins s σ H _ I h) fun us s1 ⟨vs,H1,I1,r1,q1⟩=>?_) hs rfl));obtain ⟨j,e,q1,q2,q⟩:=q1;subst e;cases r1 with
 |cons r rr=>
  cases rr;obtain ⟨t,rfl⟩:=r;exact call_range_1 (xP I1 (by lia) (by lia) q1 q2 (by simpa using q))
def tFor(wi:TI)(g:TG)(tb:TS):TS:=fun D σ H=>wi σ H fun J H1=>∃W:Nat->Nat->St->Hp->Prop,(∃m,W 0 m σ H1)/\∀i m σ H,W i m σ H->
 (J.stop i H/\D.nx σ H)\/(J.go i H/\∃N:St->Hp->Prop,(∀σ' H',N σ' H'->∃m',m'<m/\W (i+1) m' σ' H')/\∀x H',J.yld i H x H'->g x σ H' fun σ2 H2=>tb { D with nx:=N,ct:=N,bk:=D.nx } σ2 H2)
def jG(fp:List Addr)(h:Heap):List (Addr×Obj):=fp.filterMap fun b=>(h.get? b).map fun o=>(b,o)
theorem eQ{fp:List Addr}{h:Heap}{b:Addr}{o:Obj}(hb:b∈fp)(e:h.get? b=some o):(b,o)∈jG fp h:=Mm.mpr ⟨b,hb,by rw [e];rfl⟩
theorem uC{fp:List Addr}{h:Heap}{p:Addr×Obj}(hp:p∈jG fp h):p.1∈fp/\h.get? p.1=some p.2:=by
 obtain ⟨b,hb,e⟩:=Mm.mp hp;cases q:h.get? b with
 |none=>rw [q] at e;cases e
 |some o=>
  rw [q] at e;have e':(b,o)=p:=HC e;subst e';exact ⟨hb,q⟩
theorem Inv.pinned{pins:List (Addr×Obj)}{σ:St}{H:Hp}{s:Shared}{fp:List Addr}(I:Inv X pins σ H s)(hf:∀b∈fp,ig X pins H b)(ho:∀b∈fp,∃o,s.heap.get? b=some o/\∀v,o.data≠.cell v):Inv X (pins++jG fp s.heap) σ H s:=
 I.pins_of fun p hp=>(Hm.mp hp).elim (fun z=>I.pin p (Ho _ z)) fun z=>by
  obtain ⟨hb,e⟩:=uC z;obtain ⟨f0,f1,f2,_⟩:=hf p.1 hb;obtain ⟨o,e',d⟩:=ho p.1 hb;rw [e] at e';cases e';exact ⟨e,f0,f1,f2,d⟩
theorem Inv.unpinned{pins pl:List (Addr×Obj)}{σ:St}{H:Hp}{s:Shared}(I:Inv X (pins++pl) σ H s):Inv X pins σ H s:=I.pins_of fun p hp=>I.pin p (Ho _ (Ji _ hp))
theorem Cb{iter:Expr}{body:List Stmt}{wi:TI}{g:TG}{tb:TS}{pos:Pos}(hp:PassesOwn (model X.prog X.w) X.A X.env X.xe)(hc:X.calm=true)(hi:PI X tg iter wi)(hg:PG X tg g)(hb:rm X body tb)
  (hs:∀x,foldedSetIterable iter X.env x=pure x:=by intro _;rfl):PS X (.For tg iter body [] pos) (tFor wi g tb):=by
 intro pins s σ H D I h;refine wpAny_For (thn (hi pins s σ H _ I h) fun v s1 h1=>thn h1 fun itv s2 h2=>?_) hs;obtain ⟨it,fp,tn,J,H2,e,I2,T,st2,f2,W,⟨m0,w0⟩,turn⟩:=h2;subst e
 -- what stays true of the iterator's objects through the loop
 have stat:∀{H':Hp},(∀b∈fp,H' b=none)->∀b∈fp,ig X pins H' b:=fun hn b hb=>⟨hn b hb,(f2 b hb).2⟩;refine codeAny_forLoop_any (fun n s'=>∃i σ' H',Inv X pins σ' H' s'/\tn i s'.heap/\(∀b∈fp,H' b=none)/\W i n σ' H') ?_ m0 ⟨0,σ,H2,I2,st2,fun b hb=>(f2 b hb).1,w0⟩
 rintro n s3 ⟨i,σ3,H3,I3,st3,fr3,w3⟩
 rcases turn i n σ3 H3 w3 with ⟨stop,qn⟩|⟨go,N,hN,step⟩
 ·refine wpAny_passesOwn hp (thn (T.done X rfl rfl rfl hc i pins s3 σ3 H3 X.xe I3 (stat fr3) st3 stop) fun r s4 ⟨hr,I4⟩=>?_)
  subst hr;exact wpAny_execs_nil ⟨σ3,H3,I4,qn⟩
 ·refine wpAny_passesOwn hp (thn (T.item X rfl rfl rfl hc i pins s3 σ3 H3 X.xe I3 (stat fr3) st3 go) fun r s4 ⟨u,hr,h4⟩=>?_)
  subst hr;refine wpAny_passesOwn hp (thn h4 fun _ s5 ⟨x,H5,I5,r5,y5,st5,fr5⟩=>?_);have I5':=I5.pinned (stat fr5) (T.obj _ _ st5);refine wpAny_passesOwn hp (thn (hg _ s5 σ3 H5 x u _ I5' r5 (step x H5 y5)) fun _ s6 ⟨σ6,H6,I6,q6⟩=>?_);refine wpAny_passesOwn hp (thn (hb _ s6 σ6 H6 _ I6 q6) fun f s7 q7=>?_);have again:∀{σ7:St} {H7:Hp},Inv X (pins++jG fp s5.heap) σ7 H7 s7->N σ7 H7->∃m,m<n/\∃i σ' H',Inv X pins σ' H' s7/\tn i s7.heap/\(∀b∈fp,H' b=none)/\W i m σ' H':=fun {σ7 H7} I7 n7=>by
   obtain ⟨m',hm,w7⟩:=hN σ7 H7 n7;refine ⟨m',hm,i+1,σ7,H7,I7.unpinned,T.keep _ _ _ st5 fun b hb o e=>(I7.pin (b,o) (Ho _ (Ho _ (eQ hb e)))).1,fun b hb=>?_,w7⟩;obtain ⟨o,e,d⟩:=T.obj _ _ st5 b hb;exact (I7.pin (b,o) (Ho _ (Ho _ (eQ hb e)))).2.1
  cases f with
  |next=>obtain ⟨σ7,H7,I7,n7⟩:=q7;exact again I7 n7
  |cont=>obtain ⟨σ7,H7,I7,n7⟩:=q7;exact again I7 n7
  |brk=>obtain ⟨σ7,H7,I7,q7⟩:=q7;exact ⟨σ7,H7,I7.unpinned,q7⟩
  |ret v=>obtain ⟨x7,σ7,H7,I7,r7,q7⟩:=q7;exact ⟨x7,σ7,H7,I7.unpinned,r7,q7⟩
end
end L2
namespace L2
open PySem PySem.Spec PyProof.Rows
abbrev R2:=V->V->Hp->VK->Prop
def dm(X:Cx)(f:Value->Value->Sem Value)(r:R2):Prop:=
 ∀(pins:List (Addr×Obj)) (s:Shared) (σ:St) (H:Hp) (x y:V) (v u:Value) (Q:VK),Inv X pins σ H s->RelV x v->RelV y u->r x y H Q->
  wpAny (model X.prog X.w) X.A (f v u) (EP X pins σ Q) X.xe s
def cA(X:Cx)(f:Value)(r:List V->Hp->VK->Prop):Prop:=
 ∀(pins:List (Addr×Obj)) (s:Shared) (σ:St) (H:Hp) (xs:List V) (us:List Value) (Q:VK),Inv X pins σ H s->Vals xs us->r xs H Q->
  wpAny (model X.prog X.w) X.A (call f us) (EP X pins σ Q) X.xe s
def TruR(X:Cx)(r:V->Hp->(Bool->Hp->Prop)->Prop):Prop:=
 ∀(pins:List (Addr×Obj)) (s:Shared) (σ:St) (H:Hp) (x:V) (v:Value) (Q:Bool->Hp->Prop),Inv X pins σ H s->RelV x v->r x H Q->
  wpAny (model X.prog X.w) X.A (truthy v) (TP X pins σ Q) X.xe s
def G3(r:R2)(ta tb:TE):TE:=fun σ H Q=>ta σ H fun x H1=>tb σ H1 fun y H2=>r x y H2 Q
def rI(C:Int->Int->Prop)(g:Int->Int->V):R2:=fun x y H Q=>∃i j,x=.int i/\y=.int j/\C i j/\Q (g i j) H
def BF(g:Int->Int->V):R2:=fun x y H Q=>∃i j,x=.int i/\y=.int j/\Q (g i j) H
section
variable {X:Cx}{a b c:Expr}{ta tb tc:TE}{pos:Pos}
theorem binT(ha:PE X a ta)(hb:PE X b tb){pins:List (Addr×Obj)}{s:Shared}{σ:St}{H:Hp}{R:V->V->Hp->Prop}(I:Inv X pins σ H s)
  (h:ta σ H fun x H1=>tb σ H1 fun y H2=>R x y H2) {Q:Value->Shared->Prop} {f:Value->Value->Sem Value}
  (hf:∀v u s2 x y H2,Inv X pins σ H2 s2->RelV x v->RelV y u->R x y H2->wpAny (model X.prog X.w) X.A (f v u) Q X.xe s2):
  wpAny (model X.prog X.w) X.A (eval a X.env) (fun v s₁=>wpAny (model X.prog X.w) X.A (eval b X.env) (fun u s₂=>wpAny (model X.prog X.w) X.A (f v u) Q X.xe s₂) X.xe s₁) X.xe s:=by
 refine thn (ha pins s σ H _ I h) fun v s1 ⟨x,H1,I1,r1,q1⟩=>?_;refine thn (hb pins s1 σ H1 _ I1 q1) fun u s2 ⟨y,H2,I2,r2,q2⟩=>?_;exact hf v u s2 x y H2 I2 r1 r2 q2
theorem Fx{op:Operator}{r:R2}(ho:dm X (binaryOp op) r)(ha:PE X a ta)(hb:PE X b tb):PE X (.BinOp a op b pos) (G3 r ta tb):=by
 intro pins s σ H Q I h;exact wpAny_BinOp (binT ha hb I h fun v u s2 x y H2 I2 rx ry q=>ho pins s2 σ H2 x y v u Q I2 rx ry q)
theorem opI{f:Value->Value->Sem Value}{C:Int->Int->Prop}{g:Int->Int->Int}
  (rule:∀(i j:Int) (t u:Tok) (s:Shared) (Q:Value->Shared->Prop) (E:Value->Shared->Prop),C i j->Q (.int (g i j) s.toks) { s with toks:=s.toks+1 }->wpAny (model X.prog X.w) X.A (f (.int i t) (.int j u)) Q E s):
  dm X f (rI C fun i j=>.int (g i j)):=by
 intro pins s σ H x y v u Q I rx ry h;obtain ⟨i,j,rfl,rfl,hc,q⟩:=h;obtain ⟨t,rfl⟩:=rx;obtain ⟨t',rfl⟩:=ry;exact rule i j t t' s _ _ hc ⟨.int (g i j),H,I.tok _,⟨_,rfl⟩,q⟩
theorem Gn{f:Value->Value->Sem Value}{g:Int->Int->Int}
  (rule:∀(i j:Int) (t u:Tok) (s:Shared) (Q:Value->Shared->Prop) (E:Value->Shared->Prop),Q (.int (g i j) s.toks) { s with toks:=s.toks+1 }->wpAny (model X.prog X.w) X.A (f (.int i t) (.int j u)) Q E s):
  dm X f (BF fun i j=>.int (g i j)):=by
 intro pins s σ H x y v u Q I rx ry h;obtain ⟨i,j,rfl,rfl,q⟩:=h;obtain ⟨t,rfl⟩:=rx;obtain ⟨t',rfl⟩:=ry;exact rule i j t t' s _ _ ⟨.int (g i j),H,I.tok _,⟨_,rfl⟩,q⟩
theorem E7{f:Value->Value->Sem Value}{g:Int->Int->Bool}
  (rule:∀(i j:Int) (t u:Tok) (s:Shared) (Q:Value->Shared->Prop) (E:Value->Shared->Prop),Q (.bool (g i j)) s->wpAny (model X.prog X.w) X.A (f (.int i t) (.int j u)) Q E s):
  dm X f (BF fun i j=>.bl (g i j)):=by
 intro pins s σ H x y v u Q I rx ry h;obtain ⟨i,j,rfl,rfl,q⟩:=h;obtain ⟨t,rfl⟩:=rx;obtain ⟨t',rfl⟩:=ry;exact rule i j t t' s _ _ ⟨.bl (g i j),H,I,rfl,q⟩
def Gq(i j:Int):Prop:=0<=j/\j<=1000000/\i.natAbs<2 ^ 64
def CMul(i j:Int):Prop:=(-(2 ^ 64)<i/\i<2 ^ 64)\/(-(2 ^ 64)<j/\j<2 ^ 64)
theorem CMul.ok{i j:Int}(h:CMul i j):IntMulOk i j:=by
 rcases h with ⟨h1,h2⟩|⟨h1,h2⟩
 ·exact .of_left (intBits_le_64 h1 h2)
 ·exact .of_right (intBits_le_64 h1 h2)
theorem Ex:dm X (binaryOp .Add) (BF fun i j=>.int (i+j)):=Gn fun _ _ _ _ _ _ _ q=>add_int q
theorem CT:dm X (binaryOp .Sub) (BF fun i j=>.int (i-j)):=Gn fun _ _ _ _ _ _ _ q=>sub_int q
theorem Cl:dm X (binaryOp .Mult) (rI CMul fun i j=>.int (i*j)):=opI fun _ _ _ _ _ _ _ hc q=>mul_int q hc.ok
theorem Cc:dm X (binaryOp .Mod) (rI (fun _ j=>0<j) fun i j=>.int (i % j)):=opI fun i j _ _ _ _ _ hc q=>by
 have h1:(0:Int)<j:=hc;exact mod_int' (by lia) (by rw [Int.fmod_eq_emod_of_nonneg i (by lia)];exact q)
theorem Dx:dm X (binaryOp .Pow) (rI Gq fun i j=>.int (i ^ j.toNat)):=opI fun _ _ _ _ _ _ _ hc q=>pow_int_small hc.1 hc.2.1 hc.2.2 q
end
section
variable {X:Cx}{a b c:Expr}{ta tb tc:TE}{pos:Pos}
theorem xy{pins:List (Addr×Obj)}{σ:St}{H:Hp}{s:Shared}{Q:VK}{k k':Bool}(I:Inv X pins σ H s)(q:Q (.bl k) H)(e:k=k'):EP X pins σ Q (.bool k') s:=by
 subst e;exact ⟨.bl k,H,I,rfl,q⟩
theorem Fi:dm X (compareOp .Lt) (BF fun i j=>.bl (decide (i<j))):=E7 fun _ _ _ _ _ _ _ q=>lt_int q
theorem Fv:dm X (compareOp .Gt) (BF fun i j=>.bl (decide (j<i))):=E7 fun _ _ _ _ _ _ _ q=>gt_int q
theorem EW:dm X (compareOp .GtE) (BF fun i j=>.bl (decide (j<=i))):=E7 fun _ _ _ _ _ _ _ q=>ge_int q
theorem Da:dm X (compareOp .Is) (fun x y H Q=>y=.non/\Q (.bl (decide (x=.non))) H):=by
 intro pins s σ H x y v u Q I rx ry h;obtain ⟨rfl,q⟩:=h;cases ry;refine is_none_gen (xy I q ?_)
 cases x<;>first
  |(cases rx;rfl)
  |(obtain ⟨t,rfl⟩:=rx;rfl)
theorem z8:dm X (compareOp .IsNot) (fun x y H Q=>y=.non/\Q (.bl (!decide (x=.non))) H):=by
 intro pins s σ H x y v u Q I rx ry h;obtain ⟨rfl,q⟩:=h;cases ry;refine isnot_none_gen (xy I q ?_)
 cases x<;>first
  |(cases rx;rfl)
  |(obtain ⟨t,rfl⟩:=rx;rfl)
theorem aD(b:Expr){op:CmpOp}(h:op≠.In:=by decide)(h2:op≠.NotIn:=by decide):behindInMarks op b=false:=by
 have e1:(op==CmpOp.In)=false:=by cases op<;>first|rfl|exact absurd rfl h
 have e2:(op==CmpOp.NotIn)=false:=by cases op<;>first|rfl|exact absurd rfl h2
 cases b<;>simp [behindInMarks,e1,e2]
theorem As{op:CmpOp}{r:R2}(ho:dm X (compareOp op) r)(ha:PE X a ta)(hb:PE X b tb)(hm:behindInMarks op b=false):PE X (.Compare a [op] [b] pos) (G3 r ta tb):=by
 intro pins s σ H Q I h;exact wpAny_Compare1 (binT ha hb I h fun v u s2 x y H2 I2 rx ry q=>ho pins s2 σ H2 x y v u Q I2 rx ry q) hm
def FA(t:TE):TT:=fun σ H Q=>t σ H fun x H'=>∃k,x=.bl k/\Q k H'
theorem zj{op:CmpOp}{r:R2}(ho:dm X (compareOp op) r)(ha:PE X a ta)(hb:PE X b tb)(hm:behindInMarks op b=false):PT X (.Compare a [op] [b] pos) (FA (G3 r ta tb)):=by
 intro pins s σ H Q I h;refine wpAny_isTrue_Compare1 (thn (ha pins s σ H _ I h) fun v s1 ⟨x,H1,I1,r1,q1⟩=>thn (hb pins s1 σ H1 _ I1 q1) fun u s2 ⟨y,H2,I2,r2,q2⟩=>
  thn (ho pins s2 σ H2 x y v u _ I2 r1 r2 q2) fun c s3 ⟨z,H3,I3,r3,k,e,q3⟩=>?_) hm
 subst e;cases r3;exact wpAny_truthy_bool ⟨H3,I3,q3⟩
def Cr(K:GH)(x:V)(H:Hp)(k:Bool):Prop:=
 match x with
 |.non=>k=false
 |.bl b=>k=b
 |.int i=>k=(i != 0)
 |.str y=>y.length<=sizeLine/\k=((y.length:Int) != 0)
 |.byt y=>y.size<=sizeLine/\k=((y.size:Int) != 0)
 |.ref p=>(∃xs,SqL K H p xs/\k=!xs.isEmpty)\/(∃xs,ic K H p xs/\k=!xs.isEmpty)\/∃kvs,H p=some (.dK kvs)/\k=!kvs.isEmpty
 |_=>False
theorem qe{κ:Type}{kvs:List (κ×V)}{vs:List (κ×Value)}(r:KV kvs vs):(!vs.isEmpty)=!kvs.isEmpty:=by
 cases r<;>rfl
theorem kc{xs:List V}{its:List Value}(r:Vals xs its):(!its.toArray.isEmpty)=!xs.isEmpty:=by
 cases r<;>simp
theorem gg:(sizeLine:Nat)<2 ^ 63:=by rw [sizeLine_eq];decide
theorem DY:TruR X (fun x H Q=>∃k,Cr X.K x H k/\Q k H):=by
 intro pins s σ H x v Q I rx h;obtain ⟨k,e,q⟩:=h;have hl:=gg;have hs:sizeLine=16777216:=sizeLine_eq;cases x with
 |non=>
  cases rx;have e':k=false:=e;subst e';exact truthy_none ⟨H,I,q⟩
 |bl b=>
  cases rx;have e':k=b:=e;subst e';exact wpAny_truthy_bool ⟨H,I,q⟩
 |int i=>
  obtain ⟨t,rfl⟩:=rx;have e':k=(i != 0):=e;subst e';exact PySem.P.truthy_int ⟨H,I,q⟩
 |str y=>
  obtain ⟨t,rfl⟩:=rx;obtain ⟨hy,e'⟩:y.length<=sizeLine/\k=((y.length:Int) != 0):=e;subst e';exact PySem.P.truthy_str (by lia) ⟨H,I.tok _,q⟩
 |byt y=>
  obtain ⟨t,rfl⟩:=rx;obtain ⟨hy,e'⟩:y.size<=sizeLine/\k=((y.size:Int) != 0):=e;subst e';exact W.truthy_bytes (by lia) ⟨H,I.tok _,q⟩
 |ref p=>
  cases rx;have e':(∃xs,SqL X.K H p xs/\k=!xs.isEmpty)\/(∃xs,ic X.K H p xs/\k=!xs.isEmpty)\/∃kvs,H p=some (.dK kvs)/\k=!kvs.isEmpty:=e;rcases e' with ⟨xs,hx,e'⟩|⟨xs,hx,e'⟩|⟨kvs,hx,e'⟩
  ·subst e'
   obtain ⟨its,r,pl,hz⟩:=I.list hx;have hlen:=r.length;exact wpAny_truthy_list pl.isList (by simp only [GJ];lia) ⟨H,I.tok _,by rw [kc r];exact q⟩
  ·subst e'
   obtain ⟨its,r,pl,hz⟩:=I.tuple hx;have hlen:=r.length;exact truthy_tuple pl (by simp only [GJ];lia) ⟨H,I.tok _,by rw [kc r];exact q⟩
  ·subst e'
   obtain ⟨hz,hS,vs,r,m⟩:kvs.length<=sizeLine/\(p==sysModules)=false/\∃vs,KV kvs vs/\s.heap.DictOf (bq X.prog X.w) p vs:=I.hok p _ hx;have hlen:kvs.length=vs.length:=Ik r;exact wpAny_truthy_dict hS m (by lia) ⟨H,I.tok _,by rw [qe r];exact q⟩
 |_=>exact (show False from e).elim
theorem vJ(ha:PE X a ta)(he:∀whole,isTrue a X.env whole=(do let v <- whole;standAt a.pos;holding [v] (truthy v))):
  PT X a (fun σ H Q=>ta σ H fun x H'=>∃k,Cr X.K x H' k/\Q k H'):=by
 intro pins s σ H Q I h;exact isTrue_plain (thn (ha pins s σ H _ I h) fun v s1 ⟨x,H1,I1,r1,q1⟩=>DY pins s1 σ H1 x v Q I1 r1 q1) (he _)
theorem qf:dm X (binaryOp .Add) (fun x y H Q=>∃i j,x=.str i/\y=.str j/\i.length+j.length<=sizeLine/\Q (.str (i++j)) H):=by
 intro pins s σ H x y v u Q I rx ry h;obtain ⟨i,j,rfl,rfl,hz,q⟩:=h;obtain ⟨t,rfl⟩:=rx;obtain ⟨t',rfl⟩:=ry;exact add_str (fun t' tk=>⟨.str (i++j),H,I.tok _,⟨_,rfl⟩,q⟩) hz
theorem gn{x:V}{us:List Value}(r:Vals [x] us):∃u,us=[u]/\RelV x u:=by
 cases r with
 |cons r1 r2=>cases r2;exact ⟨_,rfl,r1⟩
theorem FZ{x y:V}{us:List Value}(r:Vals [x,y] us):∃u w',us=[u,w']/\RelV x u/\RelV y w':=by
 cases r with
 |cons r1 r2=>
  cases r2 with
  |cons r3 r4=>cases r4;exact ⟨_,_,rfl,r1,r3⟩
theorem uv(hc:X.calm=true):cA X (.builtin "min") (fun xs H Q=>∃i j,xs=[.int i,.int j]/\Q (.int (if j<i then j else i)) H):=by
 intro pins s σ H xs us Q I r h;obtain ⟨i,j,rfl,q⟩:=h;obtain ⟨u,w',rfl,⟨t,rfl⟩,⟨t',rfl⟩⟩:=FZ r;refine min_two_ints (I.ok.hd hc) fun h' tk k=>⟨_,H,I.kept k,?_,q⟩
 by_cases hj:j<i
 ·rw [if_pos hj,if_pos hj];exact ⟨_,rfl⟩
 ·rw [if_neg hj,if_neg hj];exact ⟨_,rfl⟩
end
end L2
namespace L2
open PySem PySem.Spec PyProof.Rows
structure ObjM(h:Heap)(x dx C:Addr)(mA:Str->Option Value):Prop where
 obj:h.get? x=some (JA C dx)
 ns:h.Ns1 dx mA
 ne:dx≠x
theorem uZ{h:Heap}{dx:Addr}{mA:Str->Option Value}(n:h.Ns1 dx mA):∃od,h.get? dx=some od/\∀name,W.lookIn name od=some (mA name):=by
 obtain ⟨o,es,ep,ho,hd,hk,_,hm⟩:=n;refine ⟨o,ho,fun name=>?_⟩;have e:=hm name;unfold nsFind findBy at e;rw [<- Array.find?_toList] at e;unfold W.lookIn;rw [hd];dsimp only
 split
 ·rename_i y q
  rw [q] at e;exact congrArg some e
 ·rename_i q
  rw [q] at e;have a:es.toList.any (·.refKey)=false:=by
   rw [List.any_eq_false];intro y hy;obtain ⟨z,t,hkey⟩:=hk y (Array.mem_toList_iff.mp hy);simp [DictEntry.refKey,hkey]
  have a':¬es.toList.any (·.refKey)=true:=by rw [a];exact GY
  rw [if_neg a'];exact congrArg some e
theorem ObjM.look{h:Heap}{x dx C:Addr}{mA:Str->Option Value}(I:ObjM h x dx C mA):∃od,W.InstAt h x (JA C dx) C (some od)/\∀name,W.lookIn name od=some (mA name):=
 let ⟨od,ho,hl⟩:=uZ I.ns
 ⟨od,⟨I.obj,rfl,rfl,ho⟩,hl⟩
section
variable {prog:Program}{w:World}{A:Around}{E:Value->Shared->Prop}{s:Shared}{K:GH}{x dx C f:Addr}{mA:Str->Option Value}{name:Str}{v:Value}
theorem zP{expr:Bool}{Q:Value->Shared->Prop}(X:K.In s.heap)(I:ObjM s.heap x dx C mA)(hg:J1 K C name=true)(hh:J8 K C=true)
  (ha:HS K (.ref C) name=some none) (hv:mA name=some v) (hv':W.handedIn v=true) (h:Q v { s with toks:=s.toks+1 }):
  wpAny (model prog w) A (getAttr (.ref x) name expr) Q E s:=by
 obtain ⟨od,J,hl⟩:=I.look;exact W.get_value X J (LL hg).1 (W.findObj_own hh ha rfl (by rw [hl,hv])) hv' h
theorem yi{pl:Sem Bool}{Q:Value×List Value->Shared->Prop}(X:K.In s.heap)(I:ObjM s.heap x dx C mA)(hg:J1 K C name=true)
  (hf:HS K (.ref C) name=some (some (.ref f))) (ht:W.isFn K (.ref f)=true) (hv:mA name=none) (h:Q (.ref f,[.ref x]) s):
  wpAny (model prog w) A (getMethod (.ref x) name pl) Q E s:=by
 obtain ⟨od,J,hl⟩:=I.look;exact W.method_fn X J (LL hg).1 (LL hg).2 hf (beq_iff_eq.mp ht) (by show (W.lookIn name od).map (·.isSome)=some false;rw [hl,hv];rfl) h
theorem zA{ns:List Str}{Q:Unit->Shared->Prop}(X:K.In s.heap)(I:ObjM s.heap x dx C mA)
  (hs:HS K (.ref C) "__setattr__"=some (some (.builtin "object.__setattr__"))) (hp:KS K C=true) (ht:W.takerIn K C name=some none) (hh:J8 K C=true)
  (hw:Lq mA ns) (hsz:ns.length<=sizeLine)
  (h:∀h',ObjM h' x dx C (fun y=>if y=name then some v else mA y)->Im dx s.heap h'->Q () { s with heap:=h',toks:=s.toks+2 }):
  wpAny (model prog w) A (setAttr (.ref x) name v) Q E s:=by
 obtain ⟨od,J,hl⟩:=I.look;refine W.set_plain X J hs (W.osa_open (s:={ s with toks:=s.toks+1 }) (r:=none) X J hp ht fun b=>?_);obtain ⟨cd,hc,hd'⟩:=W.any_some hh;have hx:s.heap.get? x=some ⟨.ref C,some dx,.plain,#[]⟩:=I.obj;refine wpAny_bind (wpAny_pure (wpAny_bind (wpAny_bind (wpAny_loadPart hx (wpAny_bind (W.Looks.here (s:={ s with toks:=s.toks+1 }) (W.looks_clsIn X hc) ?_))))));rw [hd'];refine wpAny_pure (a:=some dx) (wpAny_bind (wpAny_pure (wpAny_bind ?_)));refine wpAny_nsSet1 (s:={ s with toks:=s.toks+1 }) I.ns fun h' hn2 hs2=>?_;obtain ⟨oD,esD,epD,hoD,hdD,hcD⟩:=hn2.count (PySem.Within.cons name v hw);refine wpAny_bind (wpAny_lookBehind hoD (by rw [hdD];exact pastItsLine_dict (Hd hcD (by rw [GI];lia))) ?_)
 exact wpAny_pure (h _ ⟨(hs2.2 _ (Hw I.ne)).trans I.obj,hn2,I.ne⟩ hs2)
theorem xp{R:Result->Shared->Prop}{vs:List Value}{kw:List (Str×Value)}(X:K.In s.heap)(hm:LW K C=true)
  (hi:HS K (.ref C) "__init__"=some (some (.ref f))) (hf:W.typeIn K (.ref f)=some (.type "function"))
  (h:codeAny (model prog w) (A.under (.builtin "type.__call__" ⟨.ref C::vs,kw⟩)) (.call (.ref f) ⟨.ref (s.heap.objs.size+1)::vs,kw⟩) (W.InitBack (s.heap.objs.size+1) R)
   { s with heap:=(s.heap.push IS).push (JA C s.heap.objs.size) }):
  codeAny (model prog w) A (.call (.ref C) ⟨vs,kw⟩) R s:=by
 obtain ⟨hh,g,d,t,os⟩:=s;exact W.make_core (W.makes_of X hm) (W.looks_findIn X hi) (fun self=>W.bind_fn X self hf) (.inl rfl) h
end
def dN(f:Str)(v:V):List (Str×V)->List (Str×V)
 |[]=>[(f,v)]
 |(g,x)::r=>if g=f then (g,v)::r else (g,x)::dN f v r
theorem iB(f g:Str)(v:V):∀fs:List (Str×V),(dN f v fs).lookup g=if g=f then some v else fs.lookup g
 |[]=>by
  show Hu g [(f,v)]=_
  by_cases h:g=f
  ·have hb:(g==f)=true:=beq_iff_eq.mpr h
   simp only [Hu,hb,if_pos h]
  ·have hb:(g==f)=false:=beq_eq_false_iff_ne.mpr h
   simp only [Hu,hb,if_neg h]
 |(k,x)::r=>by
  have ih:=iB f g v r;rw [show dN f v ((k,x)::r)=(if k=f then (k,v)::r else (k,x)::dN f v r) from rfl]
  by_cases hk:k=f
  ·rw [if_pos hk]
   by_cases h:g=k
   ·have hb:(g==k)=true:=beq_iff_eq.mpr h
    simp only [Hu,hb,if_pos (h.trans hk)]
   ·have hb:(g==k)=false:=beq_eq_false_iff_ne.mpr h
    simp only [Hu,hb,if_neg (fun e:g=f=>h (e.trans hk.symm))]
  ·rw [if_neg hk]
   by_cases h:g=k
   ·have hb:(g==k)=true:=beq_iff_eq.mpr h
    simp only [Hu,hb,if_neg (fun e:g=f=>hk (h.symm.trans e))]
   ·have hb:(g==k)=false:=beq_eq_false_iff_ne.mpr h
    simp only [Hu,hb];exact ih
theorem h_(f:Str)(v:V):∀fs:List (Str×V),f∈(dN f v fs).map (·.1)/\∀g,g∈fs.map (·.1)->g∈(dN f v fs).map (·.1)
 |[]=>⟨by simp [dN],fun g h=>by simp at h⟩
 |(k,x)::r=>by
  obtain ⟨i1,i2⟩:=h_ f v r;rw [show dN f v ((k,x)::r)=(if k=f then (k,v)::r else (k,x)::dN f v r) from rfl]
  by_cases hk:k=f
  ·rw [if_pos hk]
   subst hk;exact ⟨by simp,fun g h=>by simpa using h⟩
  ·rw [if_neg hk]
   refine ⟨?_,fun g h=>?_⟩
   ·rw [GR]
    exact Hf _ i1
   ·rw [GR] at h ⊢
    rcases Hq.mp h with e|e
    ·exact Hq.mpr (.inl e)
    ·exact Hf _ (i2 g e)
theorem iE(f:Str)(v:V):∀fs:List (Str×V),(dN f v fs).length<=fs.length+1
 |[]=>by simp [dN]
 |(k,x)::r=>by
  have ih:=iE f v r;rw [show dN f v ((k,x)::r)=(if k=f then (k,v)::r else (k,x)::dN f v r) from rfl]
  by_cases hk:k=f
  ·rw [if_pos hk,GI,GI];lia
  ·rw [if_neg hk,GI,GI];lia
theorem eX{v:V}{o:Option Value}(r:RelO (some v) o):∃u,o=some u/\RelV v u:=by
 cases o with
 |none=>exact (show False from r).elim
 |some u=>exact ⟨u,rfl,r⟩
theorem ng{o:Option Value}(r:RelO none o):o=none:=by
 cases o with
 |none=>rfl
 |some u=>exact (show False from r).elim
theorem u_{v:V}{u:Value}(r:RelV v u):W.handedIn u=true:=by
 cases v with
 |non=>cases (show u=Ic from r);rfl
 |bl b=>cases (show u=IM b from r);rfl
 |int i=>obtain ⟨t,e⟩:=(show ∃t,u=Kp i t from r);cases e;rfl
 |str x=>obtain ⟨t,e⟩:=(show ∃t,u=Ko x t from r);cases e;rfl
 |byt b=>obtain ⟨t,e⟩:=(show ∃t,u=Value.bytes b t from r);cases e;rfl
 |flt b=>obtain ⟨t,e⟩:=(show ∃t,u=LM b t from r);cases e;rfl
 |ref a=>cases (show u=Hb a from r);rfl
 |ty n=>cases (show u=KO n from r);rfl
section
variable {P:Program}{w:World}{H H':Hp}{h h':Heap}{a C dx:Addr}{fs fs':List (Str×V)}
theorem iS(hok:HOk P w H h)(e:H a=some (.ins C dx fs)):∃mA,ObjM h a dx C mA/\(∀f,RelO (fs.lookup f) (mA f))/\Lq mA (fs.map (·.1))/\fs.length<=1000/\H dx=some (.own a):=by
 obtain ⟨d,z,ne,ob,mA,n,r,q⟩:=(show ObjOk P w H h a (.ins C dx fs) from hok a _ e);exact ⟨mA,⟨ob,n,ne⟩,r,q,z,d⟩
end
structure Cls(K:GH)(C:Addr):Prop where
 pg:J1 K C Str.empty=true
 hd:J8 K C=true
 po:KS K C=true
 sa:HS K (.ref C) "__setattr__"=some (some (.builtin "object.__setattr__"))
theorem Cls.get{K:GH}{C:Addr}(c:Cls K C)(f:Str):J1 K C f=true:=c.pg
def NoAttr(K:GH)(C:Addr)(f:Str):Prop:=HS K (.ref C) f=some none
theorem NoAttr.taker{K:GH}{C:Addr}{f:Str}(n:NoAttr K C f):W.takerIn K C f=some none:=by
 unfold W.takerIn;rw [show HS K (.ref C) f=some none from n];rfl
structure Meth(K:GH)(C:Addr)(m:Str)(f:Addr):Prop where
 at_:HS K (.ref C) m=some (some (.ref f))
 fn:W.isFn K (.ref f)=true
 kp:GV K (.ref f)=true
section
variable {X:Cx}{pins:List (Addr×Obj)}{σ:St}{H:Hp}{s:Shared}{a C dx:Addr}{fs:List (Str×V)}{f:Str}{v:V}{A:Around}{E:Value->Shared->Prop}
theorem qU{b:Bool}{Q:Value->Shared->Prop}(I:Inv X pins σ H s)(e:H a=some (.ins C dx fs))(c:Cls X.K C)(n:NoAttr X.K C f)(l:fs.lookup f=some v)
  (h:∀u s',Inv X pins σ H s'->RelV v u->Q u s'):wpAny (model X.prog X.w) A (getAttr (.ref a) f b) Q E s:=by
 obtain ⟨mA,O,r,_,_,_⟩:=iS I.hok e;obtain ⟨u,hu,ru⟩:=eX (v:=v) (o:=mA f) (by rw [<- l];exact r f)
 exact zP I.kIn O (c.get f) c.hd n hu (u_ ru) (h u _ (I.tok _) ru)
theorem qI{m:Str}{g:Addr}{pl:Sem Bool}{Q:Value×List Value->Shared->Prop}(I:Inv X pins σ H s)(e:H a=some (.ins C dx fs))(c:Cls X.K C)(k:Meth X.K C m g)(l:fs.lookup m=none)
  (h:Q (.ref g,[.ref a]) s):wpAny (model X.prog X.w) A (getMethod (.ref a) m pl) Q E s:=by
 obtain ⟨mA,O,r,_,_,_⟩:=iS I.hok e;have hn:mA m=none:=ng (by rw [<- l];exact r m)
 exact yi I.kIn O (c.get m) k.at_ k.fn hn h
theorem qQ{y:V}{u:Value}{Q:Unit->Shared->Prop}(I:Inv X pins σ H s)(e:H a=some (.ins C dx fs))(c:Cls X.K C)(n:NoAttr X.K C f)(hl:fs.length<1000)(ry:RelV y u)
  (h:∀s',Inv X pins σ (upd H a (.ins C dx (dN f y fs))) s'->Q () s'):wpAny (model X.prog X.w) A (setAttr (.ref a) f u) Q E s:=by
 obtain ⟨mA,O,r,wi,_,ho⟩:=iS I.hok e;have hz:(fs.map (·.1)).length<=sizeLine:=by rw [GF,sizeLine_eq];lia
 refine zA I.kIn O c.sa c.po n.taker c.hd wi hz fun h' O' sb=>h _ ?_;have hd:∃o,h'.get? dx=some o:=let ⟨o,_,_,e',_⟩:=O'.ns;⟨o,e'⟩;refine I.write (x:=a) (e:=dx) (by rw [e];exact Iq) (.inr ho) (fun b q hb z=>(sb.2 b hb).trans z) hd ?_
 refine ⟨by rw [upd_ne O.ne];exact ho,?_,O.ne,O'.obj,_,O'.ns,fun g=>?_,fun g hg=>?_⟩
 ·have:=iE f y fs;lia
 ·show RelO ((dN f y fs).lookup g) (if g=f then some u else mA g)
  rw [iB]
  by_cases q:g=f
  ·rw [if_pos q,if_pos q];exact ry
  ·rw [if_neg q,if_neg q];exact r g
 ·by_cases q:g=f
  ·rw [q];exact (h_ f y fs).1
  ·refine (h_ f y fs).2 g (wi g fun z=>hg ?_)
   show (if g=f then some u else mA g)=none
   rw [if_neg q];exact z
theorem yn(I:Inv X pins σ H s):Inv X pins σ (upd (upd H s.heap.objs.size (.own (s.heap.objs.size+1))) (s.heap.objs.size+1) (.ins C s.heap.objs.size []))
  { s with heap:=(s.heap.push IS).push (JA C s.heap.objs.size) }:=by
 have e1:(s.heap.push IS).get? s.heap.objs.size=some IS:=GN s.heap rfl;have e2:((s.heap.push IS).push (JA C s.heap.objs.size)).get? (s.heap.objs.size+1)=some (JA C s.heap.objs.size):=by
  have:=GN (s.heap.push IS) (o:=JA C s.heap.objs.size) rfl
  rwa [Hz] at this
 have e3:(s.heap.push IS).Ns s.heap.objs.size (fun _=>none):=⟨IS,#[],_,e1,rfl,(fun e he=>absurd he (by simp)),fun _=>rfl⟩
 have I1:=I.laid (a:=s.heap.objs.size) (o:=.own (s.heap.objs.size+1)) (h':=s.heap.push IS) (t':=s.toks) (fun b u q=>GC _ q) (GO _) ⟨_,e1⟩;refine I1.laid (a:=s.heap.objs.size+1) (o:=.ins C s.heap.objs.size []) (t':=s.toks) (fun b u q=>GC _ q) (Nat.le_of_eq (Hz _ _)) ?_;have ne:s.heap.objs.size≠s.heap.objs.size+1:=GW (KG _);refine ⟨by rw [upd_ne ne,upd_same],Hn _,ne,e2,fun _=>none,(Heap.Ns1.of_empty e3).at fun o q=>GC _ q,fun _=>Iq,fun y hy=>absurd rfl hy⟩
theorem attr_of{prog:Program}{w:World}{env:Env}{e:Expr}{f:Str}{pos:Pos}{s:Shared}{Q:Value->Shared->Prop}(hb:attributeBase e f env (eval e env)=eval e env)
  (h:wpAny (model prog w) A (eval e env) (fun o s₁=>wpAny (model prog w) A (getAttr o f true) Q E s₁) E s):wpAny (model prog w) A (eval (.Attribute e f pos) env) Q E s:=
 Attribute_any_ h (by rw [arm_eval_Attribute,hb])
end
def tFld(K:GH)(ta:TE)(f:Str):TE:=fun σ H Q=>ta σ H fun x H1=>∃a C dx fs v,x=.ref a/\H1 a=some (.ins C dx fs)/\Cls K C/\NoAttr K C f/\fs.lookup f=some v/\Q v H1
def sFld(K:GH)(ta tv:TE)(f:Str):TS:=fun D σ H=>tv σ H fun y H1=>ta σ H1 fun x H2=>∃a C dx fs,x=.ref a/\H2 a=some (.ins C dx fs)/\Cls K C/\NoAttr K C f/\fs.length<1000/\
 D.nx σ (upd H2 a (.ins C dx (dN f y fs)))
section
variable {X:Cx}{o e value:Expr}{f:Str}{pos pos' tpos:Pos}{ta tv:TE}
theorem Ew(he:PE X e ta)(hb:attributeBase e f X.env (eval e X.env)=eval e X.env):PE X (.Attribute e f pos) (tFld X.K ta f):=by
 intro pins s σ H Q I h;refine attr_of hb (thn (he pins s σ H _ I h) fun u s1 zz=>?_);obtain ⟨x,H1,I1,rx,a,C,dx,fs,v,ex,ea,c,n,l,q⟩:=zz;subst ex;obtain rfl:u=Hb a:=rx;exact qU I1 ea c n l fun u' s2 I2 ru=>⟨v,H1,I2,ru,q⟩
theorem CU(ha:PE X o ta)(hv:PE X value tv)(hs:swapsWith value (some (.Attribute o f pos')) pos.line X.env=pure false):PS X (.Assign [.Attribute o f pos'] value pos) (sFld X.K ta tv f):=by
 intro pins s σ H D I h;refine plainObj_wpAny_Assign_Attribute (thn (hv pins s σ H _ I h) fun u s1 ⟨y,H1,I1,ry,q⟩=>thn (ha pins s1 σ H1 _ I1 q) fun ov s2 zz=>?_) hs;obtain ⟨x,H2,I2,rx,a,C,dx,fs,ex,ea,c,n,l,q2⟩:=zz;subst ex;obtain rfl:ov=Hb a:=rx;exact qQ I2 ea c n l ry fun s3 I3=>⟨σ,_,I3,q2⟩
end
section
variable {X:Cx}{pins:List (Addr×Obj)}{σ:St}{H:Hp}{s:Shared}{A:Around}{E:Value->Shared->Prop}{Q:Value->Shared->Prop}{c:Value}{b:Bool}
inductive TyOf(K:GH)(H:Hp):V->Value->Prop where
 |non:TyOf K H .non (.type "NoneType")
 |bl (x:Bool):TyOf K H (.bl x) (.type "bool")
 |int (i:Int):TyOf K H (.int i) (.type "int")
 |str (x:Str):TyOf K H (.str x) (.type "str")
 |flt (x:UInt64):TyOf K H (.flt x) (.type "float")
 |lst {a:Addr} {xs:List V} (e:H a=some (.lst xs)):TyOf K H (.ref a) (.type "list")
 |frz {a:Addr} {o:Obj} {xs:List V} (e:H a=some (.frz o (.lst xs))):TyOf K H (.ref a) (.type "list")
 |tup {a:Addr} {xs:List V} (e:H a=some (.tup xs)):TyOf K H (.ref a) (.type "tuple")
 |dK {a:Addr} {kvs:List (aP×V)} (e:H a=some (.dK kvs)):TyOf K H (.ref a) (.type "dict")
 |dT {a:Addr} {kvs:List (List aP×V)} (e:H a=some (.dT kvs)):TyOf K H (.ref a) (.type "dict")
 |ins {a C dx:Addr} {fs:List (Str×V)} (e:H a=some (.ins C dx fs)) (cl:Cls K C) (ha:HS K (.ref C) "__class__"=some (some (.builtin "object.__class__")))
   (hn:W.specialIn K (.builtin "object.__class__") "__get__"=some (some (.builtin "getset_descriptor.__get__"))) (htk:W.takesIn K (.builtin "object.__class__")=some true)
   (hm:W.mroIn K C (.type "object")=some true):TyOf K H (.ref a) (.ref C)
theorem uz{x:V}{u t:Value}(I:Inv X pins σ H s)(rx:RelV x u)(ty:TyOf X.K H x t)(e:W.kitOne X.K t c=some b)(h:∀tk,Q (.bool b) { s with toks:=tk }):
  wpAny (model X.prog X.w) A (call (.builtin "isinstance") [u,c]) Q E s:=by
 cases ty with
 |non=>cases (show u=Ic from rx);exact IV W.kitx_none I.kIn Iq e (fun z=>nomatch z) h
 |bl y=>cases (show u=IM y from rx);exact IV W.kitx_bool I.kIn Iq e (fun z=>nomatch z) h
 |int i=>obtain ⟨t,q⟩:=(show ∃t,u=Kp i t from rx);cases q;exact IV W.kitx_int I.kIn Iq e (fun z=>nomatch z) h
 |str y=>obtain ⟨t,q⟩:=(show ∃t,u=Ko y t from rx);cases q;exact IV W.kitx_str I.kIn Iq e (fun z=>nomatch z) h
 |flt y=>obtain ⟨t,q⟩:=(show ∃t,u=LM y t from rx);cases q;exact IV W.kitx_float I.kIn Iq e (fun z=>nomatch z) h
 |@lst a xs ea=>
  cases (show u=Hb a from rx);obtain ⟨_,_,n,_,h1⟩:=(show ObjOk X.prog X.w H s.heap a (.lst xs) from I.hok a _ ea);exact IV W.kitx_list I.kIn ⟨_,h1,rfl⟩ e (fun z=>nomatch z) h
 |@frz a ob xs ea=>
  cases (show u=Hb a from rx);obtain ⟨_,_,_,n,_,h1⟩:=(show ObjOk X.prog X.w H s.heap a (.frz ob (.lst xs)) from I.hok a _ ea);exact IV W.kitx_list I.kIn ⟨_,h1,rfl⟩ e (fun z=>nomatch z) h
 |@tup a xs ea=>
  cases (show u=Hb a from rx);obtain ⟨_,_,_,p⟩:=(show ObjOk X.prog X.w H s.heap a (.tup xs) from I.hok a _ ea);obtain ⟨o,h1,⟨h2,_⟩,_⟩:=p;exact IV W.kitx_tuple I.kIn ⟨o,h1,h2⟩ e (fun z=>nomatch z) h
 |@dK a kvs ea=>
  cases (show u=Hb a from rx);obtain ⟨_,_,vs,_,p⟩:=(show ObjOk X.prog X.w H s.heap a (.dK kvs) from I.hok a _ ea);obtain ⟨o,es,ep,h1,h2,_⟩:=p;exact IV W.kitx_dict I.kIn ⟨o,h1,h2.1⟩ e (fun z=>nomatch z) h
 |@dT a kvs ea=>
  cases (show u=Hb a from rx);obtain ⟨_,_,xs,_,o,es,ep,h1,h2,_⟩:=(show ObjOk X.prog X.w H s.heap a (.dT kvs) from I.hok a _ ea);exact IV W.kitx_dict I.kIn ⟨o,h1,h2.1⟩ e (fun z=>nomatch z) h
 |@ins a C dx fs ea cl ha hn htk hm=>
  cases (show u=Hb a from rx);obtain ⟨mA,O,_⟩:=iS I.hok ea;obtain ⟨od,J,_⟩:=O.look;exact IV (W.kitx_own (cl.get _) cl.hd ha hn htk hm) I.kIn J e (fun z=>nomatch z) h
end
end L2
namespace L2
open PySem PySem.Spec PyProof.Rows
structure Room(k:Nat)(A:Around):Prop where
 hd:A.handled=none
 dp:A.depth+3*k+5<recursionLimit
 un:A.units+16*k+200<cLine
 gd:A.guards=some []
theorem Room.mono{j k:Nat}{A:Around}(r:Room k A)(h:j<=k):Room j A:=⟨r.hd,by have:=r.dp;lia,by have:=r.un;lia,r.gd⟩
theorem Room.deeper{k:Nat}{A:Around}(r:Room (k+1) A)(env:Env):Room k (A.deeper env):=
 ⟨r.hd,by have:=r.dp;show A.depth+1+3*k+5<_;lia,by have:=r.un;show A.units+3+16*k+200<_;lia,r.gd⟩
theorem qa{A:Around}{C:Addr}{us:List Value}{kw:List (Str×Value)}:(A.under (.builtin "type.__call__" ⟨.ref C::us,kw⟩)).depth=A.depth+1:=by
 first|rfl|simp [Kh,Code.weight,Code.isCreation,Code.isGuard,Code.isCaller,Code.frames,LG,guardIds]
theorem qk{A:Around}{C:Addr}{us:List Value}{kw:List (Str×Value)}:(A.under (.builtin "type.__call__" ⟨.ref C::us,kw⟩)).units=A.units+1:=by
 first|rfl|simp [Kh,Code.cUnits,Code.frames,LG]
theorem nI{A:Around}{C:Addr}{us:List Value}{kw:List (Str×Value)}:(A.under (.builtin "type.__call__" ⟨.ref C::us,kw⟩)).guards=A.guards:=by
 first|rfl|simp [Kh,Code.guards,pushGuards,Code.isGuard,guardIds]
theorem Room.make{k:Nat}{A:Around}(r:Room (k+1) A)(C:Addr)(us:List Value)(kw:List (Str×Value)):Room k (A.under (.builtin "type.__call__" ⟨.ref C::us,kw⟩)):=
 ⟨r.hd,by have:=r.dp;rw [qa];lia,by have:=r.un;rw [qk];lia,by rw [nI];exact r.gd⟩
theorem Room.depth{k:Nat}{A:Around}(r:Room k A):A.depth<recursionLimit:=by have:=r.dp;lia
theorem Room.units{k:Nat}{A:Around}(r:Room k A):A.units+64<cLine:=by have:=r.un;lia
def tNil:TA:=fun _ H Q=>Q [] H
def G1(ta:TE)(tr:TA):TA:=fun σ H Q=>ta σ H fun x H1=>tr σ H1 fun xs H2=>Q (x::xs) H2
section
variable {X:Cx}{e:Expr}{es:List Expr}{te:TE}{t:TA}{pos:Pos}
theorem yc:PA X [] tNil:=fun _ _ _ _ H Q I h=>Jc ⟨[],H,I,.nil,h⟩
theorem sE(ha:PE X e te)(hr:PA X es t)(hs:starEach (e::es) X.env=(false,eval e X.env)::starEach es X.env:=by rfl):PA X (e::es) (G1 te t):=by
 intro pos pins s σ H Q I h;rw [hs];show wpAny _ _ (spliced ((false,eval e X.env)::backTo pos (starEach es X.env))) _ _ s;refine ID (thn (ha pins s σ H _ I h) fun u s1 ⟨x,H1,I1,r1,q1⟩=>?_);exact thn (hr pos pins s1 σ H1 _ I1 q1) fun us s2 ⟨xs,H2,I2,r2,q2⟩=>⟨x::xs,H2,I2,.cons r1 r2,q2⟩
def tTup(t:TA):TE:=fun σ H Q=>t σ H fun xs H1=>xs.length<=sizeLine/\∀p,H1 p=none->Q (.ref p) (upd H1 p (.tup xs))
def tLst(t:TA):TE:=fun σ H Q=>t σ H fun xs H1=>xs.length<=sizeLine/\∀p,H1 p=none->Q (.ref p) (upd H1 p (.lst xs))
theorem B_{x1}(h:PA X es t):PE X (.Tuple es x1 pos) (tTup t):=by
 intro pins s σ H Q I hq;refine wpAny_Tuple_spliced (thn (h pos pins s σ H _ I hq) fun us s1 ⟨xs,H1,I1,r,z,q⟩=>⟨by rw [<- r.length];exact z,?_⟩)
 have hf:H1 s1.heap.objs.size=none:=I1.hok.fresh (GO _);refine ⟨.ref s1.heap.objs.size,upd H1 s1.heap.objs.size (.tup xs),I1.laid (t':=s1.toks) (fun b u e=>GC _ e) (GO _) ?_,rfl,q _ hf⟩;exact ⟨z,us,r,⟨_,GN _ rfl,⟨rfl,_,rfl⟩,rfl⟩⟩
theorem CK(h:PA X es t):PE X (.List es pos) (tLst t):=by
 intro pins s σ H Q I hq;refine wpAny_List_spliced (thn (h pos pins s σ H _ I hq) fun us s1 ⟨xs,H1,I1,r,z,q⟩=>⟨by rw [<- r.length];exact z,?_⟩)
 have hf:H1 s1.heap.objs.size=none:=I1.hok.fresh (GO _);refine ⟨.ref s1.heap.objs.size,upd H1 s1.heap.objs.size (.lst xs),I1.laid (t':=s1.toks) (fun b u e=>GC _ e) (GO _) ?_,rfl,q _ hf⟩;exact ⟨z,us,0,r,GN _ rfl⟩
end
abbrev Sp:=List V->Hp->VK->XK->Prop
abbrev pf:=List Env->Hp->Shared->XK->Value->Shared->Prop
structure Env0(P:Program)(w:World)(K:GH)(mg:Str->Option Value)(base:Heap)(A:Around)(outer:List Env)(s:Shared)(H:Hp):Prop where
 frames:A.frames=some outer
 mod:Mod K mg base
 bs:∀b o,base.get? b=some o->s.heap.get? b=some o/\H b=none
 bsz:base.objs.size<=s.heap.objs.size
 funs:s.heap.FunFrames base outer
 frf:∀b∈fL outer,H b=none
 hok:HOk P w H s.heap
 bare:AllBare s.gens
def CE(outer:List Env)(P:Program)(w:World)(H:Hp)(s:Shared)(Q:VK)(u:Value)(s':Shared):Prop:=
 ∃v H',s'.os=s.os/\AllBare s'.gens/\Un (fL outer) [] H H' s.heap s'.heap/\HOk P w H' s'.heap/\RelV v u/\Q v H'
def CR(CX:pf)(outer:List Env)(P:Program)(w:World)(H:Hp)(s:Shared)(Q:VK)(E:XK)(r:Result)(s':Shared):Prop:=
 match r with
 |.ok (.ret u)=>CE outer P w H s Q u s'
 |.ok _=>False
 |.error e=>CX outer H s E e s'
structure FnOk(P:Program)(w:World)(K:GH)(mg:Str->Option Value)(base:Heap)(CX:pf)(k:Nat)(f:Addr)(fd:FuncData)(ps:List Str)(sp:Sp):Prop where
 len:∀vs H Q E,sp vs H Q E->vs.length=ps.length
 run:∀(A:Around) (outer:List Env) (s:Shared) (H:Hp) (args:Args) (us:List Value) (vs:List V) (Q:VK) (E:XK),Room k A->Env0 P w K mg base A outer s H->BindsTo s fd args (ps.zip us)->Vals vs us->sp vs H Q E->
  codeAny (model P w) A (.call (.ref f) args) (CR CX outer P w H s Q E) s
theorem FnOk.imp{P:Program}{w:World}{K:GH}{mg:Str->Option Value}{base:Heap}{CX:pf}{k:Nat}{f:Addr}{fd:FuncData}{ps:List Str}{sp sp':Sp}(F:FnOk P w K mg base CX k f fd ps sp)
  (h:∀vs H Q E,sp' vs H Q E->sp vs H Q E):FnOk P w K mg base CX k f fd ps sp':=
 ⟨fun vs H Q E q=>F.len vs H Q E (h _ _ _ _ q),fun A outer s H args us vs Q E hr he hb hv hs=>F.run A outer s H args us vs Q E hr he hb hv (h _ _ _ _ hs)⟩
theorem Env0.make{P:Program}{w:World}{K:GH}{mg:Str->Option Value}{base:Heap}{A:Around}{outer:List Env}{s:Shared}{H:Hp}(e:Env0 P w K mg base A outer s H)(C:Addr)(us:List Value)(kw:List (Str×Value)):
  Env0 P w K mg base (A.under (.builtin "type.__call__" ⟨.ref C::us,kw⟩)) outer s H:=⟨by first|exact e.frames|(simpa [Kh,Code.envs,LG,pushEnvs] using e.frames),e.mod,e.bs,e.bsz,e.funs,e.frf,e.hok,e.bare⟩
section
variable {X:Cx}{pins:List (Addr×Obj)}{σ:St}{H:Hp}{s s':Shared}
theorem Inv.env0(I:Inv X pins σ H s):Env0 X.prog X.w X.K X.mg X.base X.A X.stack s H:=
 ⟨I.ok.frames,I.ok.mod,I.bs,Hd I.ok.bsz I.sz,I.stack,I.stkFree,I.hok,I.bare⟩
theorem Inv.after{Q:VK}{u:Value}(I:Inv X pins σ H s)(h:CE X.stack X.prog X.w H s Q u s'):EP X pins σ Q u s':=by
 obtain ⟨v,H',os,bare,un,hok,r,q⟩:=h;obtain ⟨hh,g,d,t,os'⟩:=s';obtain rfl:os'=s.os:=os;exact ⟨v,H',I.call (h':=hh) (g':=g) (d':=d) (t':=t) (ch:=[]) un hok bare (fun b z=>absurd z (by simp)),r,q⟩
end
def Ge(sp:Sp)(dvs:List V)(E:XK)(t:TA):TE:=fun σ H Q=>t σ H fun vs H1=>sp (vs++dvs) H1 Q E
def Gw(C:Addr)(m:Str)(sp:Sp)(dvs:List V)(E:XK)(ta:TE)(t:TA):TE:=fun σ H Q=>ta σ H fun x H1=>∃a dx fs,x=.ref a/\H1 a=some (.ins C dx fs)/\fs.lookup m=none/\
 t σ H1 fun vs H2=>sp (x::(vs++dvs)) H2 Q E
def FT(C:Addr)(sp:Sp)(dvs:List V)(E:XK)(t:TA):TE:=fun σ H Q=>t σ H fun vs H1=>∀x dx,H1 x=none->H1 dx=none->dx≠x->
 sp (.ref x::(vs++dvs)) (upd (upd H1 dx (.own x)) x (.ins C dx [])) (fun v H2=>v=.non/\Q (.ref x) H2) E
def Binds(K:GH)(fd:FuncData)(ps:List Str)(ds:List Value):Prop:=
 ∀(s:Shared) (us:List Value),K.In s.heap->(us++ds).length=ps.length->BindsTo s fd ⟨us,[]⟩ (ps.zip (us++ds))
theorem Binds.all{K:GH}{fd:FuncData}{ps:List Str}(h:∀us:List Value,us.length=ps.length->bindArgs fd ⟨us,[]⟩=pure (ps.zip us)):Binds K fd ps []:=fun s us _ hl=>by
 rw [HD] at hl ⊢;exact .of_eq (h us hl)
def dy(CX:pf)(X:Cx)(E:XK):Prop:=∀(pins:List (Addr×Obj)) (σ:St) (H:Hp) (s:Shared) (e:Value) (s':Shared),Inv X pins σ H s->CX X.stack H s E e s'->X.xe e s'
section
variable {X:Cx}{CX:pf}{k:Nat}{f C:Addr}{fd:FuncData}{ps:List Str}{sp:Sp}{dvs:List V}{ds:List Value}{E:XK}{x m:Str}{p pos apos:Pos}{e o:Expr}{es:List Expr}{ta:TE}{t:TA}
theorem xE{pins:List (Addr×Obj)}{σ:St}{H:Hp}{s:Shared}{Q:VK}{us:List Value}{vs:List V}(F:FnOk X.prog X.w X.K X.mg X.base CX k f fd ps sp)(hr:Room k X.A)(hb:Binds X.K fd ps ds)(hd:Vals dvs ds)(hx:dy CX X E)
  (I:Inv X pins σ H s) (r:Vals vs us) (h:sp (vs++dvs) H Q E):wpAny (model X.prog X.w) X.A (call (.ref f) us) (EP X pins σ Q) X.xe s:=by
 have r2:Vals (vs++dvs) (us++ds):=r.append hd;have hl:(us++ds).length=ps.length:=by rw [<- r2.length];exact F.len _ _ _ _ h
 refine wpAny_call (codeAny_mono (F.run X.A X.stack s H ⟨us,[]⟩ (us++ds) (vs++dvs) Q E hr I.env0 (hb s us I.kIn hl) r2 h) fun r s' hq=>?_);cases r with
 |error e=>exact hx pins σ H s e s' I hq
 |ok fl=>
  cases fl with
  |ret u=>exact I.after hq
  |next=>exact HM hq
  |brk=>exact HM hq
  |cont=>exact HM hq
theorem yL(F:FnOk X.prog X.w X.K X.mg X.base CX k f fd ps sp)(hr:Room k X.A)(hg:Gl X x)(hm:X.mg x=some (.ref f))(hk:GV X.K (.ref f)=true)(hb:Binds X.K fd ps ds)(hd:Vals dvs ds)(hx:dy CX X E)
  (ha:PA X (e::es) t) (hdb:(x==("__debug__":Str))=false:=by decide) (he:starEach (e::es) X.env=(false,eval e X.env)::starEach es X.env:=by rfl) (hpl:(backTo pos (starEach es X.env)).any (·.1)=false:=by rfl):
  PE X (.Call (.Name x p) (e::es) [] pos) (Ge sp dvs E t):=by
 intro pins s σ H Q I h;refine wpAny_Call_Name_kw (ld_glob I hg hm ?_ hdb);refine KC (h₀:=X.base) I.ok.mod.kin hk (thn (ha pos pins s σ H _ I h) fun us s1 ⟨vs,H1,I1,r,q⟩=>⟨I1.kIn,?_⟩) he hpl;exact xE F hr hb hd hx I1 r q
theorem zS{pl:Sem Bool}(he:PE X o ta)(c:Cls X.K C)(hm:Meth X.K C m f)(F:FnOk X.prog X.w X.K X.mg X.base CX k f fd ps sp)(hr:Room k X.A)(hb:Binds X.K fd ps ds)(hd:Vals dvs ds)(hx:dy CX X E)(ha:PA X (e::es) t)
  (hst:starEach (e::es) X.env=(false,eval e X.env)::starEach es X.env:=by rfl) (hpl:(backTo pos (starEach es X.env)).any (·.1)=false:=by rfl)
  (ht:eval (.Call (.Attribute o m apos) (e::es) [] pos) X.env=(do
   let ov <- eval o X.env
   standAt apos.atName
   let (f,first) <- holding [ov] (getMethod ov m pl)
   callWith pos f first (backTo pos (starEach (e::es) X.env)) (backToKw pos (keywordEach [] X.env))):=by rfl):
  PE X (.Call (.Attribute o m apos) (e::es) [] pos) (Gw C m sp dvs E ta t):=by
 intro pins s σ H Q I h;refine W.methodCall_KW (pl:=pl) (thn (he pins s σ H _ I h) fun u s1 zz=>?_) ht;obtain ⟨x,H1,I1,rx,a,dx,fs,ex,ea,l,q⟩:=zz;subst ex;obtain rfl:u=Hb a:=rx;refine qI I1 ea c hm l ?_;refine KC (first:=[.ref a]) (h₀:=X.base) I.ok.mod.kin hm.kp (thn (ha pos pins s1 σ H1 _ I1 q) fun us s2 ⟨vs,H2,I2,r,q2⟩=>⟨I2.kIn,?_⟩) hst hpl
 exact xE (us:=.ref a::us) (vs:=.ref a::vs) F hr hb hd hx I2 (.cons rfl r) q2
structure Mk(K:GH)(C f:Addr):Prop where
 makes:LW K C=true
 init:HS K (.ref C) "__init__"=some (some (.ref f))
 fn:W.isFn K (.ref f)=true
 kp:GV K (.ref C)=true
theorem ym{pins:List (Addr×Obj)}{σ:St}{H:Hp}{s:Shared}{Q:VK}{us:List Value}{vs:List V}(M:Mk X.K C f)(F:FnOk X.prog X.w X.K X.mg X.base CX k f fd ps sp)(hr:Room (k+1) X.A)(hb:Binds X.K fd ps ds)(hd:Vals dvs ds)
  (hx:dy CX X E) (I:Inv X pins σ H s) (r:Vals vs us)
  (h:∀x dx,H x=none->H dx=none->dx≠x->sp (.ref x::(vs++dvs)) (upd (upd H dx (.own x)) x (.ins C dx [])) (fun v H2=>v=.non/\Q (.ref x) H2) E):
  wpAny (model X.prog X.w) X.A (call (.ref C) us) (EP X pins σ Q) X.xe s:=by
 have hq:=h (s.heap.objs.size+1) s.heap.objs.size (I.hok.fresh (J5 _)) (I.hok.fresh (GO _)) (GW (KG _));have I2:=yn (C:=C) I;have r2:Vals (V.ref (s.heap.objs.size+1)::(vs++dvs)) (Hb (s.heap.objs.size+1)::(us++ds)):=.cons rfl (r.append hd);have hl:(Hb (s.heap.objs.size+1)::us++ds).length=ps.length:=by
  have e:=r2.length;rw [F.len _ _ _ _ hq] at e;exact e.symm
 refine wpAny_call (xp (f:=f) I.kIn M.makes M.init (beq_iff_eq.mp M.fn) (codeAny_mono (F.run _ X.stack _ _ ⟨Hb (s.heap.objs.size+1)::us,[]⟩ (Hb (s.heap.objs.size+1)::(us++ds)) _ _ E (hr.make C us [])
  (I2.env0.make C us []) (hb _ (Hb (s.heap.objs.size+1)::us) I2.kIn hl) r2 hq) fun r s' hq'=>?_))
 cases r with
 |error e=>exact hx pins σ _ _ e s' I2 hq'
 |ok fl=>
  cases fl with
  |ret u=>
   obtain ⟨v,H',I3,rv,ev,q3⟩:=I2.after hq';subst ev;exact ⟨rv,⟨V.ref (s.heap.objs.size+1),H',I3,rfl,q3⟩⟩
  |next=>exact HM hq'
  |brk=>exact HM hq'
  |cont=>exact HM hq'
theorem An(M:Mk X.K C f)(F:FnOk X.prog X.w X.K X.mg X.base CX k f fd ps sp)(hr:Room (k+1) X.A)(hg:Gl X x)(hm:X.mg x=some (.ref C))(hb:Binds X.K fd ps ds)(hd:Vals dvs ds)(hx:dy CX X E)
  (ha:PA X (e::es) t) (hdb:(x==("__debug__":Str))=false:=by decide) (he:starEach (e::es) X.env=(false,eval e X.env)::starEach es X.env:=by rfl) (hpl:(backTo pos (starEach es X.env)).any (·.1)=false:=by rfl):
  PE X (.Call (.Name x p) (e::es) [] pos) (FT C sp dvs E t):=by
 intro pins s σ H Q I h;refine wpAny_Call_Name_kw (ld_glob I hg hm ?_ hdb);refine KC (h₀:=X.base) I.ok.mod.kin M.kp (thn (ha pos pins s σ H _ I h) fun us s1 ⟨vs,H1,I1,r,q⟩=>⟨I1.kIn,?_⟩) he hpl;exact ym M F hr hb hd hx I1 r q
end
section
variable {X:Cx}{CX:pf}{k:Nat}{f C:Addr}{fd:FuncData}{ps ks:List Str}{sp:Sp}{E:XK}{x m:Str}{p pos apos kpos:Pos}{e o:Expr}{es:List Expr}{kws:List Keyword}{te ta:TE}{t tk:TA}{nm:Option Str}
variable {g:List Value->List Value->List Value}{gV:List V->List V->List V}
end
structure FnScope(N P:List Str)(sc:Scope):Prop where
 kind:sc.kind=.function
 co:sc.isCoroutine=false
 gen:sc.isGenerator=false
 nd:N.Nodup
 pre:N.take P.length=P
 par:∀x∈P,sc.names.lookup x=some .local\/sc.names.lookup x=some .cell
 nofree:∀y∈sc.names,y.2≠.free
theorem lh{kindOf:Str->Option NameKind}{x:Str}:∀{binds:List (Str×Value)} {m:Str->Option Value},(∀v,(x,v)∉binds)->bindL kindOf binds m x=m x
 |[],_,_=>rfl
 |(n,v)::r,m,h=>by
  unfold bindL;rw [lh fun w hw=>h w (Hf _ hw)]
  split
  ·have:x≠n:=by rintro rfl;exact h v Js
   simp [this]
  ·rfl
theorem lg{kindOf:Str->Option NameKind}{x:Str}:∀{binds:List (Str×Value)} {m:Str->Option Value},(∀v,(x,v)∉binds)->bindC kindOf binds m x=m x
 |[],_,_=>rfl
 |(n,v)::r,m,h=>by
  unfold bindC;rw [lg fun w hw=>h w (Hf _ hw)]
  split
  ·rfl
  ·have:x≠n:=by rintro rfl;exact h v Js
   simp [this]
theorem kJ{kindOf:Str->Option NameKind}{x:Str}{v:Value}:∀{P:List Str} {vs:List Value} {i:Nat} {m:Str->Option Value},P.Nodup->P[i]?=some x->vs[i]?=some v->kindOf x=some .local->
  bindL kindOf (P.zip vs) m x=some v
 |[],_,_,_,_,h,_,_=>by simp at h
 |_::_,[],_,_,_,_,h,_=>by simp at h
 |p::P,w::vs,0,m,nd,h1,h2,hk=>by
  simp at h1 h2;subst h1;subst h2;show bindL kindOf ((p,w)::P.zip vs) m p=_;unfold bindL;rw [lh fun v hv=>(IH.mp nd).1 (JV hv).1,if_pos hk];simp
 |p::P,w::vs,i+1,m,nd,h1,h2,hk=>by
  show bindL kindOf ((p,w)::P.zip vs) m x=_;unfold bindL;exact kJ (i:=i) (IH.mp nd).2 (by simpa using h1) (by simpa using h2) hk
theorem k_{kindOf:Str->Option NameKind}{x:Str}{v:Value}:∀{P:List Str} {vs:List Value} {i:Nat} {m:Str->Option Value},P.Nodup->P[i]?=some x->vs[i]?=some v->kindOf x≠some .local->
  bindC kindOf (P.zip vs) m x=some v
 |[],_,_,_,_,h,_,_=>by simp at h
 |_::_,[],_,_,_,_,h,_=>by simp at h
 |p::P,w::vs,0,m,nd,h1,h2,hk=>by
  simp at h1 h2;subst h1;subst h2;show bindC kindOf ((p,w)::P.zip vs) m p=_;unfold bindC;rw [lg fun v hv=>(IH.mp nd).1 (JV hv).1,if_neg hk];simp
 |p::P,w::vs,i+1,m,nd,h1,h2,hk=>by
  show bindC kindOf ((p,w)::P.zip vs) m x=_;unfold bindC;exact k_ (i:=i) (IH.mp nd).2 (by simpa using h1) (by simpa using h2) hk
def start(N:List Str)(vs:List V):St:=vs.map some++GK (N.length-vs.length) none
def eI(CX:pf)(P:Program)(w:World)(K:GH)(mg:Str->Option Value)(base:Heap)(N:List Str)(qual:Str)(scope:Scope)(f:Addr)(cd:Value)(A:Around)(outer:List Env)(s:Shared)(H:Hp)(E:XK):Cx where
 prog:=P
 w:=w
 K:=K
 mg:=mg
 base:=base
 A:=A.deeper (envOfC qual scope s.heap.objs.size f cd)
 N:=N
 s₀:=s
 H₀:=H
 env:=envOfC qual scope s.heap.objs.size f cd
 outer:=outer
 stack:=envOfC qual scope s.heap.objs.size f cd::outer
 ex:=[]
 calm:=true
 fn:=fun _=>true
 pn:=[]
 xe:=fun e s'=>wpAny (model P w) (A.deeper (envOfC qual scope s.heap.objs.size f cd)) (leaving (envOfC qual scope s.heap.objs.size f cd) e) (fun _ s''=>CX outer H s E e s'') (fun e' s''=>CX outer H s E e' s'') s'
theorem ow{sc:Scope}{n:Nat}{x:Str}(h:sc.names.lookup x=some .cell):∃c,(cellsFrom n sc.names []).lookup x=some c:=by
 have q:=W.cellsFrom_some sc.names n [] (.inl h);exact Option.isSome_iff_exists.mp q
theorem u7{CX:pf}{P:Program}{w:World}{K:GH}{mg:Str->Option Value}{base:Heap}{N ps:List Str}{qual:Str}{scope:Scope}{f:Addr}{cd:Value}{A:Around}{outer:List Env}{s s1:Shared}{H:Hp}{E:XK}{us:List Value}{vs:List V}
  (S:FnScope N ps scope) (hd:A.handled=none) (e0:Env0 P w K mg base A outer s H) (hl:vs.length=ps.length) (r:Vals vs us)
  (x:InCallC s s.heap.objs.size (bindL (envOfC qual scope s.heap.objs.size f cd).kindOf (ps.zip us) fun _=>none) (cellsFrom (s.heap.objs.size+1) scope.names []) (bindC (envOfC qual scope s.heap.objs.size f cd).kindOf (ps.zip us) fun _=>none) s1):
  Inv (eI CX P w K mg base N qual scope f cd A outer s H E) [] (start N vs) H s1:=by
 have hpl:ps.length<=N.length:=by have:=congrArg Iu S.pre;rw [HN] at this;lia
 obtain ⟨h1,tk,rfl,hk⟩:=x.done;have noA:∀b:Addr,b∉(eI CX P w K mg base N qual scope f cd A outer s H E).ex:=fun b z=>absurd (show b∈([]:List Addr) from z) (by simp)
 refine ⟨⟨e0.mod,S.kind,rfl,rfl,GO _,fun y z c h1 h2=>?_,fun y hy=>?_,fun y c _ h=>?_,fun _=>hd,Around.frames_deeper e0.frames,.inr ⟨rfl,rfl⟩,fun b z=>absurd z (noA b),e0.bs,e0.bsz,fun b _ _=>noA b,fun b z=>absurd z (noA b),e0.funs,e0.frf⟩,
  rfl,e0.bare,Un.kept hk,⟨_,x.toInCall.ns,fun i y v h1 h2 h3=>?_⟩,fun y c h=>⟨_,x.cell y c h⟩,e0.hok.fresh (GO _),fun y c h=>?_,fun p hp=>absurd (show p∈([]:List (Addr×Obj)) from hp) (by simp),e0.hok.kept hk,?_⟩
 ·exact name_of_addr x.apart (Ij h1) (Ij h2)
 ·have hy:scope.names.lookup y=some .cell\/scope.names.lookup y=some .free:=hy
  rcases hy with hy|hy
  ·exact ow hy
  ·exact absurd rfl (S.nofree _ (Ij hy))
 ·exact LR (x.above y c (Ij h))
 ·have hi:i<vs.length:=by
   unfold start at h2
   by_cases hi:i<vs.length
   ·exact hi
   ·rw [HR (by simpa using hi)] at h2
    rw [Lx] at h2
    split at h2<;>cases h2
  have ha:vs[i]?=some v:=by
   unfold start at h2;rw [HV (by simpa using hi),GU] at h2
   cases e:vs[i]? with
   |none=>rw [e] at h2;cases h2
   |some a=>rw [e] at h2;cases h2;rfl
  obtain ⟨u,hu,rv⟩:=r.get ha;have hp:ps[i]?=some y:=by
   rw [<- S.pre,List.getElem?_take_of_lt (by lia)];exact h1
  have ndP:ps.Nodup:=by rw [<- S.pre];exact S.nd.sublist (Km _ _)
  refine ⟨u,rv,?_⟩;rcases S.par y (J3 hp) with k|k
  ·exact .inl ⟨k,kJ ndP hp hu k⟩
  ·obtain ⟨c,e⟩:=ow (n:=s.heap.objs.size+1) k
   refine .inr ⟨.inl k,c,e,?_⟩;have q:=x.cell y c e;rw [k_ ndP hp hu (by show scope.names.lookup y≠_;rw [k];decide)] at q
   exact q
 ·exact e0.hok.fresh (LR (x.above y c (Ij h)))
 ·unfold start
  show _=N.length;rw [GP,GF,List.length_replicate];lia
theorem Gx{CX:pf}{P:Program}{w:World}{K:GH}{mg:Str->Option Value}{base:Heap}{k:Nat}{f:Addr}{name qual:Str}{params:Arguments}{body:List Stmt}{scope:Scope}{dV kV doc pm cdv ct oc:Value}{an od:Option Addr}
  {osl:Array (Option Value)} {N ps:List Str} {sp:Sp} (lk:K.lookup f=some ⟨oc,od,.func (KL name qual params body scope dV kV doc pm an cdv ct),osl⟩) (hcd:W.codeIn K cdv qual=true) (S:FnScope N ps scope)
  (len:∀vs H Q E,sp vs H Q E->vs.length=ps.length)
  (hbody:∀(A:Around) (outer:List Env) (s:Shared) (H:Hp) (vs:List V) (Q:VK) (E:XK),Room k (A.deeper (envOfC qual scope s.heap.objs.size f cdv))->sp vs H Q E->
   ∃t,rm (eI CX P w K mg base N qual scope f cdv A outer s H E) body t/\t { nx:=fun _ H'=>Q .non H',rt:=Q } (start N vs) H):
  FnOk P w K mg base CX (k+1) f (KL name qual params body scope dV kV doc pm an cdv ct) ps sp:=by
 refine ⟨len,fun A outer s H args us vs Q E hr e0 hb r hsp=>?_⟩;have hl:=len _ _ _ _ hsp;have KX:K.In s.heap:=e0.mod.kin.keeps fun b o e=>(e0.bs b o e).1;have lim:s.heap.NoLimit:=e0.mod.nolimit.keeps fun b o e=>(e0.bs b o e).1;have hkind:∀y∈ps.zip us,scope.names.lookup y.1=some .local\/(scope.names.lookup y.1=some .cell/\((cellsFrom (s.heap.objs.size+1) scope.names []).lookup y.1).isSome=true):=fun ⟨n,v⟩ hy=>by
  rcases S.par n (JV hy).1 with q|q
  ·exact .inl q
  ·exact .inr ⟨q,W.cellsFrom_some _ _ _ (.inl q)⟩
 refine codeAny_call_function hr.depth (KX _ _ lk) rfl S.co S.gen rfl (W.codeRec_of KX hcd) (hb _ _ _ _ ?_);refine wpAny_newFunctionEnv_cells S.kind hkind fun env he s1 x=>?_;subst he;refine ⟨lim.keeps x.toInCall.keep,codeAny_func ?_⟩;obtain ⟨t,ht,hq⟩:=hbody A outer s H vs Q E (hr.deeper _) hsp;have I:Inv (eI CX P w K mg base N qual scope f cdv A outer s H E) [] (start N vs) H s1:=u7 S hr.hd e0 hl r x;refine wpAny_mono (ht [] s1 (start N vs) H _ I hq) (fun fl s' hs=>?_) fun e s' hs=>hs;have fin:∀{σ':St} {H':Hp} {v:V} {u:Value},Inv (eI CX P w K mg base N qual scope f cdv A outer s H E) [] σ' H' s'->RelV v u->Q v H'->CE outer P w H s Q u s':=
  fun {σ' H' v u} J rv q=>⟨v,H',J.os,J.bare,J.base,J.hok,rv,q⟩
 cases fl with
 |ret u=>
  obtain ⟨v,σ',H',J,rv,q⟩:=hs;exact fin J rv q
 |next=>
  obtain ⟨σ',H',J,q⟩:=hs;exact fin (v:=V.non) (u:=Ic) J rfl q
 |brk=>
  obtain ⟨_,_,_,q⟩:=hs;exact HM q
 |cont=>
  obtain ⟨_,_,_,q⟩:=hs;exact HM q
end L2
namespace L2
open PySem PySem.Spec PyProof.Rows
section
variable {X:Cx}{x:Str}{p pos:Pos}{e:Expr}{es:List Expr}{t:TA}{id T:String}{r:List V->Hp->VK->Prop}
def tCB(r:List V->Hp->VK->Prop)(t:TA):TE:=fun σ H Q=>t σ H fun vs H1=>r vs H1 Q
theorem vh(hc:cA X (.builtin id) r)(hg:Gl X x)(hm:X.mg x=none)(hv:bootBuiltins x=some (.builtin id))(ha:PA X (e::es) t)(hn:x≠"__name__":=by decide)(hdb:(x==("__debug__":Str))=false:=by decide)
  (he:starEach (e::es) X.env=(false,eval e X.env)::starEach es X.env:=by rfl) (hpl:(backTo pos (starEach es X.env)).any (·.1)=false:=by rfl):PE X (.Call (.Name x p) (e::es) [] pos) (tCB r t):=by
 intro pins s σ H Q I h;refine wpAny_Call_Name_kw (ld_blt I hg hm hv ?_ hn hdb);exact PyProof.Rows.callWith_builtin1 (thn (ha pos pins s σ H _ I h) fun us s1 ⟨vs,H1,I1,r1,q1⟩=>hc pins s1 σ H1 vs us Q I1 r1 q1) he hpl
theorem uS(hc:cA X (.type T) r)(hg:Gl X x)(hm:X.mg x=none)(hv:bootBuiltins x=some (.type T))(ha:PA X (e::es) t)(hn:x≠"__name__":=by decide)(hdb:(x==("__debug__":Str))=false:=by decide)
  (he:starEach (e::es) X.env=(false,eval e X.env)::starEach es X.env:=by rfl) (hpl:(backTo pos (starEach es X.env)).any (·.1)=false:=by rfl):PE X (.Call (.Name x p) (e::es) [] pos) (tCB r t):=by
 intro pins s σ H Q I h;refine wpAny_Call_Name_kw (ld_blt I hg hm hv ?_ hn hdb);exact Ht (thn (ha pos pins s σ H _ I h) fun us s1 ⟨vs,H1,I1,r1,q1⟩=>hc pins s1 σ H1 vs us Q I1 r1 q1) he hpl
end
end L2
namespace HT
open PySem PyProof.Rows
section
open PySem.SeqAt
open PySem.AutoSeq1 (wpAny_loadPart')
open PySem.MeetsSeq PySem.MeetsSeq2 PySem.MeetsSeq3
end
section
variable {prog:Program}{w:World}{A:Around}{E:Value->Shared->Prop}{s:Shared}
theorem yY{t b:Addr}{vs ws:List Value}{Q:Value->Shared->Prop}(ht:IsTup s.heap t vs.toArray)(hb:IsTup s.heap b ws.toArray)(hv:vs≠[])
  (h1:ws=[]->Q (.ref t) s) (h2:ws≠[]->Q (.ref s.heap.objs.size) { s with heap:=s.heap.push { cls:=.type "tuple",data:=.seq (vs++ws).toArray } })
  (hsz:vs.length+ws.length<=sizeLine):wpAny (model prog w) A (binaryOp .Add (.ref t) (.ref b)) Q E s:=by
 obtain ⟨⟨cls,dd,data,sl⟩,ho,hc,n,hd⟩:=id ht;obtain ⟨⟨cls2,dd2,data2,sl2⟩,ho2,hc2,n2,hd2⟩:=id hb;simp only at hc hd hc2 hd2;subst hc hd hc2 hd2;have e:vs.toArray++ws.toArray=(vs++ws).toArray:=by simp
 by_cases hw:ws=[]
 ·exact concat_meets ⟨_,ho,rfl⟩ ⟨_,ho2,rfl⟩ noFill_tuple_add seq_tuple_add JI JC (Jw _ _)
   (tuple_addW1 t b vs.toArray ws.toArray n n2 dd dd2 sl sl2 (by simpa using hv) (by simp [hw])) ⟨ho,ho2,h1 hw⟩
 ·refine concat_meets ⟨_,ho,rfl⟩ ⟨_,ho2,rfl⟩ noFill_tuple_add seq_tuple_add JI JC (Jw _ _)
   (tuple_addW2 t b vs.toArray ws.toArray n n2 dd dd2 sl sl2 (by simpa using hv) (by simpa using hw) (by rw [GJ,GJ];exact hsz)) ⟨ho,ho2,?_⟩
  rw [e];exact h2 hw
def sIx(n d:Nat):Option Int->Nat
 |none=>d
 |some v=>if v<0 then (v+(n:Int)).toNat else min v.toNat n
theorem oR(n d:Nat):sIx n d none=d:=rfl
theorem sY(n d k:Nat):sIx n d (some (k:Int))=min k n:=by
 show (if (k:Int)<0 then ((k:Int)+(n:Int)).toNat else min (k:Int).toNat n)=min k n
 rw [if_neg (by lia),Ha]
theorem E1(n d:Nat)(hd:d<=n)(o:Option Int):sIx n d o<=n:=by
 cases o with
 |none=>exact hd
 |some v=>
  show (if v<0 then (v+(n:Int)).toNat else min v.toNat n)<=n
  by_cases hv:v<0
  ·rw [if_pos hv];lia
  ·rw [if_neg hv];exact Nat.min_le_right _ _
theorem tJ(v:Int)(n d:Nat):(if v<0 then max (v+(n:Int)) 0 else min v (n:Int))=((sIx n d (some v):Nat):Int):=by
 show (if v<0 then max (v+(n:Int)) 0 else min v (n:Int))=(((if v<0 then (v+(n:Int)).toNat else min v.toNat n):Nat):Int)
 by_cases hv:v<0
 ·simp only [if_pos hv];lia
 ·simp only [if_neg hv];lia
theorem qT(lo hi:Option Int)(n:Nat):Je lo hi 1 (n:Int)=(((sIx n 0 lo:Nat):Int),((sIx n n hi:Nat):Int)):=by
 have h1:¬((1:Int)<0):=by lia
 unfold Je;simp only [h1,if_false];refine Prod.ext ?_ ?_
 ·cases lo with
  |none=>rfl
  |some v=>exact tJ v n 0
 ·cases hi with
  |none=>rfl
  |some v=>exact tJ v n n
theorem pY(i j:Nat):IG (i:Int) (j:Int) 1=j-i:=by
 unfold IG;have h1:(1:Int)>0:=by lia
 simp only [h1,if_true,Int.ediv_one]
 split<;>lia
theorem k6{v:Value}{o:Option Int}{Q:Option Int->Shared->Prop}(p:IsPart v o)(h:Q o s):wpAny (model prog w) A (Builtin.Slice.slicePartIndex v) Q E s:=by
 cases p with
 |none=>exact slicePart_none h
 |int i t=>exact slicePart_int h
theorem eG{sl:Addr}{vl vu:Value}{lo hi:Option Int}{n:Nat}{Q:Int×Int×Nat->Shared->Prop}(hs:s.heap.IsSliceOf sl vl vu .none)(pl:IsPart vl lo)(pu:IsPart vu hi)
  (h:Q (((sIx n 0 lo:Nat):Int),1,sIx n n hi-sIx n 0 lo) s):wpAny (model prog w) A (Kb (.ref sl) (pure (n:Int))) Q E s:=by
 obtain ⟨os,hos,hcs,hds⟩:=id hs;unfold Kb Builtin.Slice.sliceFields;refine wpAny_bind (wpAny_bind (wpAny_field hos hds (x:=vl) rfl (wpAny_bind (wpAny_field hos hds (x:=vu) rfl (wpAny_bind (wpAny_field hos hds (x:=.none) rfl (wpAny_pure ?_)))))));refine wpAny_bind (slicePart_none ?_);show wpAny _ _ (if ((1:Int)==0)=true then _ else _) _ _ s
 rw [if_neg (by decide)]
 refine wpAny_bind (k6 pl (wpAny_bind (k6 pu (wpAny_bind (wpAny_pure ?_)))));show wpAny _ _ (match Je lo hi 1 (n:Int) with|(lo,hi)=>pure (lo,(1:Int),IG lo hi 1)) _ _ s
 rw [qT lo hi n];show wpAny _ _ (pure (((sIx n 0 lo:Nat):Int),(1:Int),IG ((sIx n 0 lo:Nat):Int) ((sIx n n hi:Nat):Int) 1)) _ _ s;rw [pY];exact wpAny_pure h
theorem yk(xs:Array Value)(i k:Nat):((HA k).filterMap fun (m:Nat)=>xs[((i:Int)+(m:Int)*1).toNat]?).toArray=((xs.toList.drop i).take k).toArray:=by
 have e:(fun (m:Nat)=>xs[((i:Int)+(m:Int)*1).toNat]?)=fun m=>xs[i+m]?:=by
  funext m;have:((i:Int)+(m:Int)*1).toNat=i+m:=by lia
  rw [this]
 rw [e];have:=pick_run xs i k;rw [List.filterMap_map] at this;have e2:((fun x=>xs[x]?) ∘ fun x=>i+x)=fun m=>xs[i+m]?:=rfl;rw [e2] at this;rw [this]
theorem gJ{t sl:Addr}{items:Array Value}{vl vu:Value}{lo hi:Option Int}{Q:Value->Shared->Prop}(ht:IsTup s.heap t items)(hs:s.heap.IsSliceOf sl vl vu .none)(pl:IsPart vl lo)(pu:IsPart vu hi)
  (hw:¬(sIx items.size 0 lo=0/\sIx items.size items.size hi=items.size))
  (h:Q (.ref s.heap.objs.size) { s with heap:=s.heap.push { cls:=.type "tuple",data:=.seq ((items.toList.drop (sIx items.size 0 lo)).take (sIx items.size items.size hi-sIx items.size 0 lo)).toArray } })
  (hsz:items.size<=sizeLine):wpAny (model prog w) A (getItem (.ref t) (.ref sl)) Q E s:=by
 have htake:sizeOk (.seq ((items.toList.drop (sIx items.size 0 lo)).take (sIx items.size items.size hi-sIx items.size 0 lo)).toArray):=by
  show ((items.toList.drop (sIx items.size 0 lo)).take (sIx items.size items.size hi-sIx items.size 0 lo)).toArray.size<=sizeLine;rw [GJ,HN,HW,Iz];lia
 have hj:sIx items.size items.size hi<=items.size:=E1 _ _ (GO _) hi;obtain ⟨os,hos,hcs,hds⟩:=id hs;have hTs:s.TypeIs (.ref sl) "slice":=⟨os,hos,hcs⟩;unfold getItem
 try with_reducible refine wpAny_holding ?_
 first|refine wpAny_bind (wpAny_pure ?_)|skip
 refine wpAny_bind (wpAny_sequenceKey ht.typeIs (by decide) ?_)
 refine wpAny_bind (wpAny_callSpecial?_slot (name:=Hy "__getitem__") ht.typeIs HF
  (wpAny_call_entry HF ht.typeIs entry_tuple_getitem ?_ (args_tuple_getitem _ _)))
 show wpAny _ _ (Ka (.ref t) >>= _) _ _ s;refine wpAny_bind (tupleItemsOf_ ht ?_);refine wpAny_bind (wpAny_typeOf hTs ?_);rw [if_pos (by decide)]
 refine wpAny_bind (eG hs pl pu ?_);have hno:¬((((sIx items.size 0 lo:Nat):Int)==0&&(1:Int)==1&&(sIx items.size items.size hi-sIx items.size 0 lo)==items.size)=true):=by
  intro q;rw [HP,HP] at q;have q1:((sIx items.size 0 lo:Nat):Int)=0:=eq_of_beq q.1.1;have q2:sIx items.size items.size hi-sIx items.size 0 lo=items.size:=eq_of_beq q.2;exact hw ⟨by lia,by lia⟩
 show wpAny _ _ (if (((sIx items.size 0 lo:Nat):Int)==0&&(1:Int)==1&&(sIx items.size items.size hi-sIx items.size 0 lo)==items.size)=true then _ else _) _ _ s
 rw [if_neg hno,yk]
 first
  |exact wpAny_bind (m:=Ip _) (wpAny_newObj_type (wpAny_pure ⟨_,rfl,wpAny_pure h⟩) htake)
  |exact wpAny_bind (m:=Ip _) (wpAny_newObj_type (wpAny_bind (wpAny_pure (wpAny_pure ⟨_,rfl,wpAny_pure h⟩))) htake)
  |exact wpAny_bind (wpAny_bind (m:=Ip _) (wpAny_newObj_type (wpAny_pure (wpAny_pure ⟨_,rfl,wpAny_pure h⟩)) htake))
  |exact wpAny_bind (wpAny_bind (m:=Ip _) (wpAny_newObj_type (wpAny_pure ⟨_,rfl,wpAny_pure h⟩) htake))
end
end HT
namespace L2
open PySem PySem.Spec PyProof.Rows
abbrev TO:=St->Hp->(Option Int->Hp->Prop)->Prop
def PO(X:Cx)(e:Option Expr)(t:TO):Prop:=
 ∀(pins:List (Addr×Obj)) (s:Shared) (σ:St) (H:Hp) (Q:Option Int->Hp->Prop),Inv X pins σ H s->t σ H Q->
  wpAny (model X.prog X.w) X.A (evalPart e X.env) (fun u s'=>∃o H',Inv X pins σ H' s'/\IsPart u o/\Q o H') X.xe s
def B4:TO:=fun _ H Q=>Q none H
def Fl(t:TE):TO:=fun σ H Q=>t σ H fun x H1=>∃i,x=.int i/\Q (some i) H1
section
variable {X:Cx}{e:Expr}{te:TE}{lo hi:Option Expr}{tl th:TO}{pos p2:Pos}
theorem zH:PO X none B4:=by
 intro pins s σ H Q I h;rw [evalPart_none];exact wpAny_pure ⟨none,H,I,.none,h⟩
theorem zc(h:PE X e te):PO X (some e) (Fl te):=by
 intro pins s σ H Q I hw;rw [evalPart_some];refine thn (h pins s σ H _ I hw) fun u s1 ⟨x,H1,I1,r1,q1⟩=>?_;obtain ⟨i,rfl,q⟩:=q1;obtain ⟨t,rfl⟩:=r1;exact ⟨some i,H1,I1,.int i t,q⟩
def F7(X:Cx)(r:V->Option Int->Option Int->Hp->VK->Prop):Prop:=
 ∀(pins:List (Addr×Obj)) (s:Shared) (σ:St) (H:Hp) (x:V) (v vl vu:Value) (lo hi:Option Int) (sl:Addr) (Q:VK),Inv X pins σ H s->RelV x v->s.heap.IsSliceOf sl vl vu .none->IsPart vl lo->IsPart vu hi->r x lo hi H Q->
  ∃T id,typeLookup (.type T) "__getitem__"=pure (some (.builtin id))/\s.TypeIs v T/\wpAny (model X.prog X.w) X.A (getItem v (.ref sl)) (EP X pins σ Q) X.xe s
def tSl(r:V->Option Int->Option Int->Hp->VK->Prop)(te:TE)(tl th:TO):TE:=fun σ H Q=>te σ H fun x H1=>tl σ H1 fun l H2=>th σ H2 fun u H3=>r x l u H3 Q
theorem vX{r:V->Option Int->Option Int->Hp->VK->Prop}(hr:F7 X r)(he:PE X e te)(hl:PO X lo tl)(hu:PO X hi th):PE X (.Subscript e (.Slice lo hi none p2) pos) (tSl r te tl th):=by
 intro pins s σ H Q I h;refine Subscript_ (thn (he pins s σ H _ I h) fun v s1 ⟨x,H1,I1,r1,q1⟩=>?_);refine wpAny_Slice (thn (hl pins s1 σ H1 _ I1 q1) fun vl s2 ⟨l,H2,I2,pl,q2⟩=>thn (hu pins s2 σ H2 _ I2 q2) fun vu s3 ⟨u,H3,I3,pu,q3⟩=>?_);rw [evalPart_none];refine wpAny_pure ?_;have I4:Inv X pins σ H3 { s3 with heap:=s3.heap.push { cls:=.type "slice",data:=.fields #[vl,vu,.none] } }:=I3.kept (t':=s3.toks) fun b ob q=>GC _ q;obtain ⟨T,id,hT,ht,hg⟩:=hr pins { s3 with heap:=s3.heap.push { cls:=.type "slice",data:=.fields #[vl,vu,.none] } } σ H3 x v vl vu l u s3.heap.objs.size Q I4 r1 (Heap.IsSliceOf.new ..) pl pu q3;show wpAny (model X.prog X.w) X.A (subscriptTail e (.Slice lo hi none p2) v (.ref s3.heap.objs.size)) (EP X pins σ Q) X.xe { s3 with heap:=s3.heap.push { cls:=.type "slice",data:=.fields #[vl,vu,.none] } };exact tail_any (ops:=[.ref s3.heap.objs.size,v]) ht hT hg (by with_unfolding_all rfl)
def iH(xs:List V)(lo hi:Option Int):List V:=(xs.drop (HT.sIx xs.length 0 lo)).take (HT.sIx xs.length xs.length hi-HT.sIx xs.length 0 lo)
theorem iu(xs:List V)(lo hi:Option Int):(iH xs lo hi).length<=xs.length:=by
 unfold iH;rw [HN,HW];lia
def rSlT(K:GH):V->Option Int->Option Int->Hp->VK->Prop:=fun x lo hi H Q=>∃a xs,x=.ref a/\ic K H a xs/\
 ¬(HT.sIx xs.length 0 lo=0/\HT.sIx xs.length xs.length hi=xs.length)/\∀p,H p=none->Q (.ref p) (upd H p (.tup (iH xs lo hi)))
theorem Ek:F7 X (rSlT X.K):=by
 intro pins s σ H x v vl vu lo hi sl Q I rx hs pl pu h;obtain ⟨a,xs,rfl,hx,hw,q⟩:=h;cases rx;obtain ⟨its,r,ht,hz⟩:=I.tuple hx;have hlen:its.toArray.size=xs.length:=by rw [GJ];exact r.length.symm
 refine ⟨"tuple",_,HF.lookup,ht.typeIs,?_⟩;refine HT.gJ ht hs pl pu (by rw [hlen];exact hw) ?_ (by rw [hlen];exact hz)
 rw [hlen];refine ⟨.ref s.heap.objs.size,_,I.laid (t':=s.toks) (o:=.tup (iH xs lo hi)) (fun b ob q=>GC _ q) (GO _) ?_,rfl,q _ (I.hok.fresh (GO _))⟩;exact ⟨Hd (iu xs lo hi) hz,_,(r.drop (HT.sIx xs.length 0 lo)).take (HT.sIx xs.length xs.length hi-HT.sIx xs.length 0 lo),⟨_,GN _ rfl,⟨rfl,_,rfl⟩,rfl⟩⟩
def Fw(K:GH):R2:=fun x y H Q=>∃a b xs ys,x=.ref a/\y=.ref b/\ic K H a xs/\ic K H b ys/\xs≠[]/\xs.length+ys.length<=sizeLine/\
 (ys=[]->Q (.ref a) H)/\(ys≠[]->∀p,H p=none->Q (.ref p) (upd H p (.tup (xs++ys))))
theorem Vals.nil_iff{xs:List V}{us:List Value}(r:Vals xs us):us=[]↔xs=[]:=by
 cases r with
 |nil=>simp
 |cons _ _=>simp
theorem zn:dm X (binaryOp .Add) (Fw X.K):=by
 intro pins s σ H x y v u Q I rx ry h;obtain ⟨a,b,xs,ys,rfl,rfl,ha,hb,hx,hz,q1,q2⟩:=h;cases rx;cases ry;obtain ⟨its,r1,p1,_⟩:=I.tuple ha;obtain ⟨its2,r2,p2,_⟩:=I.tuple hb;refine HT.yY p1 p2 (fun z=>hx (r1.nil_iff.mp z)) (fun z=>⟨.ref a,H,I,rfl,q1 (r2.nil_iff.mp z)⟩) (fun z=>?_) (by rw [<- r1.length,<- r2.length];exact hz)
 refine ⟨.ref s.heap.objs.size,_,I.laid (t':=s.toks) (o:=.tup (xs++ys)) (fun b ob q=>GC _ q) (GO _) ?_,rfl,q2 (fun w=>z (r2.nil_iff.mpr w)) _ (I.hok.fresh (GO _))⟩;exact ⟨by rw [GP];exact hz,_,r1.append r2,⟨_,GN _ rfl,⟨rfl,_,rfl⟩,rfl⟩⟩
end
end L2
namespace L2
open PySem PySem.Spec PyProof.Rows
def tN(n:Nat)(i:Int):Option Nat:=if 0<=i then (if i<n then some i.toNat else none) else if -(n:Int)<=i then some (i+n).toNat else none
def atI{α:Type}(xs:List α)(i:Int):Option α:=(tN xs.length i).bind fun j=>xs[j]?
theorem tK{n:Nat}{i:Int}{j:Nat}(h:tN n i=some j):seqIndex? i n=some j/\j<n/\-(n:Int)<=i/\i<n:=by
 unfold tN at h
 by_cases h0:0<=i
 ·rw [if_pos h0] at h
  by_cases h1:i<n
  ·rw [if_pos h1] at h
   have e:i.toNat=j:=HC h;exact ⟨by rw [seqIndex_of h0 h1,e],by lia,by lia,h1⟩
  ·rw [if_neg h1] at h;cases h
 ·rw [if_neg h0] at h
  by_cases h1:-(n:Int)<=i
  ·rw [if_pos h1] at h
   have e:(i+n).toNat=j:=HC h;exact ⟨by rw [seqIndex_neg (by lia) h1,e],by lia,h1,by lia⟩
  ·rw [if_neg h1] at h;cases h
theorem lU{α:Type}{xs:List α}{i:Int}{v:α}(h:atI xs i=some v):∃j,seqIndex? i xs.length=some j/\xs[j]?=some v/\j<xs.length/\-(xs.length:Int)<=i/\i<xs.length:=by
 unfold atI at h;cases e:tN xs.length i with
 |none=>rw [e] at h;cases h
 |some j=>
  rw [e] at h;obtain ⟨h1,h2,h3,h4⟩:=tK e;exact ⟨j,h1,h,h2,h3,h4⟩
def tz(b:Expr):Prop:=∀o i,subscripted b false o i=operate [o,i] (getItem o i)
def IxR(X:Cx)(r:R2):Prop:=
 ∀(value slice:Expr) (pins:List (Addr×Obj)) (s:Shared) (σ:St) (H:Hp) (x y:V) (v u:Value) (Q:VK),Inv X pins σ H s->RelV x v->RelV y u->r x y H Q->
  subscripted slice false v u=operate [v,u] (getItem v u)->wpAny (model X.prog X.w) X.A (subscriptTail value slice v u) (EP X pins σ Q) X.xe s
def wk(X:Cx)(id:String)(r:V->List V->Hp->VK->Prop):Prop:=
 ∀(pins:List (Addr×Obj)) (s:Shared) (σ:St) (H:Hp) (x:V) (xs:List V) (v:Value) (us:List Value) (Q:VK),Inv X pins σ H s->RelV x v->Vals xs us->r x xs H Q->
  wpAny (model X.prog X.w) X.A (call (.builtin id) (v::us)) (EP X pins σ Q) X.xe s
section
variable {X:Cx}{a b:Expr}{ta tb:TE}{pos:Pos}
theorem IxR.or{r r':R2}(h:IxR X r)(h':IxR X r'):IxR X (fun x y H Q=>r x y H Q\/r' x y H Q):=by
 intro value slice pins s σ H x y v u Q I rx ry q hs;rcases q with q|q
 ·exact h value slice pins s σ H x y v u Q I rx ry q hs
 ·exact h' value slice pins s σ H x y v u Q I rx ry q hs
theorem EQ{r:R2}(hr:IxR X r)(ha:PE X a ta)(hb:PE X b tb)(hs:tz b):PE X (.Subscript a b pos) (G3 r ta tb):=by
 intro pins s σ H Q I h;exact Subscript_ (binT ha hb I h fun v u s2 x y H2 I2 rx ry q=>hr a b pins s2 σ H2 x y v u Q I2 rx ry q (hs _ _))
def Fa(K:GH):R2:=fun x y H Q=>∃p xs i v,x=.ref p/\y=.int i/\SqL K H p xs/\atI xs i=some v/\Q v H
def FR(K:GH):R2:=fun x y H Q=>∃p xs i v,x=.ref p/\y=.int i/\ic K H p xs/\atI xs i=some v/\Q v H
def Gy:R2:=fun x y H Q=>∃z i c,x=.str z/\y=.int i/\z.length<=sizeLine/\atI z.cps.toList i=some c/\Q (.str ⟨#[c]⟩) H
theorem ix_list:IxR X (Fa X.K):=by
 intro value slice pins s σ H x y v u Q I rx ry h hs;obtain ⟨p,xs,i,z,rfl,rfl,hq,he,q⟩:=h;cases rx;obtain ⟨t,rfl⟩:=ry;obtain ⟨its,r,pl,hz⟩:=I.list hq;obtain ⟨j,h1,h2,h3,h4,h5⟩:=lU he;obtain ⟨w,ew,rw'⟩:=r.get h2;have hl:=r.length;have hn:=gg;have fin:EP X pins σ Q w s:=⟨z,H,I,rw',q⟩
 by_cases h0:0<=i
 ·have hj:i.toNat=j:=by
   rw [seqIndex_of h0 h5] at h1;exact HC h1
  exact item_listR pl.isList h0 (by lia) (by rw [hj];simpa using ew) fin hs
 ·have hj:(i+(its.toArray.size:Int)).toNat=j:=by
   rw [seqIndex_neg (by lia) h4] at h1
   rw [GJ,<- hl];exact HC h1
  exact subscriptTail_builtinR (x:=w) pl.isList.typeIs slot_list_getitem.lookup
   (wpAny_getItem_list_neg (Q:=fun r s'=>r=w/\EP X pins σ Q r s') pl.isList (by lia) (by rw [GJ]<;>lia) (by lia) (by rw [hj];simpa using ew) ⟨rfl,fin⟩) hs
theorem ix_tup:IxR X (FR X.K):=by
 intro value slice pins s σ H x y v u Q I rx ry h hs;obtain ⟨p,xs,i,z,rfl,rfl,hq,he,q⟩:=h;cases rx;obtain ⟨t,rfl⟩:=ry;obtain ⟨its,r,pl,hz⟩:=I.tuple hq;obtain ⟨j,h1,h2,h3,h4,h5⟩:=lU he;obtain ⟨w,ew,rw'⟩:=r.get h2;have hl:=r.length;have hn:=gg;have fin:EP X pins σ Q w s:=⟨z,H,I,rw',q⟩
 exact subscriptTail_builtinR (x:=w) pl.typeIs slot_tuple_getitem.lookup
  (getItem_tuple (j:=j) (Q:=fun r s'=>r=w/\EP X pins σ Q r s') pl (by lia) (by lia) (by rw [GJ,<- hl];exact h1) (by simpa using ew) ⟨rfl,fin⟩) hs
theorem xO:IxR X Gy:=by
 intro value slice pins s σ H x y v u Q I rx ry h hs;obtain ⟨z,i,c,rfl,rfl,hz,he,q⟩:=h;obtain ⟨t,rfl⟩:=rx;obtain ⟨t',rfl⟩:=ry;obtain ⟨j,h1,h2,h3,h4,h5⟩:=lU he;have hl:z.cps.toList.length=z.length:=by simp [Str.length]
 rw [hl] at h1 h4 h5;have hn:=gg;exact tail_any (typeIs_str s z t) slot_str_getitem.lookup (getItem_str (c:=c) (by
  have e1:decide (i < -(2 ^ 63:Int))=false:=decide_eq_false (by lia)
  have e2:decide (i>=2 ^ 63)=false:=decide_eq_false (by lia)
  rw [e1,e2,Lk]) (by rw [h1];simpa using h2) ⟨.str ⟨#[c]⟩,H,I.tok _,⟨_,rfl⟩,q⟩) hs
def rIx(K:GH):R2:=fun x y H Q=>Fa K x y H Q\/FR K x y H Q\/Gy x y H Q
theorem D4:IxR X (rIx X.K):=ix_list.or (ix_tup.or xO)
theorem qg(its:List Value)(n j:Nat)(u:Value):Kj (·.setIfInBounds j u) { cls:=.type "list",data:=.seq its.toArray n }={ cls:=.type "list",data:=.seq (its.set j u).toArray n }:=by
 simp [Kj]
theorem Inv.lst{pins:List (Addr×Obj)}{σ:St}{H:Hp}{s:Shared}{p:Addr}{xs:List V}(I:Inv X pins σ H s)(h:H p=some (.lst xs)):
  ∃(its:List Value) (n:Nat),Vals xs its/\s.heap.get? p=some { cls:=.type "list",data:=.seq its.toArray n }/\xs.length<=sizeLine:=by
 obtain ⟨z,its,n,r,e⟩:=I.hok p _ h;exact ⟨its,n,r,e,z⟩
theorem Inv.lstUpd{pins:List (Addr×Obj)}{σ:St}{H:Hp}{s:Shared}{p:Addr}{xs ys:List V}{its its':List Value}{n n':Nat}{f:Obj->Obj}(I:Inv X pins σ H s)(h:H p=some (.lst xs))
  (ho:s.heap.get? p=some { cls:=.type "list",data:=.seq its.toArray n }) (hf:f { cls:=.type "list",data:=.seq its.toArray n }={ cls:=.type "list",data:=.seq its'.toArray n' }) (r:Vals ys its') (hz:ys.length<=sizeLine) (t:Nat):
  Inv X pins σ (upd H p (.lst ys)) { s with heap:=s.heap.update p f,toks:=t }:=by
 have e:(s.heap.update p f).get? p=some { cls:=.type "list",data:=.seq its'.toArray n' }:=by
  rw [LN f ho (by rw [hf]<;>rfl),hf]
 refine I.write (x:=p) (e:=p) (by rw [h];trivial) (.inl rfl) (fun b u hb q=>(LD _ _ (Hw hb)).trans q) ⟨_,e⟩ ?_
 exact ⟨hz,its',n',r,e⟩
def FO:V->V->V->Hp->(Hp->Prop)->Prop:=fun o i v H Q=>∃p xs k j,o=.ref p/\i=.int k/\H p=some (.lst xs)/\tN xs.length k=some j/\Q (upd H p (.lst (xs.set j v)))
theorem xb:E8 X FO:=by
 intro pins s σ H o i v ov iv u Q I ro ri rv h;obtain ⟨p,xs,k,j,rfl,rfl,hp,hj,q⟩:=h;cases ro;obtain ⟨t,rfl⟩:=ri;obtain ⟨its,n,r,ho,hz⟩:=I.lst hp;obtain ⟨h1,h2,h3,h4⟩:=tK hj;have hl:=r.length;have hn:=gg;have I':Inv X pins σ (upd H p (.lst (xs.set j v))) { s with heap:=s.heap.update p (Kj (·.setIfInBounds j u)) }:=
  I.lstUpd hp ho (qg its n j u) (r.set rv j) (by rw [List.length_set];exact hz) s.toks
 by_cases h0:0<=k
 ·have hk:k.toNat=j:=by
   rw [seqIndex_of h0 h4] at h1;exact HC h1
  exact W.ki_setAt ho h0 (by lia) (by rw [GJ,<- hl];exact h4) (by rw [hk];exact ⟨_,I',q⟩)
 ·have hk:(k+(its.toArray.size:Int)).toNat=j:=by
   rw [seqIndex_neg (by lia) h3] at h1
   rw [GJ,<- hl];exact HC h1
  exact W.ki_setBack ho (by lia) (by rw [GJ,<- hl];exact h3) (by lia) (by rw [hk];exact ⟨_,I',q⟩)
theorem lw(lo hi:Option Int)(n:Nat):(sliceBounds lo hi none n).1=((HT.sIx n 0 lo:Nat):Int)/\(sliceBounds lo hi none n).2.1=((HT.sIx n n hi:Nat):Int)/\(sliceBounds lo hi none n).2.2=1:=by
 refine ⟨?_,?_,rfl⟩
 ·cases lo with
  |none=>simp [sliceBounds,HT.sIx]
  |some i=>
   simp only [sliceBounds,HT.sIx,Ml,show (1:Int)>0 by decide,if_true]
   by_cases h:i<0
   ·simp only [h,if_true]<;>lia
   ·simp only [h,if_false]<;>lia
 ·cases hi with
  |none=>simp [sliceBounds,HT.sIx]
  |some i=>
   simp only [sliceBounds,HT.sIx,Ml,show (1:Int)>0 by decide,if_true]
   by_cases h:i<0
   ·simp only [h,if_true]<;>lia
   ·simp only [h,if_false]<;>lia
theorem ky(its:List Value)(lo hi:Option Int):slicePick its.toArray lo hi none=((its.drop (HT.sIx its.length 0 lo)).take (HT.sIx its.length its.length hi-HT.sIx its.length 0 lo)).toArray:=by
 obtain ⟨h1,h2,h3⟩:=lw lo hi its.toArray.size;unfold slicePick;rw [h1,h2,h3];simp only [sliceRange_one,pick_run,GJ]<;>rfl
def rSlL(K:GH):V->Option Int->Option Int->Hp->VK->Prop:=fun x lo hi H Q=>∃a xs,x=.ref a/\SqL K H a xs/\∀p,H p=none->Q (.ref p) (upd H p (.lst (iH xs lo hi)))
theorem rQ:F7 X (rSlL X.K):=by
 intro pins s σ H x v vl vu lo hi sl Q I rx hs pl pu h;obtain ⟨a,xs,rfl,hx,q⟩:=h;cases rx;obtain ⟨its,r,ht,hz⟩:=I.list hx;have hlen:=r.length;refine ⟨"list",_,slot_list_getitem.lookup,ht.isList.typeIs,?_⟩;refine wpAny_getItem_list_slice ht.isList hs pl pu .none (by simp) ?_ (by rw [GJ]<;>lia)
 rw [ky,<- hlen];refine ⟨.ref s.heap.objs.size,_,I.laid (t':=s.toks) (o:=.lst (iH xs lo hi)) (fun b ob q=>GC _ q) (GO _) ?_,rfl,q _ (I.hok.fresh (GO _))⟩;exact ⟨Hd (iu xs lo hi) hz,_,0,(r.drop (HT.sIx xs.length 0 lo)).take (HT.sIx xs.length xs.length hi-HT.sIx xs.length 0 lo),GN _ rfl⟩
def wI:V->Bool
 |.non=>true
 |.bl _=>true
 |.int _=>true
 |.str _=>true
 |_=>false
def nk:V->V->Bool
 |.non,.non=>true
 |.bl a,.bl b=>a==b
 |.bl a,.int b=>(if a then 1 else 0)==b
 |.int a,.bl b=>a==(if b then 1 else 0)
 |.int a,.int b=>a==b
 |.str a,.str b=>a==b
 |_,_=>false
theorem xi{A:Around}{s:Shared}{y x:V}{u v:Value}(ry:RelV y u)(rx:RelV x v)(fy:wI y=true)(fx:wI x=true):JM A s u v (nk y x):=by
 cases y with
 |non=>
  cases ry;cases x with
  |non=>cases rx;exact SeqAt.EqAt.same _
  |bl b=>cases rx;exact SeqAt.EqAt.none_bool b
  |int b=>obtain ⟨t,rfl⟩:=rx;exact SeqAt.EqAt.none_int b t
  |str b=>obtain ⟨t,rfl⟩:=rx;exact SeqAt.EqAt.none_str b t
  |_=>exact absurd (show false=true from fx) GY
 |bl a=>
  cases ry;cases x with
  |non=>cases rx;exact SeqAt.EqAt.bool_none a
  |bl b=>cases rx;exact SeqAt.EqAt.bool_bool a b
  |int b=>obtain ⟨t,rfl⟩:=rx;exact SeqAt.EqAt.bool_int a b t
  |str b=>obtain ⟨t,rfl⟩:=rx;exact SeqAt.EqAt.bool_str a b t
  |_=>exact absurd (show false=true from fx) GY
 |int a=>
  obtain ⟨t',rfl⟩:=ry;cases x with
  |non=>cases rx;exact SeqAt.EqAt.int_none a t'
  |bl b=>cases rx;exact SeqAt.EqAt.int_bool a t' b
  |int b=>obtain ⟨t,rfl⟩:=rx;exact SeqAt.EqAt.int_int a t' b t
  |str b=>obtain ⟨t,rfl⟩:=rx;exact Lg a t' b t
  |_=>exact absurd (show false=true from fx) GY
 |str a=>
  obtain ⟨t',rfl⟩:=ry;cases x with
  |non=>cases rx;exact SeqAt.EqAt.str_none a t'
  |bl b=>cases rx;exact SeqAt.EqAt.str_bool a t' b
  |int b=>obtain ⟨t,rfl⟩:=rx;exact Lf a t' b t
  |str b=>obtain ⟨t,rfl⟩:=rx;exact SeqAt.EqAt.str_str a t' b t
  |_=>exact absurd (show false=true from fx) GY
 |_=>exact absurd (show false=true from fy) GY
theorem lK:cA X (.builtin "len") (fun xs H Q=>∃p ys,xs=[.ref p]/\(SqL X.K H p ys\/ic X.K H p ys)/\Q (.int ys.length) H):=by
 intro pins s σ H xs us Q I r h;obtain ⟨p,ys,rfl,hq,q⟩:=h;obtain ⟨u,rfl,rx⟩:=gn r;cases rx;have hn:=gg;rcases hq with hq|hq
 ·obtain ⟨its,r',pl,hz⟩:=I.list hq
  have hlen:=r'.length;exact Calls.call_len_list pl.isList (by simp only [GJ]<;>lia) ⟨.int ys.length,H,I.tok _,⟨s.toks+1,by rw [GJ,hlen]⟩,q⟩
 ·obtain ⟨its,r',pl,hz⟩:=I.tuple hq
  have hlen:=r'.length;exact len_tuple pl (by simp only [GJ]<;>lia) ⟨.int ys.length,H,I.tok _,⟨s.toks+1,by rw [GJ,hlen]⟩,q⟩
theorem l_:cA X (.builtin "len") (fun xs H Q=>∃z,xs=[.str z]/\z.length<=sizeLine/\Q (.int z.length) H):=by
 intro pins s σ H xs us Q I r h;obtain ⟨z,rfl,hz,q⟩:=h;obtain ⟨u,rfl,t,rfl⟩:=gn r;have hn:=gg;exact len_str (by lia) ⟨.int z.length,H,I.tok _,⟨_,rfl⟩,q⟩
theorem mI:cA X (.type "list") (fun xs H Q=>∃p ys,xs=[.ref p]/\(SqL X.K H p ys\/ic X.K H p ys)/\∀l,H l=none->Q (.ref l) (upd H l (.lst ys))):=by
 intro pins s σ H xs us Q I r h;obtain ⟨p,ys,rfl,hq,q⟩:=h;obtain ⟨u,rfl,rx⟩:=gn r;cases rx
 have fin:∀(its:List Value),Vals ys its->ys.length<=sizeLine->∀(h':Heap) (c':Nat),(∀b o',s.heap.get? b=some o'->h'.get? b=some o')->
   h'.get? s.heap.objs.size=some { cls:=.type "list",dict:=none,data:=.seq its.toArray c',slots:=#[] }->EP X pins σ Q (.ref s.heap.objs.size) { s with heap:=h' }:=fun its r' hz h' c' kp e=>
  ⟨.ref s.heap.objs.size,_,I.laid (t':=s.toks) kp (GO _) (show ObjOk X.prog X.w _ h' _ (.lst ys) from ⟨hz,its,c',r',e⟩),rfl,q _ (I.hok.fresh (GO _))⟩
 rcases hq with hq|hq
 ·obtain ⟨its,r',pl,hz⟩:=I.list hq
  have hlen:=r'.length;obtain ⟨o,ho,hc,n,hd⟩:=pl.isList;exact call_list_seq p (.inl rfl) ho hc hd (fun h' c' kp e=>fin its r' hz h' c' kp e) (by simp only [GJ]<;>lia)
 ·obtain ⟨its,r',pl,hz⟩:=I.tuple hq
  have hlen:=r'.length;obtain ⟨o,ho,hc,n,hd⟩:=pl;exact call_list_seq p (.inr rfl) ho hc hd (fun h' c' kp e=>fin its r' hz h' c' kp e) (by simp only [GJ]<;>lia)
theorem fT:cA X (.type "tuple") (fun xs H Q=>∃p ys,xs=[.ref p]/\((SqL X.K H p ys/\∀l,H l=none->Q (.ref l) (upd H l (.tup ys)))\/(ic X.K H p ys/\Q (.ref p) H))):=by
 intro pins s σ H xs us Q I r h;obtain ⟨p,ys,rfl,h⟩:=h;obtain ⟨u,rfl,rx⟩:=gn r;cases rx;rcases h with ⟨hq,q⟩|⟨hq,q⟩
 ·obtain ⟨its,r',pl,hz⟩:=I.list hq
  have hlen:=r'.length;refine call_tuple_list pl.isList (fun h' kp=>?_) (by simp only [GJ]<;>lia)
  have I1:Inv X pins σ H { s with heap:=h' }:=I.kept (t':=s.toks) kp;have I2:Inv X pins σ (upd H h'.objs.size (.tup ys)) { s with heap:=h'.push { cls:=.type "tuple",data:=.seq its.toArray } }:=
   I1.laid (t':=s.toks) (fun b o e=>GC _ e) (GO _) (show ObjOk X.prog X.w _ _ _ (.tup ys) from ⟨hz,its,r',⟨_,GN _ rfl,⟨rfl,_,rfl⟩,rfl⟩⟩)
  exact ⟨.ref h'.objs.size,_,I2,rfl,q _ (I1.hok.fresh (GO _))⟩
 ·obtain ⟨its,r',pl,hz⟩:=I.tuple hq
  exact call_tuple_same pl ⟨.ref p,H,I,rfl,q⟩
def tyV(K:GH)(T:String)(x:V)(H:Hp):Prop:=match x with
 |.str _=>T="str"
 |.int _=>T="int"
 |.ref p=>(T="list"/\∃xs,SqL K H p xs)\/(T="tuple"/\∃o,K.lookup p=some o/\o.cls=.type "tuple"/\o.dict=none)\/
   (T="dict"/\((∃kvs,H p=some (.dK kvs))\/∃kvs,H p=some (.dT kvs)))\/(T="set"/\∃S n,H p=some (.set S n))
 |_=>False
theorem qp{pins:List (Addr×Obj)}{σ:St}{H:Hp}{s:Shared}{T:String}{x:V}{v:Value}(I:Inv X pins σ H s)(r:RelV x v)(ty:tyV X.K T x H):
  s.TypeIs v T/\∀a,v=.ref a->∃ob,s.heap.get? a=some ob/\ob.dict=none:=by
 cases x with
 |str z=>
  obtain ⟨t,rfl⟩:=r;cases (show T="str" from ty);exact ⟨typeIs_str s z t,fun _ e=>nomatch e⟩
 |int i=>
  obtain ⟨t,rfl⟩:=r;cases (show T="int" from ty);exact ⟨typeIs_int s i t,fun _ e=>nomatch e⟩
 |ref p=>
  cases r;rcases ty with ⟨rfl,xs,hq⟩|⟨rfl,o,hk,hc,hd⟩|⟨rfl,hk⟩|⟨rfl,S,n,hk⟩
  ·obtain ⟨its,_,pl,_⟩:=I.list hq
   refine ⟨pl.isList.typeIs,fun a e=>?_⟩;cases e;obtain ⟨o,n,e,c,hd,_⟩:=pl;exact ⟨o,e,hd⟩
  ·refine ⟨⟨o,I.kIn p o hk,hc⟩,fun a e=>?_⟩
   cases e;exact ⟨o,I.kIn _ o hk,hd⟩
  ·have z:∃o,s.heap.get? p=some o/\o.ExactDict:=by
    rcases hk with ⟨kvs,hk⟩|⟨kvs,hk⟩
    ·obtain ⟨_,_,_,_,o,_,_,e,ex,_⟩:=I.hok p _ hk
     exact ⟨o,e,ex⟩
    ·obtain ⟨_,_,_,_,o,_,_,e,ex,_⟩:=I.hok p _ hk
     exact ⟨o,e,ex⟩
   obtain ⟨o,e,ex⟩:=z;refine ⟨⟨o,e,ex.1⟩,fun a e2=>?_⟩;cases e2;exact ⟨o,e,ex.2.1⟩
  ·obtain ⟨o,_,_,_,e,ex,_⟩:=I.hok p _ hk
   refine ⟨⟨o,e,ex.1⟩,fun a e2=>?_⟩;cases e2;exact ⟨o,e,ex.2.1⟩
 |_=>exact HM ty
def tBM0(K:GH)(T:String)(r:V->List V->Hp->VK->Prop)(to:TE):TE:=fun σ H Q=>to σ H fun x H1=>tyV K T x H1/\r x [] H1 Q
def tBM(K:GH)(T:String)(r:V->List V->Hp->VK->Prop)(to:TE)(t:TA):TE:=fun σ H Q=>to σ H fun x H1=>tyV K T x H1/\t σ H1 fun xs H2=>r x xs H2 Q
variable {o e:Expr}{es:List Expr}{to:TE}{t:TA}{name:Str}{apos cpos:Pos}{T id:String}{r:V->List V->Hp->VK->Prop}
theorem CJ(pa:PlainAttrs T)(slot:Slot T name id)(hty:typeOf (.builtin id)=pure (.type "method_descriptor"))(hm:wk X id r)(ho:PE X o to)
  (hbase:attributeBase o name X.env (eval o X.env)=eval o X.env:=by rfl) (hline:(apos.endLine==cpos.line)=true:=by rfl):PE X (.Call (.Attribute o name apos) [] [] cpos) (tBM0 X.K T r to):=by
 intro pins s σ H Q I h;refine wpAny_Call_method0_late hbase hline (thn (ho pins s σ H _ I h) fun v s1 ⟨x,H1,I1,r1,ty,q1⟩=>?_);obtain ⟨h1,h2⟩:=qp I1 r1 ty;exact ⟨T,id,pa,slot,hty,h1,h2,Il rfl (LV (hm pins s1 σ H1 x [] v [] Q I1 r1 .nil q1))⟩
theorem Gm(pa:PlainAttrs T)(slot:Slot T name id)(hty:typeOf (.builtin id)=pure (.type "method_descriptor"))(hm:wk X id r)(ho:PE X o to)(ha:PA X (e::es) t)
  (hbase:attributeBase o name X.env (eval o X.env)=eval o X.env:=by rfl)
  (hfew:((backTo cpos (starEach (e::es) X.env)).all (fun x=>!x.1)&&(backToKw cpos (keywordEach [] X.env)).all (fun x=>x.1.isSome)
   && decide ((e::es).length+([]:List Keyword).length+(if ([]:List Keyword).isEmpty then 0 else 1)<30))=true:=by rfl)
  (hline:(apos.endLine==cpos.line)=true:=by rfl) (hs:starEach (e::es) X.env=(false,eval e X.env)::starEach es X.env:=by rfl) (hplain:(backTo cpos (starEach es X.env)).any (·.1)=false:=by rfl):
  PE X (.Call (.Attribute o name apos) (e::es) [] cpos) (tBM X.K T r to t):=by
 intro pins s σ H Q I h;refine wpAny_Call_method_late hbase hfew hline rfl (thn (ho pins s σ H _ I h) fun v s1 ⟨x,H1,I1,r1,ty,q1⟩=>?_);obtain ⟨h1,h2⟩:=qp I1 r1 ty;refine ⟨T,id,pa,slot,hty,h1,h2,?_⟩;have hA:=ha cpos pins s1 σ H1 _ I1 q1;rw [hs] at hA ⊢;refine Il (by show (false||(backTo cpos (starEach es X.env)).any (·.1))=false;rw [hplain]<;>rfl) (IP ?_)
 exact thn hA fun us s2 ⟨vs,H2,I2,r2,q2⟩=>hm pins s2 σ H2 x vs v us Q I2 r1 r2 q2
end
end L2
namespace L2
open PySem PySem.Spec PyProof.Rows
def MtM(X:Cx)(id:String)(r:V->List V->Hp->VK->Prop):Prop:=
 ∀(pins:List (Addr×Obj)) (s:Shared) (σ:St) (H:Hp) (x:V) (xs:List V) (v:Value) (us:List Value) (Q:VK),Inv X pins σ H s->RelV x v->Vals xs us->r x xs H Q->
  wpAny (model X.prog X.w) X.A (call (.builtin id) (v::us)) (EP X pins σ Q) X.xe s
theorem Vals.one:∀{x:V} {us:List Value},Vals [x] us->∃u,us=[u]/\RelV x u
 |_,_,h=>by cases h with|cons r q=>cases q;exact ⟨_,rfl,r⟩
theorem Vals.two:∀{x y:V} {us:List Value},Vals [x,y] us->∃u v,us=[u,v]/\RelV x u/\RelV y v
 |_,_,_,h=>by cases h with|cons r q=>cases q with|cons q z=>cases z;exact ⟨_,_,rfl,r,q⟩
theorem Vals.zero:∀{us:List Value},Vals [] us->us=[]
 |_,.nil=>rfl
theorem Vals.rep{xs:List V}{us:List Value}(h:Vals xs us):∀k:Nat,Vals (GK k xs).flatten (GK k us).flatten
 |0=>.nil
 |k+1=>by
  rw [He,He,Ig,Ig];exact Vals.append h (Vals.rep h k)
theorem kK(its:List Value):∀(k:Nat) (acc:List Value),
  KZ (fun x1 x2=>x1++x2) acc.toArray (GK k its.toArray)=(acc++(GK k its).flatten).toArray
 |0,acc=>by simp
 |k+1,acc=>by
  have e:acc.toArray++its.toArray=(acc++its).toArray:=by simp
  have e2:(acc++its)++(GK k its).flatten=acc++(GK (k+1) its).flatten:=by
   rw [He,Ig,Kn]
  rw [<- e2,<- kK its k (acc++its),<- e,He,Ir]
section
variable {X:Cx}{pins:List (Addr×Obj)}{σ:St}{H:Hp}{s:Shared}{l b:Addr}{xs ys zs:List V}
theorem Inv.lset{its its':List Value}{n:Nat}{f:Array Value->Array Value}{t':Nat}(I:Inv X pins σ H s)(hH:H l=some (.lst xs))
  (e:s.heap.get? l=some { cls:=.type "list",data:=.seq its.toArray n }) (hf:f its.toArray=its'.toArray) (hv:Vals ys its') (hz:ys.length<=sizeLine):
  Inv X pins σ (upd H l (.lst ys)) { s with heap:=s.heap.update l (Kj f),toks:=t' }:=by
 have q:=PySem.IsL.update e f;rw [hf] at q;refine I.write (x:=l) (e:=l) (by rw [hH];exact trivial) (.inl rfl) (fun b' u hb hu=>(LD s.heap (Kj f) (Hw hb)).trans hu) ⟨_,q⟩ ?_
 exact ⟨hz,its',_,hv,q⟩
theorem Inv.lnew{its:List Value}{t':Nat}(I:Inv X pins σ H s)(hv:Vals ys its)(hz:ys.length<=sizeLine):
  Inv X pins σ (upd H s.heap.objs.size (.lst ys)) { s with heap:=s.heap.push { cls:=.type "list",data:=.seq its.toArray },toks:=t' }:=
 I.laid (fun _ _ q=>GC _ q) (GO _) ⟨hz,its,0,hv,GN _ rfl⟩
theorem Inv.fresh(I:Inv X pins σ H s):H s.heap.objs.size=none:=I.hok.fresh (GO _)
theorem Inv.lstM(I:Inv X pins σ H s)(hH:H l=some (.lst xs)):xs.length<=sizeLine/\∃(its:List Value) (n:Nat),Vals xs its/\xs.length=its.length/\s.heap.get? l=some { cls:=.type "list",data:=.seq its.toArray n }:=by
 obtain ⟨z,its,n,r,e⟩:=I.hok l _ hH;exact ⟨z,its,n,r,r.length,e⟩
theorem ou{n:Nat}(h:n<=sizeLine):IL n=false:=by
 unfold IL;exact decide_eq_false (by lia)
end
section
variable {X:Cx}
def zq:V->List V->Hp->VK->Prop:=fun x vs H Q=>∃l xs y,x=.ref l/\vs=[y]/\H l=some (.lst xs)/\xs.length<sizeLine/\Q .non (upd H l (.lst (xs++[y])))
theorem uw:MtM X "list.append" zq:=by
 intro pins s σ H x vs v us Q I rx rv h;obtain ⟨l,xs,y,rfl,rfl,hH,hz,q⟩:=h;cases rx;obtain ⟨u,rfl,ru⟩:=rv.one;obtain ⟨z,its,n,r,hl,e⟩:=I.lstM hH;refine call_meets HB ⟨_,e,rfl⟩ F.entry_list_append (F.args_list_append_2 _ _) (Mh l its.toArray n u (by rw [GJ];lia)) ⟨e,?_⟩
 refine ⟨.non,_,I.lset (its':=its++[u]) hH e (by simp) (r.append (.cons ru .nil)) ?_,rfl,q⟩
 rw [GP,JZ];lia
def DH:V->List V->Hp->VK->Prop:=fun x vs H Q=>∃l xs,x=.ref l/\vs=[]/\H l=some (.lst xs)/\Q .non (upd H l (.lst []))
theorem v_:MtM X "list.clear" DH:=by
 intro pins s σ H x vs v us Q I rx rv h;obtain ⟨l,xs,rfl,rfl,hH,q⟩:=h;cases rx;have hus:=rv.zero;subst hus;obtain ⟨z,its,n,r,hl,e⟩:=I.lstM hH;refine call_meets L0 ⟨_,e,rfl⟩ F.entry_list_clear (F.args_list_clear_1 _) (AutoSeq1.list_clear_list_0 l its.toArray n (by rw [GJ];lia)) ⟨e,?_⟩
 exact ⟨.non,_,I.lset (its':=[]) (ys:=[]) hH e rfl .nil (Hn _),rfl,q⟩
def rRep:R2:=fun x y H Q=>∃l k xs,x=.ref l/\y=.int k/\H l=some (.lst xs)/\-(2 ^ 63)<=k/\k<2 ^ 63/\xs.length*k.toNat<=sizeLine/\
 ∀p,H p=none->Q (.ref p) (upd H p (.lst (GK k.toNat xs).flatten))
theorem tw{α:Type}(xs:List α)(k:Nat):(GK k xs).flatten.length=k*xs.length:=by
 induction k with
 |zero=>simp
 |succ k ih=>rw [He,Ig,GP,ih,Ks,Nat.add_comm]
theorem CB:dm X (binaryOp .Mult) rRep:=by
 intro pins s σ H x y v u Q I rx ry h;obtain ⟨l,k,xs,rfl,rfl,hH,h1,h2,hz,q⟩:=h;cases rx;obtain ⟨t,rfl⟩:=ry;obtain ⟨z,its,n,r,hl,e⟩:=I.lstM hH;have hlen:its.toArray.size*k.toNat<=sizeLine:=by rw [GJ,<- hl];exact hz
 have hcap:¬its.toArray.size*k.toNat>(2 ^ 63-1) / 8:=by
  have:(sizeLine:Nat)<=(2 ^ 63-1) / 8:=by decide
  lia
 have hfit:¬(!Builtin.List.listFitsIndex k)=true:=by
  rw [fitsIndex_both h1 h2];exact GY
 have hlong:¬IL (its.toArray.size*k.toNat)=true:=by
  rw [ou hlen];exact GY
 have hnew:KZ (fun x1 x2=>x1++x2) #[] (GK (if its.toArray.isEmpty=true then 0 else k.toNat) its.toArray)=(GK k.toNat its).flatten.toArray:=by
  have f0:∀m:Nat,KZ (fun x1 x2=>x1++x2) #[] (GK m its.toArray)=(GK m its).flatten.toArray:=fun m=>by
   have:=kK its m [];rw [HK] at this;exact this
  rw [f0];cases its with
  |nil=>simp
  |cons a r'=>rw [if_neg (by simp)]
 refine wpAny_binaryOp_repeat_ref (T:="list") (U:="int") (by decide) ⟨_,e,rfl⟩ (fun s'=>typeIs_int s' k t) noFill_list_mul Mj Jo repeat_list Mb.lookup
  (call_meets Jo (typeIs_int s k t) Md (L1 _ _) (int___rmul___int_list k t l its.toArray n)
   ⟨e,rfl,⟨_,e,rfl⟩,call_meets F.slot_list_mul ⟨_,e,rfl⟩ F.entry_list_mul (F.args_list_mul_2 _ _) (AutoListH.list___mul___list_int_3 l its.toArray n k t hfit hcap hlong) ⟨e,?_⟩⟩)
 rw [hnew];exact ⟨.ref _,_,I.lnew (t':=s.toks) (r.rep k.toNat) (by rw [tw,LP];exact hz),rfl,q _ I.fresh⟩
end
section
variable {prog:Program}{w:World}{A:Around}{E:Value->Shared->Prop}{s:Shared}
set_option maxRecDepth 100000 in
end
section
variable {X:Cx}
end
end L2
namespace L2
open PySem PySem.Spec PyProof.Rows
section
variable {κ:Type}[DecidableEq κ]
def fP(kvs:List (κ×V))(k:κ):Option V:=(kvs.find? fun kv=>decide (kv.1=k)).map (·.2)
def cM(kvs:List (κ×V))(k:κ)(v:V):List (κ×V):=
 if (kvs.any fun kv=>decide (kv.1=k))=true then kvs.map (fun kv=>if kv.1=k then (kv.1,v) else kv) else kvs++[(k,v)]
theorem k4{p:κ×V}{r:List (κ×V)}{k:κ}(e:p.1=k):fP (p::r) k=some p.2:=by simp [fP,IY,e]
theorem jS{p:κ×V}{r:List (κ×V)}{k:κ}(e:¬p.1=k):fP (p::r) k=fP r k:=by simp [fP,IY,e]
theorem nZ(k:κ):∀kvs:List (κ×V),(kvs.any fun kv=>decide (kv.1=k))=(fP kvs k).isSome
 |[]=>rfl
 |p::r=>by
  rw [Iy]
  by_cases e:p.1=k
  ·simp only [k4 e,decide_eq_true e,LK,L4]
  ·rw [jS e,decide_eq_false e,Lm];exact nZ k r
theorem dR(kvs:List (κ×V))(k:κ)(v:V):(cM kvs k v).length<=kvs.length+1:=by
 unfold cM
 split
 ·rw [GF];lia
 ·rw [GP,GI,Hg];lia
theorem RelO.isSome_eq{o:Option V}{u:Option Value}(r:RelO o u):o.isSome=u.isSome:=by
 cases o with
 |none=>cases u with
  |none=>rfl
  |some _=>exact (show False from r).elim
 |some _=>cases u with
  |none=>exact (show False from r).elim
  |some _=>rfl
theorem RelO.getD{o:Option V}{u:Option Value}{d:V}{d':Value}(r:RelO o u)(rd:RelV d d'):RelV (o.getD d) (u.getD d'):=by
 cases o with
 |none=>cases u with
  |none=>exact rd
  |some _=>exact (show False from r).elim
 |some _=>cases u with
  |none=>exact (show False from r).elim
  |some _=>exact r
theorem KV.val{kvs:List (κ×V)}{vs:List (κ×Value)}(r:KV kvs vs)(k:κ):RelO (fP kvs k) (valueAt vs k):=by
 unfold KV at r
 induction r with
 |nil=>exact Iq
 |@cons p q ps qs h t ih=>
  obtain ⟨h1,h2⟩:=h
  by_cases e:p.1=k
  ·have e':q.1=k:=h1.symm.trans e
   have b:valueAt (q::qs) k=some q.2:=by simp [valueAt,IY,e']
   rw [k4 e,b];exact h2
  ·have e':¬q.1=k:=fun z=>e (h1.trans z)
   have b:valueAt (q::qs) k=valueAt qs k:=by simp [valueAt,IY,e']
   rw [jS e,b];exact ih
theorem KV.any{kvs:List (κ×V)}{vs:List (κ×Value)}(r:KV kvs vs)(k:κ):(kvs.any fun kv=>decide (kv.1=k))=vs.any fun kv=>decide (kv.1=k):=by
 unfold KV at r
 induction r with
 |nil=>rfl
 |cons h t ih=>rw [Iy,Iy,ih,h.1]
theorem KV.repl{kvs:List (κ×V)}{vs:List (κ×Value)}(r:KV kvs vs)(k:κ){y:V}{u:Value}(ry:RelV y u):
  KV (kvs.map fun kv=>if kv.1=k then (kv.1,y) else kv) (vs.map fun kv=>if kv.1=k then (kv.1,u) else kv):=by
 unfold KV at r ⊢
 induction r with
 |nil=>exact .nil
 |@cons p q ps qs h t ih=>
  rw [GR,GR];refine .cons ?_ ih;obtain ⟨h1,h2⟩:=h
  by_cases e:p.1=k
  ·rw [if_pos e,if_pos (h1.symm.trans e)];exact ⟨h1,ry⟩
  ·rw [if_neg e,if_neg (fun z=>e (h1.trans z))];exact ⟨h1,h2⟩
theorem KV.put{kvs:List (κ×V)}{vs:List (κ×Value)}(r:KV kvs vs)(k:κ){y:V}{u:Value}(ry:RelV y u):KV (cM kvs k y) (stored vs k u):=by
 unfold cM stored;rw [r.any k]
 by_cases e:(vs.any fun kv=>decide (kv.1=k))=true
 ·rw [if_pos e,if_pos e];exact r.repl k ry
 ·rw [if_neg e,if_neg e];exact Paired.snoc r ⟨rfl,ry⟩
theorem KV.length{kvs:List (κ×V)}{vs:List (κ×Value)}(r:KV kvs vs):kvs.length=vs.length:=Ik r
end
theorem gX{P:Program}{w:World}{k:aP}{u:Value}(r:RelV (kV k) u):(bq P w).is k u=true:=by
 cases k with
 |inl i=>obtain ⟨t,e⟩:=(show ∃t,u=Kp i t from r);subst e;exact no P w i t
 |inr x=>obtain ⟨t,e⟩:=(show ∃t,u=Ko x t from r);subst e;exact pr P w x t
theorem lc{P:Program}{w:World}:∀{ks:List aP} {us:List Value},Vals (ks.map kV) us->ItemsAre (bq P w) ks us
 |[],_,r=>by rw [HL] at r;cases r;exact .nil
 |k::ks,_,r=>by
  rw [GR] at r;cases r with
  |cons h t=>exact .cons (gX h) (lc t)
abbrev KT(H:Hp):List (List aP×V)->List (List aP×Addr×Value)->Prop:=Paired fun p q=>p.1=q.1/\H q.2.1=some (.tup (p.1.map kV))/\RelV p.2 q.2.2
theorem KT.val{H:Hp}{kvs:List (List aP×V)}{xs:List (List aP×Addr×Value)}(r:KT H kvs xs)(k:List aP):RelO (fP kvs k) ((atKey xs k).map (·.2)):=by
 induction r with
 |nil=>exact Iq
 |@cons p q ps qs h t ih=>
  obtain ⟨h1,_,h2⟩:=h
  by_cases e:p.1=k
  ·have e':q.1=k:=h1.symm.trans e
   have b:atKey (q::qs) k=some q.2:=by simp [atKey,IY,e']
   rw [k4 e,b];exact h2
  ·have e':¬q.1=k:=fun z=>e (h1.trans z)
   have b:atKey (q::qs) k=atKey qs k:=by simp [atKey,IY,e']
   rw [jS e,b];exact ih
theorem KT.repl{H:Hp}{kvs:List (List aP×V)}{xs:List (List aP×Addr×Value)}(r:KT H kvs xs)(k:List aP){y:V}{u:Value}(ry:RelV y u):
  KT H (kvs.map fun kv=>if kv.1=k then (kv.1,y) else kv) (xs.map (putAt k u)):=by
 induction r with
 |nil=>exact .nil
 |@cons p q ps qs h t ih=>
  rw [GR,GR];refine .cons ?_ ih;obtain ⟨h1,h2,h3⟩:=h;unfold putAt
  by_cases e:p.1=k
  ·rw [if_pos e,if_pos (h1.symm.trans e)];exact ⟨h1,h2,ry⟩
  ·rw [if_neg e,if_neg (fun z=>e (h1.trans z))];exact ⟨h1,h2,h3⟩
theorem KT.put{H:Hp}{kvs:List (List aP×V)}{xs:List (List aP×Addr×Value)}(r:KT H kvs xs)(k:List aP){b:Addr}{y:V}{u:Value}(hb:H b=some (.tup (k.map kV)))(ry:RelV y u):
  KT H (cM kvs k y) (storedH xs k b u):=by
 have e:(kvs.any fun kv=>decide (kv.1=k))=(atKey xs k).isSome:=by
  rw [nZ,(r.val k).isSome_eq,Ki]
 unfold cM storedH;rw [e]
 by_cases q:(atKey xs k).isSome=true
 ·rw [if_pos q,if_pos q];exact r.repl k ry
 ·rw [if_neg q,if_neg q];exact Paired.snoc r ⟨rfl,hb,ry⟩
theorem KT.keeps{H H':Hp}{kvs:List (List aP×V)}{xs:List (List aP×Addr×Value)}(r:KT H kvs xs)(ht:∀b ys,H b=some (.tup ys)->H' b=some (.tup ys)):KT H' kvs xs:=
 dZ r fun _ _ z=>⟨z.1,ht _ _ z.2.1,z.2.2⟩
section
variable {P:Program}{w:World}{H:Hp}{h:Heap}{a:Addr}
theorem Bp{u:HO}(ok:HOk P w H h)(e:Rd H a u):ObjOk P w H h a u:=e.ok ok
theorem gz{kvs:List (aP×V)}(ok:HOk P w H h)(e:Rd H a (.dK kvs)):kvs.length<=sizeLine/\(a==sysModules)=false/\∃vs,KV kvs vs/\h.DictOf (bq P w) a vs:=
 show ObjOk P w H h a (.dK kvs) from Bp ok e
theorem Bz{kvs:List (aP×V)}(ok:HOk P w H h)(e:H a=some (.dK kvs)):kvs.length<=sizeLine/\(a==sysModules)=false/\∃vs,KV kvs vs/\h.DictOf (bq P w) a vs:=gz ok (.inl e)
theorem gb{ks:List aP}(ok:HOk P w H h)(e:H a=some (.tup (ks.map kV))):(tupleKind (bq P w)).is h ks a:=by
 obtain ⟨_,its,r,o,h1,⟨h2,n,h3⟩,_⟩:=(show ObjOk P w H h a (.tup (ks.map kV)) from ok a _ e);exact ⟨o,its.toArray,n,h1,h2,h3,by simpa using lc r⟩
theorem iD{kvs:List (List aP×V)}(ok:HOk P w H h)(e:Rd H a (.dT kvs)):kvs.length<=sizeLine/\(a==sysModules)=false/\
  ∃xs,KT H kvs xs/\h.DictOfH (tupleKind (bq P w)) a xs:=by
 obtain ⟨z,y,xs,r,o,es,ep,h1,h2,h3,h4,h5⟩:=(show ObjOk P w H h a (.dT kvs) from Bp ok e);refine ⟨z,y,xs,r,o,es,ep,h1,h2,h3,h4,fun x hx=>?_,h5⟩;have all:∀{l:List (List aP×V)} {m:List (List aP×Addr×Value)},KT H l m->∀x∈m,(tupleKind (bq P w)).is h x.1 x.2.1:=by
  intro l m q
  induction q with
  |nil=>intro x hx;exact nomatch hx
  |@cons p q ps qs hq t ih=>
   intro x hx;rcases Hq.mp hx with e|hx
   ·subst e
    exact gb ok (by rw [<- hq.1];exact hq.2.1)
   ·exact ih x hx
 exact all r x hx
theorem F1{kvs:List (List aP×V)}(ok:HOk P w H h)(e:H a=some (.dT kvs)):kvs.length<=sizeLine/\(a==sysModules)=false/\
  ∃xs,KT H kvs xs/\h.DictOfH (tupleKind (bq P w)) a xs:=iD ok (.inl e)
end
def DGet(H:Hp)(a:Addr)(y:V)(r:Option V):Prop:=
 (∃kvs k,Rd H a (.dK kvs)/\y=kV k/\r=fP kvs k)\/∃kvs k b,Rd H a (.dT kvs)/\y=.ref b/\H b=some (.tup (k.map kV))/\r=fP kvs k
def DPut(H:Hp)(a:Addr)(y v:V)(H':Hp):Prop:=
 (∃kvs k,H a=some (.dK kvs)/\y=kV k/\kvs.length<sizeLine/\H'=upd H a (.dK (cM kvs k v)))\/
 ∃kvs k b,H a=some (.dT kvs)/\y=.ref b/\H b=some (.tup (k.map kV))/\kvs.length<sizeLine/\H'=upd H a (.dT (cM kvs k v))
theorem yo{H:Hp}{a:Addr}{kvs:List (aP×V)}{k:aP}(e:H a=some (.dK kvs)):DGet H a (kV k) (fP kvs k):=.inl ⟨kvs,k,.inl e,rfl,rfl⟩
theorem DGet.t{H:Hp}{a b:Addr}{kvs:List (List aP×V)}{k:List aP}(e:H a=some (.dT kvs))(eb:H b=some (.tup (k.map kV))):DGet H a (.ref b) (fP kvs k):=.inr ⟨kvs,k,b,.inl e,rfl,eb,rfl⟩
theorem EB{H:Hp}{a:Addr}{kvs:List (aP×V)}{k:aP}{v:V}(e:H a=some (.dK kvs))(hl:kvs.length<sizeLine):DPut H a (kV k) v (upd H a (.dK (cM kvs k v))):=.inl ⟨kvs,k,e,rfl,hl,rfl⟩
theorem DPut.t{H:Hp}{a b:Addr}{kvs:List (List aP×V)}{k:List aP}{v:V}(e:H a=some (.dT kvs))(eb:H b=some (.tup (k.map kV)))(hl:kvs.length<sizeLine):
  DPut H a (.ref b) v (upd H a (.dT (cM kvs k v))):=.inr ⟨kvs,k,b,e,rfl,eb,hl,rfl⟩
section
variable {X:Cx}{pins:List (Addr×Obj)}{σ:St}{H:Hp}{s:Shared}{a:Addr}{y v:V}{u r:Value}{o:Option V}{A:Around}{E:Value->Shared->Prop}
theorem Inv.big(I:Inv X pins σ H s):sysModules<s.heap.objs.size:=by
 have h:mainGlobals<s.heap.objs.size:=(I.mod.glob.keeps I.bk).lt;exact Nat.lt_trans (by decide) h
theorem uJ{Q:Value->Shared->Prop}(hu:A.units+1<cLine)(I:Inv X pins σ H s)(g:DGet H a y (some v))(ry:RelV y u)(h:∀w' s',Inv X pins σ H s'->RelV v w'->Q w' s'):
  wpAny (model X.prog X.w) A (getItem (.ref a) u) Q E s:=by
 rcases g with ⟨kvs,k,e,ey,l⟩|⟨kvs,k,b,e,ey,eb,l⟩
 ·subst ey
  obtain ⟨z,hd,vs,rel,dd⟩:=gz I.hok e;obtain ⟨w',hw,rw'⟩:=eX (v:=v) (o:=valueAt vs k) (by rw [l];exact rel.val k)
  exact wpAny_getItem_of (gX ry) dd.mapOf hw (h w' _ (I.tok _) rw')
 ·subst ey
  cases (show u=Hb b from ry);obtain ⟨z,hd,xs,rel,dd⟩:=iD I.hok e;obtain ⟨w',hw,rw'⟩:=eX (v:=v) (o:=(atKey xs k).map (·.2)) (by rw [l];exact rel.val k)
  obtain ⟨p,hp,hp2⟩:=IC.mp hw;refine wpAny_getItem_heap (tupleKind_room_in1 hu) (gb I.hok eb) dd hp ?_;rw [hp2];exact h w' _ (I.tok _) rw'
theorem Gk{Q:Value->Shared->Prop}(hu:A.units+1<cLine)(I:Inv X pins σ H s)(g:DGet H a y o)(ry:RelV y u)(h:∀s',Inv X pins σ H s'->Q (.bool o.isSome) s'):
  wpAny (model X.prog X.w) A (compareOp .In u (.ref a)) Q E s:=by
 rcases g with ⟨kvs,k,e,ey,l⟩|⟨kvs,k,b,e,ey,eb,l⟩
 ·subst ey
  obtain ⟨z,hd,vs,rel,dd⟩:=gz I.hok e;refine wpAny_in_of (gX ry) hd dd.mapOf ?_;rw [<- (rel.val k).isSome_eq,<- l];exact h _ (I.tok _)
 ·subst ey
  cases (show u=Hb b from ry);obtain ⟨z,hd,xs,rel,dd⟩:=iD I.hok e;refine wpAny_in_heap (tupleKind_room_in1 hu) (gb I.hok eb) hd dd ?_;have q:=(rel.val k).isSome_eq;rw [Ki] at q;rw [<- q,<- l];exact h _ (I.tok _)
theorem rH{Q:Value->Shared->Prop}(hu:A.units+1<cLine)(I:Inv X pins σ H s)(g:DGet H a y o)(ry:RelV y u)(h:∀s',Inv X pins σ H s'->Q (.bool (!o.isSome)) s'):
  wpAny (model X.prog X.w) A (compareOp .NotIn u (.ref a)) Q E s:=by
 rcases g with ⟨kvs,k,e,ey,l⟩|⟨kvs,k,b,e,ey,eb,l⟩
 ·subst ey
  obtain ⟨z,hd,vs,rel,dd⟩:=gz I.hok e;refine wpAny_notIn_of (gX ry) hd dd.mapOf ?_;rw [<- (rel.val k).isSome_eq,<- l];exact h _ (I.tok _)
 ·subst ey
  cases (show u=Hb b from ry);obtain ⟨z,hd,xs,rel,dd⟩:=iD I.hok e;refine wpAny_notIn_heap (tupleKind_room_in1 hu) (gb I.hok eb) hd dd ?_;have q:=(rel.val k).isSome_eq;rw [Ki] at q;rw [<- q,<- l];exact h _ (I.tok _)
theorem mU{h':Heap}{t':Nat}{ob:HO}(I:Inv X pins σ H s)(mu:Gv (H a))(hs:Im a s.heap h')(he:∃q,h'.get? a=some q)(new:ObjOk X.prog X.w (upd H a ob) h' a ob):
  Inv X pins σ (upd H a ob) { s with heap:=h',toks:=t' }:=
 I.write (x:=a) (e:=a) mu (.inl rfl) (fun b q hb z=>(hs.2 b hb).trans z) he new
theorem qh{P:Program}{w:World}{H':Hp}{h':Heap}{kvs:List (aP×V)}{vs:List (aP×Value)}(z:kvs.length<=sizeLine)(hd:(a==sysModules)=false)(rel:KV kvs vs)(dd:h'.DictOf (bq P w) a vs):
  ObjOk P w H' h' a (.dK kvs):=⟨z,hd,vs,rel,dd⟩
theorem kI{H':Hp}{Q:Unit->Shared->Prop}(hu:A.units+1<cLine)(I:Inv X pins σ H s)(g:DPut H a y v H')(ry:RelV y u)(rv:RelV v r)(h:∀s',Inv X pins σ H' s'->Q () s'):
  wpAny (model X.prog X.w) A (setItem (.ref a) u r) Q E s:=by
 rcases g with ⟨kvs,k,e,ey,l,eH⟩|⟨kvs,k,b,e,ey,eb,l,eH⟩
 ·subst ey eH
  obtain ⟨z,hd,vs,rel,dd⟩:=Bz I.hok e;have hz:vs.length<=sizeLine:=by rw [<- rel.length];exact z
  have hl:(cM kvs k v).length<=sizeLine:=by have:=dR kvs k v;lia
  refine wpAny_setItem_pairs (hsz:=hz) (gX ry) dd fun h' dd' hs=>h _ ?_;have he:∃q,h'.get? a=some q:=let ⟨q,_,_,hq,_⟩:=dd';⟨q,hq⟩;exact mU I (by rw [e];exact Iq) hs he (qh hl hd (rel.put k rv) dd')
 ·subst ey eH
  cases (show u=Hb b from ry);obtain ⟨z,hd,xs,rel,dd⟩:=F1 I.hok e;have hz:xs.length<=sizeLine:=by rw [<- Ik rel];exact z
  have hl:(cM kvs k v).length<=sizeLine:=by have:=dR kvs k v;lia
  refine wpAny_setItem_heap (hsz:=hz) (tupleKind_room_in1 hu) (gb I.hok eb) dd fun h' dd' hs=>h _ ?_;obtain ⟨q,es,ep,hq,h2,h3,h4,_,h5⟩:=dd';refine mU I (by rw [e];exact Iq) hs ⟨q,hq⟩ ⟨hl,hd,_,(rel.put k eb rv).keeps fun c ys ec=>?_,q,es,ep,hq,h2,h3,h4,h5⟩
  rw [upd_ne (FL ec e (fun z=>nomatch z))];exact ec
end
section
variable {X:Cx}{pins:List (Addr×Obj)}{σ:St}{H:Hp}{s:Shared}{a:Addr}{kvs:List (aP×V)}{k:aP}{u:Value}{A:Around}{E:Value->Shared->Prop}
theorem Fb{Q:Value->Shared->Prop}(I:Inv X pins σ H s)(e:Rd H a (.dK kvs))(h:∀t s',Inv X pins σ H s'->Q (.int kvs.length t) s'):wpAny (model X.prog X.w) A (call (.builtin "len") [.ref a]) Q E s:=by
 obtain ⟨z,hd,vs,rel,dd⟩:=gz I.hok e;refine call_len_dict hd dd (by rw [<- rel.length];rw [sizeLine_eq] at z;lia) ?_
 rw [<- rel.length];exact h _ _ (I.tok _)
end
theorem om{X:Cx}{pins:List (Addr×Obj)}{σ:St}{H:Hp}{s:Shared}{a:Addr}{y:V}{o:Option V}(I:Inv X pins σ H s)(g:DGet H a y o):s.TypeIs (.ref a) "dict":=by
 rcases g with ⟨kvs,k,e,_,_⟩|⟨kvs,k,b,e,_,_,_⟩
 ·obtain ⟨_,_,vs,_,dd⟩:=gz I.hok e
  exact dd.typeIs
 ·obtain ⟨_,_,xs,_,dd⟩:=iD I.hok e
  exact dd.typeIs
section
variable {X:Cx}{o i e value:Expr}{pos pos' tpos:Pos}{td ty tv:TE}
end
theorem xn{P:Program}{w:World}{H:Hp}(h:Heap)(hb:sysModules<h.objs.size):ObjOk P w H (h.push { cls:=.type "dict",data:=.dict #[] }) h.objs.size (.dK []):=
 ⟨Hn _,beq_eq_false_iff_ne.mpr (Hw (GW hb)),[],.nil,LF h⟩
theorem xq{P:Program}{w:World}{H:Hp}(h:Heap)(hb:sysModules<h.objs.size):ObjOk P w H (h.push { cls:=.type "dict",data:=.dict #[] }) h.objs.size (.dT []):=
 ⟨Hn _,beq_eq_false_iff_ne.mpr (Hw (GW hb)),[],.nil,_,#[],0,GN _ rfl,⟨rfl,rfl,rfl⟩,rfl,rfl,List.nodup_nil⟩
def BV:TE:=fun _ H Q=>∀p,H p=none->Q (.ref p) (upd H p (.dT []))
section
variable {X:Cx}{pos:Pos}
theorem vE:PE X (.Dict [] [] pos) BV:=fun pins s σ H Q I h=>
 wpAny_Dict_empty ⟨.ref s.heap.objs.size,_,I.laid (a:=s.heap.objs.size) (o:=.dT []) (t':=s.toks) (fun _ _ q=>GC _ q) (GO _) (xq s.heap I.big),rfl,h _ (I.hok.fresh (GO _))⟩
end
def lN:List (TE×TE)->St->Hp->(List (V×V)->Hp->Prop)->Prop
 |[],_,H,Q=>Q [] H
 |(tk,tv)::r,σ,H,Q=>tk σ H fun x H1=>tv σ H1 fun y H2=>lN r σ H2 fun ps H3=>Q ((x,y)::ps) H3
abbrev VV:List (V×V)->List (Value×Value)->Prop:=Paired fun p q=>RelV p.1 q.1/\RelV p.2 q.2
def By(X:Cx)(pos:Pos)(keys:List (Option Expr))(values:List Expr)(trs:List (TE×TE)):Prop:=
 ∀(pins:List (Addr×Obj)) (s:Shared) (σ:St) (H:Hp) (Q:List (V×V)->Hp->Prop),Inv X pins σ H s->lN trs σ H Q->
  wpAny (model X.prog X.w) X.A (evalPairs (pairTrees keys values X.env pos)) (fun vs s'=>∃ps H',Inv X pins σ H' s'/\VV ps vs/\Q ps H') X.xe s
theorem Ai{X:Cx}{pos:Pos}:By X pos [] [] []:=fun pins s σ H Q I h=>pairTrees_nil_walk ⟨[],H,I,.nil,h⟩
theorem xu{X:Cx}{pos:Pos}{k v:Expr}{ks:List (Option Expr)}{vs:List Expr}{tk tv:TE}{trs:List (TE×TE)}(hk:PE X k tk)(hv:PE X v tv)(hr:By X pos ks vs trs):
  By X pos (some k::ks) (v::vs) ((tk,tv)::trs):=fun pins s σ H Q I h=>
 pairTrees_cons_walk (thn (hk pins s σ H _ I h) fun u s1 ⟨x,H1,I1,rx,q1⟩=>thn (hv pins s1 σ H1 _ I1 q1) fun w2 s2 ⟨y,H2,I2,ry,q2⟩=>
  thn (hr pins s2 σ H2 _ I2 q2) fun ws s3 ⟨ps,H3,I3,rel,q3⟩=>⟨(x,y)::ps,H3,I3,.cons ⟨rx,ry⟩ rel,q3⟩)
def fZ(kvs more:List (aP×V)):List (aP×V):=more.foldl (fun acc kv=>cM acc kv.1 kv.2) kvs
theorem KV.merge:∀{more:List (aP×V)} {rs:List (aP×Value)} {kvs:List (aP×V)} {vs:List (aP×Value)},KV more rs->KV kvs vs->KV (fZ kvs more) (merged vs rs):=by
 intro more rs kvs vs r;unfold KV at r
 induction r generalizing kvs vs with
 |nil=>intro q;exact q
 |@cons p q ps qs h t ih=>
  intro r0;have e:KV (cM kvs p.1 p.2) (stored vs q.1 q.2):=by
   have:=r0.put p.1 h.2;rw [<- h.1];exact this
  exact ih e
theorem fU:∀(more kvs:List (aP×V)),(fZ kvs more).length<=kvs.length+more.length
 |[],kvs=>by show kvs.length<=kvs.length+0;lia
 |p::r,kvs=>by
  have h1:=fU r (cM kvs p.1 p.2);have h2:=dR kvs p.1 p.2;show (fZ (cM kvs p.1 p.2) r).length<=_;rw [GI];lia
theorem jI{P:Program}{w:World}:∀{kvs:List (aP×V)} {ws:List (Value×Value)},VV (kvs.map fun kv=>(kV kv.1,kv.2)) ws->∃rs,Carries (bq P w) ws rs/\KV kvs rs
 |[],_,r=>by rw [HL] at r;cases r;exact ⟨[],Iq,.nil⟩
 |p::kvs,_,r=>by
  rw [GR] at r;cases r with
  |@cons a b as bs h t=>
   obtain ⟨rs,c,q⟩:=jI (P:=P) (w:=w) t;obtain ⟨b1,b2⟩:=b;exact ⟨(p.1,b2)::rs,⟨gX h.1,rfl,c⟩,.cons ⟨rfl,h.2⟩ q⟩
def FU(trs:List (TE×TE)):TE:=fun σ H Q=>∀p,H p=none->lN trs σ (upd H p (.dK [])) fun ps H2=>H2 p=some (.dK [])/\∃kvs:List (aP×V),ps=kvs.map (fun kv=>(kV kv.1,kv.2))/\kvs.length<=15/\Q (.ref p) (upd H2 p (.dK (fZ [] kvs)))
theorem B6{X:Cx}{pos:Pos}{keys:List (Option Expr)}{values:List Expr}{trs:List (TE×TE)}(h:By X pos keys values trs)(hall:keys.all (·.isSome)=true)(hl:keys.length=values.length)(h0:keys≠[])
  (h15:keys.length<=15):PE X (.Dict keys values pos) (FU trs):=by
 intro pins s σ H Q I q;have hn:=I.hok.fresh (GO s.heap.objs.size);have I1:=I.laid (a:=s.heap.objs.size) (o:=.dK []) (h':=s.heap.push { cls:=.type "dict",data:=.dict #[] }) (t':=s.toks) (fun _ _ q=>GC _ q) (GO _) (xn s.heap I.big);refine wpAny_Dict_walk (knd:=bq X.prog X.w) hall hl h0 h15 (thn (h pins _ σ _ _ I1 (q _ hn)) fun ws s2 zz=>?_);obtain ⟨ps,H2,I2,rel,e,kvs,ep,lk,q2⟩:=zz;subst ep;obtain ⟨rs,c,rk⟩:=jI (P:=X.prog) (w:=X.w) rel;obtain ⟨z,hd,vs0,r0,dd⟩:=Bz I2.hok e;cases r0;refine ⟨rs,c,dd,fun h' dd' hs=>⟨.ref s.heap.objs.size,_,?_,rfl,q2⟩⟩;have hz:(fZ [] kvs).length<=sizeLine:=by
  have h1:=fU kvs [];rw [Hg] at h1;rw [sizeLine_eq];lia
 have he:∃q,h'.get? s.heap.objs.size=some q:=let ⟨q,_,_,hq,_⟩:=dd';⟨q,hq⟩;exact mU I2 (by rw [e];exact Iq) hs he (qh hz hd (rk.merge .nil) dd')
structure M1(X:Cx)(o:Expr)(m:Str)(apos:Pos)(e:Expr)(cpos:Pos):Prop where
 base:attributeBase o m X.env (eval o X.env)=eval o X.env
 few:((backTo cpos (starEach [e] X.env)).all (fun x=>!x.1)&&(backToKw cpos (keywordEach [] X.env)).all (fun x=>x.1.isSome)
  && decide (([e]:List Expr).length+([]:List Keyword).length+(if ([]:List Keyword).isEmpty then 0 else 1)<30))=true
 line:(apos.endLine==cpos.line)=true
 trees:backTo cpos (starEach [e] X.env)=[(false,eval e X.env)]
structure M2(X:Cx)(o:Expr)(m:Str)(apos:Pos)(e f:Expr)(cpos:Pos):Prop where
 base:attributeBase o m X.env (eval o X.env)=eval o X.env
 few:((backTo cpos (starEach [e,f] X.env)).all (fun x=>!x.1)&&(backToKw cpos (keywordEach [] X.env)).all (fun x=>x.1.isSome)
  && decide (([e,f]:List Expr).length+([]:List Keyword).length+(if ([]:List Keyword).isEmpty then 0 else 1)<30))=true
 line:(apos.endLine==cpos.line)=true
 trees:backTo cpos (starEach [e,f] X.env)=[(false,eval e X.env),(false,eval f X.env)]
def IsD(H:Hp)(a:Addr):Prop:=(∃kvs,Rd H a (.dK kvs))\/∃kvs,Rd H a (.dT kvs)
theorem vn{X:Cx}{pins:List (Addr×Obj)}{σ:St}{H:Hp}{s:Shared}{a:Addr}(I:Inv X pins σ H s)(d:IsD H a):
  s.TypeIs (.ref a) "dict"/\(∀b,Hb a=.ref b->∃ob,s.heap.get? b=some ob/\ob.dict=none)/\(a==sysModules)=false:=by
 rcases d with ⟨kvs,e⟩|⟨kvs,e⟩
 ·obtain ⟨_,hd,vs,_,dd⟩:=gz I.hok e
  refine ⟨dd.typeIs,fun b q=>?_,hd⟩;cases q;obtain ⟨ob,_,_,h1,h2,_⟩:=dd;exact ⟨ob,h1,h2.2.1⟩
 ·obtain ⟨_,hd,xs,_,dd⟩:=iD I.hok e
  refine ⟨dd.typeIs,fun b q=>?_,hd⟩;cases q;obtain ⟨ob,_,_,h1,h2,_⟩:=dd;exact ⟨ob,h1,h2.2.1⟩
section
variable {X:Cx}{pins:List (Addr×Obj)}{σ:St}{H:Hp}{s:Shared}{a:Addr}{y d:V}{u r:Value}{o:Option V}{A:Around}{E:Value->Shared->Prop}
theorem BO{Q:Value->Shared->Prop}(hu:A.units+1<cLine)(I:Inv X pins σ H s)(g:DGet H a y o)(ry:RelV y u)(h:∀w' s',Inv X pins σ H s'->RelV (o.getD .non) w'->Q w' s'):
  wpAny (model X.prog X.w) A (call (.builtin "dict.get") [.ref a,u]) Q E s:=by
 rcases g with ⟨kvs,k,e,ey,l⟩|⟨kvs,k,b,e,ey,eb,l⟩
 ·subst ey
  obtain ⟨z,hd,vs,rel,dd⟩:=gz I.hok e;refine call_meetsIn Io dd.typeIs Ja (KY _ _) (meets_dict_get (bq X.prog X.w) a (gX ry) hd) ⟨_,dd.mapOf,h _ _ (I.tok _) ?_⟩;rw [l];exact (rel.val k).getD rfl
 ·subst ey
  cases (show u=Hb b from ry);obtain ⟨z,hd,xs,rel,dd⟩:=iD I.hok e;refine call_meetsIn Io dd.typeIs Ja (KY _ _) (meetsH_dict_get (tupleKind (bq X.prog X.w)) a b hd) ⟨tupleKind_room_in1 hu,k,xs,gb I.hok eb,dd,h _ _ (I.tok _) ?_⟩;rw [l];exact (rel.val k).getD rfl
theorem CY{Q:Value->Shared->Prop}(hu:A.units+1<cLine)(I:Inv X pins σ H s)(g:DGet H a y o)(ry:RelV y u)(rd:RelV d r)(h:∀w' s',Inv X pins σ H s'->RelV (o.getD d) w'->Q w' s'):
  wpAny (model X.prog X.w) A (call (.builtin "dict.get") [.ref a,u,r]) Q E s:=by
 rcases g with ⟨kvs,k,e,ey,l⟩|⟨kvs,k,b,e,ey,eb,l⟩
 ·subst ey
  obtain ⟨z,hd,vs,rel,dd⟩:=gz I.hok e;refine call_meetsIn Io dd.typeIs Ja (KW _ _ _) (meets_dict_get_default (bq X.prog X.w) a (gX ry) hd r) ⟨_,dd.mapOf,h _ _ (I.tok _) ?_⟩;rw [l];exact (rel.val k).getD rd
 ·subst ey
  cases (show u=Hb b from ry);obtain ⟨z,hd,xs,rel,dd⟩:=iD I.hok e;refine call_meetsIn Io dd.typeIs Ja (KW _ _ _) (meetsH_dict_get_default (tupleKind (bq X.prog X.w)) a b hd r) ⟨tupleKind_room_in1 hu,k,xs,gb I.hok eb,dd,h _ _ (I.tok _) ?_⟩;rw [l];exact (rel.val k).getD rd
end
def Cz(td ty:TE):TE:=fun σ H Q=>td σ H fun x H1=>∃a,x=.ref a/\IsD H1 a/\ty σ H1 fun y H2=>∃o,DGet H2 a y o/\Q (o.getD .non) H2
def Em(td ty tx:TE):TE:=fun σ H Q=>td σ H fun x H1=>∃a,x=.ref a/\IsD H1 a/\ty σ H1 fun y H2=>tx σ H2 fun z H3=>∃o,DGet H3 a y o/\Q (o.getD z) H3
section
variable {X:Cx}{o e f:Expr}{apos cpos:Pos}{td ty tx:TE}
theorem wX(hu:X.A.units+1<cLine)(ho:PE X o td)(he:PE X e ty)(m:M1 X o "get" apos e cpos):PE X (.Call (.Attribute o "get" apos) [e] [] cpos) (Cz td ty):=by
 intro pins s σ H Q I h;refine wpAny_Call_method m.base m.few m.line JT Io Lh (thn (ho pins s σ H _ I h) fun u s1 ⟨x,H1,I1,rx,a,ex,d,q1⟩=>?_);subst ex;obtain rfl:u=Hb a:=rx;obtain ⟨t1,t2,_⟩:=vn I1 d;refine ⟨t1,t2,?_⟩;rw [m.trees];refine Il rfl (IP (ID (thn (he pins s1 σ H1 _ I1 q1) fun iv s2 ⟨y,H2,I2,ry,ov,g,q2⟩=>Jc ?_)));exact BO hu I2 g ry fun w' s3 I3 rw'=>⟨_,H2,I3,rw',q2⟩
theorem xm(hu:X.A.units+1<cLine)(ho:PE X o td)(he:PE X e ty)(hf:PE X f tx)(m:M2 X o "get" apos e f cpos):PE X (.Call (.Attribute o "get" apos) [e,f] [] cpos) (Em td ty tx):=by
 intro pins s σ H Q I h;refine wpAny_Call_method m.base m.few m.line JT Io Lh (thn (ho pins s σ H _ I h) fun u s1 ⟨x,H1,I1,rx,a,ex,d,q1⟩=>?_);subst ex;obtain rfl:u=Hb a:=rx;obtain ⟨t1,t2,_⟩:=vn I1 d;refine ⟨t1,t2,?_⟩;rw [m.trees];refine Il rfl (IP (ID (thn (he pins s1 σ H1 _ I1 q1) fun iv s2 ⟨y,H2,I2,ry,q2⟩=>
  ID (thn (hf pins s2 σ H2 _ I2 q2) fun fv s3 ⟨z,H3,I3,rz,ov,g,q3⟩=>Jc ?_))))
 exact CY hu I3 g ry rz fun w' s4 I4 rw'=>⟨_,H3,I4,rw',q3⟩
end
section
variable {X:Cx}{pins:List (Addr×Obj)}{σ:St}{H:Hp}{s:Shared}{a:Addr}{kvs:List (aP×V)}{A:Around}{E:Value->Shared->Prop}
end
section
variable {X:Cx}{pins:List (Addr×Obj)}{σ:St}{H:Hp}{s:Shared}{a:Addr}{y:V}{u:Value}{A:Around}{E:Value->Shared->Prop}
end
end L2
namespace Att
open PySem PySem.W PySem.Calls PyProof.Rows
theorem iJ{P:Params}{h:Heap}:∀(ns:List Int) (vs:List Value),WellAll P h vs (ns.map WData.int)->IntsAre vs ns:=by
 intro ns
 induction ns with
 |nil=>
  intro vs w;rw [HL] at w;cases w;exact .nil
 |cons n ns ih=>
  intro vs w;rw [GR] at w;cases w with
  |cons a b=>
   cases a;exact .cons _ _ (ih _ b)
theorem uc{l:OpenLaw}{n:Nat}(hn:l.most=some n){P:Params}{h:Heap}{args:List WData}{vals:List Value}
  (hpre:l.row.toRowW.claim.pre args=true) (hwl:WellAll P h vals args):
  ∃a vs ns,vals=[Hb a]/\args=[WData.list (ns.map WData.int)]/\h.get? a=some { cls:=.type "list",data:=.seq vs.toArray }/\IntsAre vs ns/\ns.length<=n:=by
 have hsh:WShape.hasAll [] args [.list .int]=true:=(pre_splitW hpre).1;have hc:l.pre.holds [] { args:=args }=true:=(pre_splitW hpre).2;obtain ⟨d,r,rfl,h1,h2⟩:=hasAllW_cons hsh;obtain rfl:=hasAllW_nil h2;obtain ⟨xs,rfl,h3⟩:=hasW_list h1;obtain ⟨ns,rfl⟩:=items_int h3;have hlen:ns.length<=n:=by
  unfold OpenLaw.pre at hc;have h4:(WTm.not (.lt (.lit (.int (n:Int))) (.len (.arg 0)))).holds [] { args:=[.list (ns.map .int)] }=true:=by
   have h4:=(holds_andW hc).1;rw [hn] at h4;exact h4
  have h5:=condW_of h4 (w_not (w_lt w_lit (w_len_list (w_arg rfl))));rw [GF] at h5;refine Nat.le_of_not_lt fun q=>?_;have q':(n:Int)<((ns.length:Nat):Int):=by lia
  first
   |(rw [decide_eq_true q'] at h5;exact absurd h5 (by decide))
   |(simp at h5;lia)
 cases hwl with
 |cons w1 w2=>
  cases w2;cases w1 with
  |list ho hall=>exact ⟨_,_,ns,rfl,rfl,ho,iJ ns _ hall,hlen⟩
theorem ue(l:OpenLaw)(args:List WData):l.row.toRowW.claim.post args (.bool true) args=true:=
 postW_of (r:=l.row.toRowW) (X:=(true==true))
  (show WShape.has [] (.bool true) .bool=true by first|rfl|decide|simp [WShape.has,WShape.arms,WShape.armsAll])
  (show (WTm.eq .res (.lit (.bool true))).value [] { args:=args,res:=some (.bool true),after:=args }=some (.bool (true==true)) from w_eq_bool (w_res rfl) w_lit) rfl
theorem nE{l:OpenLaw}{n:Nat}{q:Program}{loose:List Str}{XP:(Str->Option Value)->Heap->Prop}{YP:World->Heap->Prop}{d:DefRec}
  (hn:l.most=some n) (hdf:d.params.defaults=[])
  (call:∀(w:World) (s₀ s₁:Shared) (mg mb:Str->Option Value) (fa:Addr) (o:Obj) (pm cd doc:Value) (a:Addr) (vs:List Value) (ns:List Int),
   Ground q loose [] XP w s₀ mg mb s₁.heap->YP w s₁.heap->
   s₁.heap.get? fa=some o->o.data=.func (docDef d.name d.params d.body d.scope pm cd doc)->s₁.heap.CodeRec cd d.name->mg d.name=some (.ref fa)->
   s₁.heap.get? a=some { cls:=.type "list",data:=.seq vs.toArray }->IntsAre vs ns->ns.length<=n->s₁.gens=#[]->
   codeAny (model l.prog w) callerA (.call (.ref fa) ⟨[.ref a],[]⟩) (fun r s'=>r=.ok (.ret (.bool true))/\OldK s₁.heap s'.heap/\s'.os=s₁.os/\AllBare s'.gens) s₁):
  WalkO q loose XP YP l.row.toRowW d [] (fun f vs=>L9 f vs):=by
 intro w s₀ s₁ mg mb G Y fa o pm cd doc dV kV ho hd hcd hD hmg hg args vals as hpre hlay hrd hwl hlo;obtain rfl:dV=.none:=Dflts.none hD hdf;obtain rfl:kV=.none:=Dflts.noKw hD;obtain ⟨a,vs,ns,rfl,rfl,hobj,hints,hlen⟩:=uc hn hpre hwl;refine enter_call (codeAny_mono (call w s₀ s₁ mg mb fa o pm cd doc a vs ns G Y ho (fd_plain hd) hcd hmg hobj hints hlen hg) fun r s' hq=>?_);obtain ⟨rfl,h2,h3,h4⟩:=hq;exact ⟨.inl ⟨.bool true,.bool true,[],rfl,fun _=>rfl,.bool true,ue l _,fun _=>⟨List.Pairwise.nil,fun _ hm=>(nomatch hm)⟩⟩,h2,h3,h4⟩
section
variable {prog:Program}{w:World}{A:Around}{E:Value->Shared->Prop}{s:Shared}{K:Frag}
end
end Att
namespace L2
open PySem PySem.Spec PyProof.Rows
theorem kG:∀{vs:List Value} {ns:List Int},IntsAre vs ns->Vals (ns.map V.int) vs
 |_,_,.nil=>.nil
 |_,_,.cons n t h=>.cons ⟨t,rfl⟩ (kG h)
def x_(H:Hp):Prop:=∀b,H b=none\/∃o xs,H b=some (.frz o (.lst xs))
theorem vP{P:Program}{w:World}{K:GH}{mg mb:Str->Option Value}{CX:pf}{k:Nat}{fa a:Addr}{fd:FuncData}{x:Str}{sp:Sp}{s₁:Shared}{vs:List Value}{ns:List Int}
  (KX:K.In s₁.heap) (hns:s₁.heap.Ns mainGlobals mg) (hb:s₁.heap.Ns builtinsNs mb) (hbb:∀x:Str,x≠"__name__"->mb x=bootBuiltins x) (hlim:s₁.heap.NoLimit) (hg:s₁.gens=#[])
  (ha:s₁.heap.get? a=some { cls:=.type "list",data:=.seq vs.toArray }) (hi:IntsAre vs ns) (hl:ns.length<=sizeLine) (hr:Room k callerA)
  (F:∀base:Heap,K.In base->base.Ns mainGlobals mg->FnOk P w K mg base CX k fa fd [x] sp) (hbind:∀(s:Shared) (u:Value),BindsTo s fd ⟨[u],[]⟩ [(x,u)])
  (hsp:∀H:Hp,x_ H->SqL K H a (ns.map V.int)->sp [.ref a] H (fun v _=>v=.bl true) fun _ _ _=>False)
  (hCX:∀H e s',CX [] H s₁ (fun _ _ _=>False) e s'->False):
  codeAny (model P w) callerA (.call (.ref fa) ⟨[.ref a],[]⟩) (fun r s'=>r=.ok (.ret (.bool true))/\OldK s₁.heap s'.heap/\s'.os=s₁.os/\AllBare s'.gens) s₁:=by
 have rv:=kG hi;have lenV:=hi.length
 -- from an abstract heap in which nothing but the script may be tracked
 have core:∀H:Hp,x_ H->SqL K H a (ns.map V.int)->HOk P w H s₁.heap->(∀b,H b≠none->b=a)->(H a≠none->K.lookup a=none)->
   codeAny (model P w) callerA (.call (.ref fa) ⟨[.ref a],[]⟩) (fun r s'=>r=.ok (.ret (.bool true))/\OldK s₁.heap s'.heap/\s'.os=s₁.os/\AllBare s'.gens) s₁:=by
  intro H hO hS hok hA hK;have base_of:∀{b:Addr} {o:Obj},s₁.heap.get? b=some o->H b=none->(lZ s₁.heap H).get? b=some o:=fun e n=>vC e n;have noA:∀{b:Addr} {o:Obj} {es:Array DictEntry} {ep:Nat},s₁.heap.get? b=some o->o.data=.dict es ep->H b=none:=fun {b o es ep} e d=>by
   cases q:H b with
   |none=>rfl
   |some u=>
    have e':b=a:=hA b (by rw [q];simp)
    subst e';rw [ha] at e;cases e;have d':Data.seq vs.toArray _=Data.dict es ep:=d;cases d'
  have nsK:∀{b:Addr} {m:Str->Option Value},s₁.heap.Ns b m->(lZ s₁.heap H).Ns b m:=fun {b m} ⟨o,es,ep,e,d,r⟩=>⟨o,es,ep,base_of e (noA e d),d,r⟩;have hKb:K.In (lZ s₁.heap H):=fun b o e=>base_of (KX b o e) (by
   cases q:H b with
   |none=>rfl
   |some u=>
    have e':b=a:=hA b (by rw [q];simp)
    subst e';rw [hK (by rw [q];simp)] at e;cases e)
  have hM:Mod K mg (lZ s₁.heap H):=⟨hKb,nsK hns,⟨mb,nsK hb,hbb⟩,let ⟨mc,h1,h2⟩:=hlim;⟨mc,nsK h1,h2⟩⟩;have e0:Env0 P w K mg (lZ s₁.heap H) callerA [] s₁ H:=⟨rfl,hM,fun b o e=>Ab e,Nat.le_of_eq (uD _ _),trivial,fun b hb=>absurd (show b∈([]:List Addr) from hb) (by simp),hok,.of_eq hg⟩
  refine codeAny_mono ((F _ hKb (nsK hns)).run callerA [] s₁ H ⟨[.ref a],[]⟩ [.ref a] [.ref a] _ _ hr e0 (hbind s₁ (.ref a)) (.cons rfl .nil) (hsp H hO hS)) fun r s' h=>?_;cases r with
  |error e=>exact (hCX H e s' h).elim
  |ok fl=>
   cases fl with
   |next=>exact HM h
   |brk=>exact HM h
   |cont=>exact HM h
   |ret u=>
    obtain ⟨v,H',os,bare,un,hok',r',q⟩:=h;have q':v=.bl true:=q;subst q';obtain rfl:u=IM true:=r';refine ⟨rfl,OldK.of_keep fun b o e=>?_,os,bare⟩;cases q:H b with
    |none=>exact un.keep b o e q (by intro z;exact absurd (show b∈([]:List Addr) from z) (by simp)) (by simp)
    |some u=>
     rcases hO b with z|⟨ob,xs,z⟩
     ·rw [q] at z;cases z
     ·have z2:=un.frzs b ob _ z
      obtain ⟨e1,_⟩:=hok b _ z;obtain ⟨e2,_⟩:=hok' b _ z2;rw [e] at e1;cases e1;exact e2
 cases hk:K.lookup a with
 |some o=>
  -- the script is one of the module's own objects
  have e:=KX a o hk;rw [ha] at e;cases e;refine core (fun _=>none) (fun _=>.inl rfl) (.inr ⟨_,vs.toArray,_,hk,rfl,rfl,rfl,by rw [GJ,lenV];exact hl,by simpa using rv⟩) (fun b u z=>by have z':(none:Option HO)=some u:=z;cases z') (fun b z=>absurd rfl z) fun z=>absurd rfl z
 |none=>
  refine core (fun b=>if b=a then some (.frz { cls:=.type "list",data:=.seq vs.toArray } (.lst (ns.map V.int))) else none) (fun b=>?_) (.inl (.inr ⟨{ cls:=.type "list",data:=.seq vs.toArray },if_pos rfl⟩)) (fun b u z=>?_) (fun b z=>?_) fun _=>hk
  ·by_cases hb:b=a
   ·exact .inr ⟨_,_,if_pos hb⟩
   ·exact .inl (if_neg hb)
  ·by_cases hb:b=a
   ·have z':=(if_pos hb).symm.trans z
    cases z';subst hb;exact ⟨ha,by rw [GF];exact hl,vs,_,rv,ha⟩
   ·have z':=(if_neg hb).symm.trans z
    cases z'
  ·by_cases hb:b=a
   ·exact hb
   ·exact absurd (if_neg hb) z
end L2
namespace L2
open PySem PySem.Spec PyProof.Rows
theorem AH{l:W.OpenLaw}{n k:Nat}{q:Program}{loose:List Str}{XP:(Str->Option Value)->Heap->Prop}{YP:World->Heap->Prop}{d:DefRec}{K:Params->GH}{CX:World->pf}{sp:World->Sp}{x:Str}
  (hn:l.most=some n) (hn2:n<=sizeLine) (hdf:d.params.defaults=[]) (hr:Room k callerA)
  (hY:∀(w:World) (h:Heap),YP w h->(K w.params).In h)
  (F:∀(w:World) (mg:Str->Option Value) (fa:Addr) (h:Heap),(K w.params).In h->h.Ns mainGlobals mg->mg d.name=some (.ref fa)->
   ∃fd:FuncData,(∀(s:Shared) (u:Value),BindsTo s fd ⟨[u],[]⟩ [(x,u)])/\
    ∀base:Heap,(K w.params).In base->base.Ns mainGlobals mg->FnOk l.prog w (K w.params) mg base (CX w) k fa fd [x] (sp w))
  (hsp:∀(w:World) (H:Hp) (a:Addr) (ns:List Int),ns.length<=n->x_ H->SqL (K w.params) H a (ns.map V.int)->sp w [.ref a] H (fun v _=>v=.bl true) fun _ _ _=>False)
  (hCX:∀(w:World) (H:Hp) (s:Shared) (e:Value) (s':Shared),CX w [] H s (fun _ _ _=>False) e s'->False):
  W.WalkO q loose XP YP l.row.toRowW d [] (fun f vs=>L9 f vs):=by
 refine Att.nE hn hdf fun w s₀ s₁ mg mb fa o pm cd doc a vs ns G Y ho hd hcd hmg hobj hints hlen hg=>?_;have KX:=hY w _ Y;obtain ⟨fd,hb,hF⟩:=F w mg fa _ KX G.T.g hmg;exact vP KX G.T.g G.T.b G.T.builtins G.T.nolimit hg hobj hints (Hd hlen hn2) hr hF hb (fun H hO hS=>hsp w H a ns hlen hO hS) fun H e s'=>hCX w H s₁ e s'
end L2
namespace L2
open PySem PySem.Spec PyProof.Rows
def fG(s:Stmt)(j:Nat):Stmt:=match s with
 |.ClassDef _ _ _ body _ _ _ _ _ _ _=>body.getD j (.Pass ⟨0,0,0,0⟩)
 |_=>.Pass ⟨0,0,0,0⟩
def fK(s:Stmt):Arguments:=match s with
 |.FunctionDef _ a _ _ _ _ _ _ _ _=>a
 |_=>{ posonlyargs:=[],args:=[],vararg:=none,kwonlyargs:=[],kw_defaults:=[],kwarg:=none,defaults:=[] }
def eW(s:Stmt):List Stmt:=match s with
 |.FunctionDef _ _ b _ _ _ _ _ _ _=>b
 |_=>[]
def az(s:Stmt):Scope:=match s with
 |.FunctionDef _ _ _ _ _ _ sc _ _ _=>sc
 |_=>{ kind:=.function,names:=[],isGenerator:=false,isCoroutine:=false }
abbrev CX0:pf:=fun _ _ _ _ _ _=>False
abbrev E0:XK:=fun _ _ _=>False
structure Fun(K:GH)(x qual:Str)(st:Stmt)(f:Addr)(fd:FuncData):Prop where
 ex:∃(oc:Value) (od:Option Addr) (kV doc pm:Value) (an:Option Addr) (cdv ct:Value) (osl:Array (Option Value)),
  fd=KL x qual (fK st) (eW st) (az st) .none kV doc pm an cdv ct/\K.lookup f=some ⟨oc,od,.func fd,osl⟩/\W.codeIn K cdv qual=true
 kp:GV K (.ref f)=true
section
variable {P:Program}{w:World}{K:GH}{mg:Str->Option Value}{base:Heap}
theorem Fun.binds{x qual:Str}{st:Stmt}{f:Addr}{fd:FuncData}{ps:List Str}(F:Fun K x qual st f fd)
  (h:∀(kV doc pm:Value) (an:Option Addr) (cdv ct:Value) (us:List Value),us.length=ps.length->bindArgs (KL x qual (fK st) (eW st) (az st) .none kV doc pm an cdv ct) ⟨us,[]⟩=pure (ps.zip us)):Binds K fd ps []:=by
 obtain ⟨oc,od,kV,doc,pm,an,cdv,ct,osl,rfl,lk,hcd⟩:=F.ex;exact .all (h kV doc pm an cdv ct)
theorem v7{x qual:Str}{st:Stmt}{f:Addr}{oc:Value}{od an:Option Addr}{osl:Array (Option Value)}{kV doc pm cdv ct:Value}(l:K.lookup f=some ⟨oc,od,.func (KL x qual (fK st) (eW st) (az st) .none kV doc pm an cdv ct),osl⟩)
  (c:W.codeIn K cdv qual=true) (k:GV K (.ref f)=true):Fun K x qual st f (KL x qual (fK st) (eW st) (az st) .none kV doc pm an cdv ct):=⟨⟨oc,od,kV,doc,pm,an,cdv,ct,osl,rfl,l,c⟩,k⟩
end
theorem bi{A:Around}{k:Nat}(hr:Room k A):A.units+1<cLine:=Nat.lt_of_le_of_lt (Nat.add_le_add_left (by decide:1<=64) _) hr.units
section
variable {X:Cx}
theorem uY:cA X (.builtin "len") (fun xs H Q=>∃a kvs,xs=[V.ref a]/\H a=some (.dK kvs)/\Q (.int kvs.length) H):=by
 intro pins s σ H xs us Q I r h;obtain ⟨a,kvs,rfl,ha,q⟩:=h;obtain ⟨u,rfl,ru⟩:=gn r;cases ru;exact Fb I (.inl ha) fun t s' I'=>⟨.int kvs.length,H,I',⟨t,rfl⟩,q⟩
end
section
variable {κ:Type}[DecidableEq κ]
end
end L2
namespace L2
open PySem PySem.Spec PyProof.Rows
section
variable {prog:Program}{w:World}{A:Around}{R:Result->Shared->Prop}{s:Shared}
theorem m8{elt target iter:Expr}{ifs:List Expr}{scope:Scope}{pos:Pos}{it acc:Value}{env:Env}(I:Nat->Shared->Prop)
  (turn:∀n s,I n s->wpAny (model prog w) A (pyNext it) (fun r s₁=>match r with
   |none=>R (.ok .next) s₁
   |some v=>wpAny (model prog w) A (letOwnedTupleGo target it v) (fun _ s₂=>wpAny (model prog w) A (assign target env v) (fun _ s₃=>
     wpAny (model prog w) A (forIn ifs true fun c r=>if r=true then do let ok <- isTrue c env (eval c env);pure (JH ok) else pure (JH r)) (fun ok s₄=>
      if ok=true then wpAny (model prog w) A (eval elt env) (fun x s₅=>
       wpAny (model prog w) A (call (.builtin "list.append") [acc,x]) (fun _ s₆=>∃m,m<n/\I m s₆) (fun _ _=>False) s₅) (fun _ _=>False) s₄
      else ∃m,m<n/\I m s₄) (fun _ _=>False) s₃) (fun _ _=>False) s₂) (fun _ _=>False) s₁) (fun _ _=>False) s)
  (n:Nat) (h:I n s):
  codeAny (model prog w) A (.compLoop (.ListComp elt [⟨target,iter,ifs,0⟩] scope pos) 0 it acc env) R s:=by
 refine codeAny_loop rfl I (fun n s hI=>?_) n h;show wpAny _ A ((compTurn (.ListComp elt [⟨target,iter,ifs,0⟩] scope pos) 0 it acc env).onRaise (fun x=>do noteFrame x env;theTreesLotGoes x)) _ _ s
 refine wpAny_noted ?_;rw [compTurn_list];refine wpAny_bind (wpAny_standAt (wpAny_bind (wpAny_mono (turn n s hI) (fun r s₁ h₁=>?_) fun _ _ z=>z.elim)));cases r with
 |none=>exact wpAny_pure h₁
 |some v=>
  refine wpAny_bind (wpAny_mono h₁ (fun _ s₂ h₂=>wpAny_bind (wpAny_mono h₂ (fun _ s₃ h₃=>wpAny_bind (wpAny_mono h₃ (fun ok s₄ h₄=>?_) fun _ _ z=>z.elim)) fun _ _ z=>z.elim)) fun _ _ z=>z.elim);cases ok with
  |false=>exact wpAny_pure ⟨rfl,h₄⟩
  |true=>
   exact wpAny_bind (wpAny_bind (wpAny_mono h₄ (fun x s₅ h₅=>wpAny_bind (wpAny_mono h₅ (fun _ s₆ h₆=>wpAny_pure (wpAny_pure ⟨rfl,h₆⟩)) fun _ _ z=>z.elim)) fun _ _ z=>z.elim))
end
def cq(X:Cx)(N:List Str)(scope:Scope)(cl:List (Str×Addr))(C:Addr)(s₀:Shared)(H₀:Hp)(fp:List Addr)(pl:List (Addr×Obj)):Cx where
 prog:=X.prog
 w:=X.w
 K:=X.K
 mg:=X.mg
 base:=X.base
 A:=X.A
 N:=N
 s₀:=s₀
 H₀:=H₀
 env:=compEnvC scope cl C X.env
 outer:=X.stack
 stack:=X.stack
 ex:=fp
 fn:=fun _=>false
 calm:=X.calm
 pn:=X.pn++pl
 xe:=fun _ _=>False
inductive Frees(X:Cx)(scope:Scope):List Str->List Nat->Prop where
 |nil:Frees X scope [] []
 |cons {x:Str} {j:Nat} {xs:List Str} {js:List Nat}:X.N[j]?=some x->(X.env.kindOf x=some .cell\/X.env.kindOf x=some .free)->
   ((relabel scope X.env).names.lookup x=some .cell\/(relabel scope X.env).names.lookup x=some .free)->Frees X scope xs js->Frees X scope (x::xs) (j::js)
theorem Frees.length{X:Cx}{scope:Scope}:∀{xs:List Str} {js:List Nat},Frees X scope xs js->xs.length=js.length
 |_,_,.nil=>rfl
 |_,_,.cons _ _ _ t=>congrArg (·+1) t.length
theorem Frees.get{X:Cx}{scope:Scope}:∀{xs:List Str} {js:List Nat},Frees X scope xs js->∀{i:Nat} {x:Str},xs[i]?=some x->∃j,js[i]?=some j/\X.N[j]?=some x/\(X.env.kindOf x=some .cell\/X.env.kindOf x=some .free)/\
   ((relabel scope X.env).names.lookup x=some .cell\/(relabel scope X.env).names.lookup x=some .free)
 |_,_,.nil,i,x,h=>by simp at h
 |_,_,.cons a b c _,0,x,h=>by simp at h;subst h;exact ⟨_,rfl,a,b,c⟩
 |_,_,.cons _ _ _ t,i+1,x,h=>by
  obtain ⟨j,h1,h2⟩:=t.get (i:=i) (x:=x) (by simpa using h)
  exact ⟨j,by simpa using h1,h2⟩
def cZ(ls:List Str)(js:List Nat)(σ:St):St:=ls.map (fun _=>none)++js.map fun j=>(σ[j]?).join
structure CompOk(X:Cx)(scope:Scope)(cl:List (Str×Addr))(ls fs:List Str)(js:List Nat):Prop where
 kind:scope.kind=.function
 nocell:∀y∈scope.names,y.2≠.cell
 locs:∀x∈scope.names,x.2=.local->scope.names.lookup x.1=some .local
 clos:closureFor scope X.env=pure cl
 cells:∀x c,cl.lookup x=some c->X.env.cells.lookup x=some c
 has:∀x,((relabel scope X.env).names.lookup x=some .cell\/(relabel scope X.env).names.lookup x=some .free)->∃c,cl.lookup x=some c
 frees:Frees X scope fs js
theorem xc{X:Cx}{pins:List (Addr×Obj)}{σ:St}{H:Hp}{s:Shared}{scope:Scope}{cl:List (Str×Addr)}{ls fs:List Str}{js:List Nat}{fp:List Addr}{h₁:Heap}{m:Str->Option Value}{t':Nat}
  (I:Inv X pins σ H s) (co:CompOk X scope cl ls fs js) (hfp:∀b∈fp,ig X pins H b/\b<s.heap.objs.size) (hns:h₁.Ns s.heap.objs.size m) (hk:∀b o,s.heap.get? b=some o->h₁.get? b=some o):
  Inv (cq X (ls++fs) scope cl s.heap.objs.size s H fp pins) [] (cZ ls js σ) H { s with heap:=h₁,toks:=t' }:=by
 have lk:∀b o,s.heap.get? b=some o->b≠s.heap.objs.size:=fun b o e=>GW (GL e);refine ⟨⟨I.ok.mod,co.kind,I.ok.glob,I.ok.blt,GO _,fun x y c h1 h2=>?_,fun x hx=>co.has x hx,fun x c h _=>absurd (show false=true from h) GY,I.ok.hd,I.ok.frames,.inl rfl,fun b hb=>⟨GW (hfp b hb).2,fun x c e=>?_⟩,
   fun b o e=>I.bs b o e,Hd I.ok.bsz I.sz,fun b o e hb=>?_,fun b hb hf=>?_,I.stack,fun b hb=>I.stkFree b hb⟩,
  rfl,I.bare,Un.kept hk,⟨m,hns,fun i x v h1 h2 h3=>?_⟩,fun x c e=>?_,I.hok.fresh (GO _),fun x c e=>I.freeC x c (co.cells x c e),fun p hp=>?_,I.hok.kept hk,?_⟩
 ·exact I.ok.inj x y c (co.cells x c h1) (co.cells y c h2)
 ·exact (hfp b hb).1.2.2.2.2.1 x c (co.cells x c e)
 ·obtain ⟨f0,f1,f2,f3,_⟩:=(hfp b hb).1
  rcases f3 with z|z
  ·exact I.ok.noex b o e z
  ·exact absurd (GS (GL (I.ok.bs b o e).1) z) (HJ _)
 ·obtain ⟨f0,f1,f2,f3,_⟩:=(hfp b hb).1
  rcases Hq.mp (I.stkSub b hf) with z|z
  ·exact f1 z
  ·exact f2 z
 ·have hi:¬i<ls.length:=fun hi=>by
   have h2':(cZ ls js σ)[i]?=some (some v):=h2;unfold cZ at h2';rw [HV (by simpa using hi),GU,GG hi] at h2'
   cases h2'
  have hN:fs[i-ls.length]?=some x:=by
   have h1':(ls++fs)[i]?=some x:=h1
   rwa [HR (by lia)] at h1'
  obtain ⟨j,hj,hx,hc,hl⟩:=co.frees.get hN;have hσ:σ[j]?=some (some v):=by
   have h2':(cZ ls js σ)[i]?=some (some v):=h2;unfold cZ at h2';rw [HR (by simpa using hi),GF,GU,hj] at h2'
   have q:(σ[j]?).join=some v:=by simpa using h2'
   cases e:σ[j]? with
   |none=>rw [e] at q;cases q
   |some o=>rw [e] at q;have q':o=some v:=q;rw [q']
  obtain ⟨mX,_,hlX⟩:=I.loc;have vis:EH X.env.scope x:=by
   rcases hc with z|z
   ·exact .inr (.inl z)
   ·exact .inr (.inr z)
  obtain ⟨u,ru,lo⟩:=hlX j x v hx hσ vis;refine ⟨u,ru,.inr ⟨hl,?_⟩⟩;obtain ⟨c,ec⟩:=co.has x hl;refine ⟨c,ec,?_⟩;rcases lo with ⟨kl,_⟩|⟨_,c',e',z⟩
  ·rcases hc with q|q<;>(rw [q] at kl;cases kl)
  ·rw [co.cells x c ec] at e'
   cases e';obtain ⟨o,ho,hd⟩:=z;exact ⟨o,hk _ _ ho,hd⟩
 ·obtain ⟨v,o,ho,hd⟩:=I.cell x c (co.cells x c e)
  exact ⟨v,o,hk _ _ ho,hd⟩
 ·have hp':p∈X.pn++pins:=by
   have q:p∈(X.pn++pins)++[]:=hp;simpa using q
  obtain ⟨e,n,ne,nf,d⟩:=I.pin p hp';refine ⟨hk _ _ e,n,lk _ _ e,fun hb=>?_,d⟩;rcases Hq.mp (I.stkSub p.1 hb) with z|z
  ·exact ne z
  ·exact nf z
 ·show (cZ ls js σ).length=(ls++fs).length
  unfold cZ;rw [GP,GF,GF,GP,co.frees.length]
def EF(X:Cx)(ifs:List Expr)(t:TT):Prop:=
 ∀(pins:List (Addr×Obj)) (s:Shared) (σ:St) (H:Hp) (Q:Bool->Hp->Prop),Inv X pins σ H s->t σ H Q->
  wpAny (model X.prog X.w) X.A (forIn ifs true fun c r=>if r=true then do let ok <- isTrue c X.env (eval c X.env);pure (JH ok) else pure (JH r)) (TP X pins σ Q) X.xe s
def tAll:TT:=fun _ H Q=>Q true H
theorem Ar{X:Cx}:EF X [] tAll:=fun _ _ _ H _ I h=>wpAny_tests_nil ⟨H,I,h⟩
theorem zQ{X:Cx}{c:Expr}{t:TT}(h:PT X c t):EF X [c] t:=fun pins s σ H Q I q=>wpAny_tests_one (h pins s σ H Q I q)
def Bl(wi:TI)(ls:List Str)(js:List Nat)(g:TG)(tt:TT)(te:TE):TE:=fun σ H Q=>wi σ H fun J H1=>∀p,H1 p=none->∃W:Nat->Nat->St->Hp->Prop,(∃m,W 0 m (cZ ls js σ) (upd H1 p (.lst [])))/\∀i m σ' H',W i m σ' H'->
 (J.stop i H'/\Q (.ref p) H')\/(J.go i H'/\∃N:St->Hp->Prop,(∀σ2 H2,N σ2 H2->∃m',m'<m/\W (i+1) m' σ2 H2)/\∀x H2,J.yld i H' x H2->g x σ' H2 fun σ3 H3=>tt σ3 H3 fun c H4=>
  if c=true then te σ3 H4 fun y H5=>∃ys,H5 p=some (.lst ys)/\ys.length<sizeLine/\N σ3 (upd H5 p (.lst (ys++[y]))) else N σ3 H4)
section
variable {X:Cx}{tg iter elt:Expr}{ifs:List Expr}{scope:Scope}{cl:List (Str×Addr)}{pos:Pos}{ls fs:List Str}{js:List Nat}{wi:TI}{g:TG}{tt:TT}{te:TE}
theorem vo{pins:List (Addr×Obj)}{σ:St}{s2:Shared}{it:Addr}{fp:List Addr}{tn:Nat->Heap->Prop}{J:It}{H1:Hp}{R:Value->Addr->Result->Shared->Prop}{Q:VK}{E:Value->Shared->Prop}(hc:X.calm=true)(co:CompOk X scope cl ls fs js)
  (hY:∀(C:Addr) (s₀:Shared) (H₀:Hp) (fp:List Addr) (pl:List (Addr×Obj)),PG (cq X (ls++fs) scope cl C s₀ H₀ fp pl) tg g/\EF (cq X (ls++fs) scope cl C s₀ H₀ fp pl) ifs tt/\PE (cq X (ls++fs) scope cl C s₀ H₀ fp pl) elt te)
  (I:Inv X pins σ H1 s2) (T:Turn X.prog X.w X.K tg J fp it tn) (st:tn 0 s2.heap) (hf:∀b∈fp,ig X pins H1 b)
  (q:∀p,H1 p=none->∃W:Nat->Nat->St->Hp->Prop,(∃m,W 0 m (cZ ls js σ) (upd H1 p (.lst [])))/\∀i m σ' H',W i m σ' H'->
   (J.stop i H'/\Q (.ref p) H')\/(J.go i H'/\∃N:St->Hp->Prop,(∀σ2 H2,N σ2 H2->∃m',m'<m/\W (i+1) m' σ2 H2)/\∀x H2,J.yld i H' x H2->g x σ' H2 fun σ3 H3=>tt σ3 H3 fun c H4=>
    if c=true then te σ3 H4 fun y H5=>∃ys,H5 p=some (.lst ys)/\ys.length<sizeLine/\N σ3 (upd H5 p (.lst (ys++[y]))) else N σ3 H4))
  (hR:∀(p C:Addr) (H':Hp) (s':Shared) (m:Str->Option Value),s'.heap.Ns C m->Inv X pins σ H' s'->H' C=none->C≠X.env.locals->X.s₀.heap.objs.size<=C->(∀x c,X.env.cells.lookup x=some c->c≠C)->(∀pp∈X.pn++pins,pp.1≠C)->Q (.ref p) H'->R (.ref p) C (.ok .next) s'):
  wpAny (model X.prog X.w) X.A (newList []) (fun acc s₃=>wpAny (model X.prog X.w) X.A (newFunctionEnv scope X.env.globals cl [] X.env.qual none .none (some X.env)) (fun cenv s₄=>
   codeAny (model X.prog X.w) X.A (.compStart (.ListComp elt [⟨tg,iter,ifs,0⟩] scope pos) 0 (.ref it) acc { cenv with scope:=relabel scope X.env }) (R acc cenv.locals) s₄) E s₃) E s2:=by
 have hp0:H1 s2.heap.objs.size=none:=I.hok.fresh (GO _);obtain ⟨W,⟨m0,w0⟩,turn⟩:=q s2.heap.objs.size hp0;refine wpAny_newObj_type (wpAny_newFunctionEnv co.nocell (by intro y hy;simp at hy) (fun h₁ hns₁ hsb₁=>?_) co.kind)
 dsimp only at hns₁ hsb₁ ⊢;have I3:Inv X pins σ (upd H1 s2.heap.objs.size (.lst [])) { s2 with heap:=s2.heap.push { cls:=.type "list",dict:=none,data:=.seq ([]:List Value).toArray } }:=
  I.lnew (its:=[]) (t':=s2.toks) .nil (Hn _)
 generalize hs3:({ s2 with heap:=s2.heap.push { cls:=.type "list",dict:=none,data:=.seq ([]:List Value).toArray } }:Shared)=s3 at I3;have hh3:s2.heap.push { cls:=.type "list",dict:=none,data:=.seq ([]:List Value).toArray }=s3.heap:=by rw [<- hs3]
 rw [hh3] at hns₁ hsb₁ ⊢;have hsz3:s3.heap.objs.size=s2.heap.objs.size+1:=by rw [<- hh3,Hz]
 have hk3:∀b o,s2.heap.get? b=some o->s3.heap.get? b=some o:=fun b o e=>by rw [<- hh3];exact GC _ e
 have hlt:∀b∈fp,b<s2.heap.objs.size:=fun b hb=>by
  obtain ⟨o,e,_⟩:=T.obj _ _ st b hb;exact GL e
 have hnp:∀b∈fp,upd H1 s2.heap.objs.size (.lst []) b=none:=fun b hb=>by
  rw [upd_ne (GW (hlt b hb))];exact (hf b hb).1
 have hf3:∀b∈fp,ig X pins (upd H1 s2.heap.objs.size (.lst [])) b/\b<s3.heap.objs.size:=fun b hb=>⟨⟨hnp b hb,(hf b hb).2⟩,by rw [hsz3];exact Nat.lt_succ_of_lt (hlt b hb)⟩
 have hk4:∀b o,s3.heap.get? b=some o->h₁.get? b=some o:=fun b o e=>hsb₁.extBut b o (GW (GL e)) (GC _ e);have st4:tn 0 h₁:=T.keep _ _ _ st fun b hb o e=>hk4 b o (hk3 b o e);have I4:=xc (t':=s3.toks) I3 co hf3 hns₁ hk4;obtain ⟨hg,ht,he⟩:=hY s3.heap.objs.size s3 (upd H1 s2.heap.objs.size (.lst [])) fp pins;have stat:∀{H':Hp},(∀b∈fp,H' b=none)->∀b∈fp,ig (cq X (ls++fs) scope cl s3.heap.objs.size s3 (upd H1 s2.heap.objs.size (.lst [])) fp pins) [] H' b:=fun {H'} hn b hb=>by
  obtain ⟨f0,f1,f2,f3,f4,f5⟩:=hf b hb;refine ⟨hn b hb,GW (hf3 b hb).2,fun z=>?_,.inl hb,fun x c e=>f4 x c (co.cells x c e),fun pp hp=>f5 pp ?_⟩
  ·rcases Hq.mp (I3.stkSub b z) with y|y
   ·exact f1 y
   ·exact f2 y
  ·have q:pp∈(X.pn++pins)++[]:=hp
   simpa using q
 have loop:∀s₄:Shared,s₄={ s3 with heap:=h₁,toks:=s3.toks }->
   codeAny (model X.prog X.w) X.A (.compLoop (.ListComp elt [⟨tg,iter,ifs,0⟩] scope pos) 0 (.ref it) (.ref s2.heap.objs.size) (compEnvC scope cl s3.heap.objs.size X.env)) (R (.ref s2.heap.objs.size) s3.heap.objs.size) s₄:=by
  rintro s₄ rfl
  refine m8 (fun n s'=>∃i σ' H',Inv (cq X (ls++fs) scope cl s3.heap.objs.size s3 (upd H1 s2.heap.objs.size (.lst [])) fp pins) [] σ' H' s'/\tn i s'.heap/\(∀b∈fp,H' b=none)/\W i n σ' H') ?_ m0 ⟨0,_,_,I4,st4,hnp,w0⟩
  rintro n s5 ⟨i,σ5,H5,I5,st5,fr5,w5⟩
  rcases turn i n σ5 H5 w5 with ⟨stop,qn⟩|⟨go,N,hN,step⟩
  ·refine thn (T.done (cq X (ls++fs) scope cl s3.heap.objs.size s3 (upd H1 s2.heap.objs.size (.lst [])) fp pins) rfl rfl rfl hc i [] s5 σ5 H5 _ I5 (stat fr5) st5 stop) fun r s6 ⟨hr,I6⟩=>?_
   subst hr;obtain ⟨m6,hn6,_⟩:=I6.loc;have IX:Inv X pins σ H5 s6:=I3.call' I6.os I6.base I6.hok I6.bare fun b hb=>⟨(hf b hb).2.2.2.1,(hf b hb).2.1,(hf b hb).2.2.2.2.1,(hf b hb).2.2.2.2.2⟩;refine hR _ _ H5 s6 m6 hn6 IX I6.free (Iv I3.lt) I3.sz (fun x c e z=>?_) (fun pp hp z=>?_) qn
   ·obtain ⟨v,zz⟩:=I3.cell x c e
    have zl:=zz.lt;rw [z] at zl;exact HJ _ zl
   ·have zl:=GL (I3.pin pp hp).1
    rw [z] at zl;exact HJ _ zl
  ·refine thn (T.item (cq X (ls++fs) scope cl s3.heap.objs.size s3 (upd H1 s2.heap.objs.size (.lst [])) fp pins) rfl rfl rfl hc i [] s5 σ5 H5 _ I5 (stat fr5) st5 go) fun r s6 ⟨u,hr,h6⟩=>?_
   subst hr;refine thn h6 fun _ s7 ⟨x,H7,I7,r7,y7,st7,fr7⟩=>?_;have I7':=I7.pinned (stat fr7) (T.obj _ _ st7);refine thn (hg _ s7 σ5 H7 x u _ I7' r7 (step x H7 y7)) fun _ s8 ⟨σ8,H8,I8,q8⟩=>?_
   have again:∀{σ9:St} {H9:Hp} {s9:Shared},Inv (cq X (ls++fs) scope cl s3.heap.objs.size s3 (upd H1 s2.heap.objs.size (.lst [])) fp pins) ([]++jG fp s7.heap) σ9 H9 s9->N σ9 H9->
     ∃m,m<n/\∃i σ' H',Inv (cq X (ls++fs) scope cl s3.heap.objs.size s3 (upd H1 s2.heap.objs.size (.lst [])) fp pins) [] σ' H' s9/\tn i s9.heap/\(∀b∈fp,H' b=none)/\W i m σ' H':=fun {σ9 H9 s9} I9 n9=>by
    obtain ⟨m',hm,w9⟩:=hN σ9 H9 n9;refine ⟨m',hm,i+1,σ9,H9,I9.unpinned,T.keep _ _ _ st7 fun b hb o e=>(I9.pin (b,o) (Ho _ (Ho _ (eQ hb e)))).1,fun b hb=>?_,w9⟩;obtain ⟨o,e,d⟩:=T.obj _ _ st7 b hb;exact (I9.pin (b,o) (Ho _ (Ho _ (eQ hb e)))).2.1
   refine thn (ht _ s8 σ8 H8 _ I8 q8) fun ok s9 ⟨H9,I9,q9⟩=>?_;cases ok with
   |false=>exact again I9 q9
   |true=>
    refine thn (he _ s9 σ8 H9 _ I9 q9) fun xv s10 ⟨y,H10,I10,r10,ys,hp,hl,n10⟩=>?_;obtain ⟨z,its,n',r,hl',e⟩:=I10.lstM hp;refine call_meets HB ⟨_,e,rfl⟩ F.entry_list_append (F.args_list_append_2 _ _) (Mh s2.heap.objs.size its.toArray n' xv (by rw [GJ];lia)) ⟨e,?_⟩
    refine again (I10.lset (its':=its++[xv]) hp e (by simp) (r.append (.cons r10 .nil)) ?_) n10
    rw [GP,JZ];lia
 have se:({ s2 with heap:=h₁,toks:=s2.toks+([]:List (Str×Value)).length }:Shared)={ s3 with heap:=h₁,toks:=s3.toks }:=by rw [<- hs3];rfl
 exact codeAny_compStart_list (loop _ se) (T.self _ 0 _ _ _ st4 (loop _ se))
theorem zI(hc:X.calm=true)(co:CompOk X scope cl ls fs js)(hi:PI X tg iter wi)
  (hY:∀(C:Addr) (s₀:Shared) (H₀:Hp) (fp:List Addr) (pl:List (Addr×Obj)),PG (cq X (ls++fs) scope cl C s₀ H₀ fp pl) tg g/\EF (cq X (ls++fs) scope cl C s₀ H₀ fp pl) ifs tt/\PE (cq X (ls++fs) scope cl C s₀ H₀ fp pl) elt te)
  (hs:∀x,foldedSetIterable iter X.env x=pure x:=by intro _;rfl):PE X (.ListComp elt [⟨tg,iter,ifs,0⟩] scope pos) (Bl wi ls js g tt te):=by
 intro pins s σ H Q I h;rw [eval_ListComp];refine wpAny_comprehension_free (use:=none) rfl hs co.clos co.kind co.locs (thn (hi pins s σ H _ I h) fun xv s1 h1=>thn h1 fun itv s2 h2=>?_);obtain ⟨it,fp,tn,J,H2,e,I2,T,st2,f2,q⟩:=h2;subst e;refine vo (R:=fun acc C=>compPost (model X.prog X.w) X.A X.xe none (EP X pins σ Q) acc C) (Q:=Q) hc co hY I2 T st2 f2 q ?_;intro p C H' s' m hn IX hC hL hge hcell hpin hq;exact ⟨m,hn,fun h' sb=>⟨.ref p,H',IX.turned (t':=s'.toks) (fun b o hb e=>sb.extBut b o hb e) hC hL (.inr hge) hcell hpin,rfl,hq⟩⟩
end
end L2
namespace L2
open PySem PySem.Spec PyProof.Rows
def SrcTn(b:Bool)(it a:Addr)(i:Nat)(h:Heap):Prop:=if b=true then h.IsListIter it a i else h.IsTupleIter it a i
def SrcSq(b:Bool)(h:Heap)(a:Addr)(items:Array Value):Prop:=if b=true then h.IsList a items else h.IsTuple a items
theorem SrcTn.lt{b:Bool}{it a:Addr}{i:Nat}{h:Heap}(x:SrcTn b it a i h):∃o,h.get? it=some o/\∀v,o.data≠.cell v:=by
 cases b with
 |true=>obtain ⟨o,e,c,d⟩:=(show h.IsListIter it a i from x);exact ⟨o,e,fun v z=>by rw [d] at z;cases z⟩
 |false=>obtain ⟨o,e,c,d⟩:=(show h.IsTupleIter it a i from x);exact ⟨o,e,fun v z=>by rw [d] at z;cases z⟩
theorem SrcTn.keep{b:Bool}{it a:Addr}{i:Nat}{h h':Heap}(x:SrcTn b it a i h)(k:∀o,h.get? it=some o->h'.get? it=some o):SrcTn b it a i h':=by
 cases b with
 |true=>obtain ⟨o,e,r⟩:=(show h.IsListIter it a i from x);exact (show h'.IsListIter it a i from ⟨o,k o e,r⟩)
 |false=>obtain ⟨o,e,r⟩:=(show h.IsTupleIter it a i from x);exact (show h'.IsTupleIter it a i from ⟨o,k o e,r⟩)
theorem SrcSq.keep{b:Bool}{a:Addr}{items:Array Value}{h h':Heap}(x:SrcSq b h a items)(k:∀o,h.get? a=some o->h'.get? a=some o):SrcSq b h' a items:=by
 cases b with
 |true=>obtain ⟨o,e,r⟩:=(show h.IsList a items from x);exact (show h'.IsList a items from ⟨o,k o e,r⟩)
 |false=>obtain ⟨o,e,r⟩:=(show h.IsTuple a items from x);exact (show h'.IsTuple a items from ⟨o,k o e,r⟩)
section
variable {prog:Program}{w:World}{A:Around}{E:Value->Shared->Prop}{s:Shared}
theorem gU{it l:Addr}{i:Nat}{items:Array Value}{x:Value}{Q:Value->Shared->Prop}(hit:s.heap.IsTupleIter it l i)(hl:s.heap.IsTuple l items)(hx:items[i]?=some x)
  (hQ:∀h',h'.IsTupleIter it l (i+1)->Im it s.heap h'->Q x { s with heap:=h' }):wpAny (model prog w) A (GZ (.ref it)) Q E s:=by
 obtain ⟨o,ho,hc,hd⟩:=id hit;obtain ⟨ol,hol,_,nl,hdl⟩:=hl;unfold GZ
 refine wpAny_bind (wpAny_callSpecial?_slot (name:=Hy "__next__") hit.typeIs IT
  (wpAny_call_entry IT hit.typeIs Lj ?_ (Ld _)))
 show wpAny _ _ (field (.ref it) 0 >>= _) _ _ s;refine wpAny_bind (wpAny_field ho hd (x:=.ref l) rfl ?_);show wpAny _ _ (if (Hb l==Ic)=true then _ else _) _ _ s
 rw [if_neg (show ¬((Hb l==Ic)=true) from GY)];show wpAny _ _ (field (.ref it) 1 >>= _) _ _ s;refine wpAny_bind (wpAny_field ho hd (x:=.int i 0) rfl ?_);show wpAny _ _ (seqItems? (.ref l) >>= _) _ _ s;refine wpAny_bind (wpAny_seqItems hol hdl ?_);simp only [Ha,hx];refine wpAny_bind (wpAny_setField ho hd (by simp) (wpAny_pure ⟨x,rfl,wpAny_pure (hQ _ ?_ (JJ ..))⟩))
 exact ⟨_,LN _ ho (Obj.isFreed_of_fields (Obj.data_mapFields hd _)),(Obj.cls_mapFields ..).trans hc,by
  rw [Obj.data_mapFields hd];simp [rawInt]⟩
theorem hV{it l:Addr}{i:Nat}{items:Array Value}{Q:Value->Shared->Prop}(hh:A.handled=none)(hit:s.heap.IsTupleIter it l i)(hl:s.heap.IsTuple l items)(hx:items[i]?=none)
  (hE:∀h' e,LZ it s.heap h'->(∃o,h'.get? e=some o/\o.cls=.type "StopIteration")->E (.ref e) { s with heap:=h' }):wpAny (model prog w) A (GZ (.ref it)) Q E s:=by
 obtain ⟨o,ho,hc,hd⟩:=id hit;obtain ⟨ol,hol,_,nl,hdl⟩:=hl;unfold GZ
 refine wpAny_bind (wpAny_callSpecial?_slot (name:=Hy "__next__") hit.typeIs IT
  (wpAny_call_entry IT hit.typeIs Lj ?_ (Ld _)))
 show wpAny _ _ (field (.ref it) 0 >>= _) _ _ s;refine wpAny_bind (wpAny_field ho hd (x:=.ref l) rfl ?_);show wpAny _ _ (if (Hb l==Ic)=true then _ else _) _ _ s
 rw [if_neg (show ¬((Hb l==Ic)=true) from GY)];show wpAny _ _ (field (.ref it) 1 >>= _) _ _ s;refine wpAny_bind (wpAny_field ho hd (x:=.int i 0) rfl ?_);show wpAny _ _ (seqItems? (.ref l) >>= _) _ _ s;refine wpAny_bind (wpAny_seqItems hol hdl ?_);simp only [Ha,hx];refine wpAny_bind (wpAny_rule (wpAny_bind (wpAny_setField ho hd (by simp) ?_)))
 show wpAny _ _ (newExc (.type "StopIteration") [] >>= _) _ _ _;refine wpAny_bind ?_;simp only [newExc,newTuple];refine wpAny_bind (wpAny_newObj_type ?_ (by size_fits))
 refine wpAny_bind (m:=firstArgMember _ _) (wpAny_of_eq (a:=Ic) (by first|rfl|(simp only [firstArgMember];rfl)) ?_)
 refine wpAny_newObj_type ?_ (by size_fits)
 simp only [raiseNew];refine wpAny_bind (wpAny_handled ?_)
 first|rw [show A.in1.handled=none from hh]|rw [hh]
 refine wpAny_bind (wpAny_pure (wpAny_throw ?_));exact hE _ _ (((JJ ..).extBut.push _).push _) ⟨_,GN _ rfl,rfl⟩
theorem bO{b:Bool}{it l:Addr}{i:Nat}{items:Array Value}{x:Value}{Q:Value->Shared->Prop}(hit:SrcTn b it l i s.heap)(hl:SrcSq b s.heap l items)(hx:items[i]?=some x)
  (hQ:∀h',SrcTn b it l (i+1) h'->Im it s.heap h'->Q x { s with heap:=h' }):wpAny (model prog w) A (GZ (.ref it)) Q E s:=by
 cases b with
 |true=>exact wpAny_nextOf_list_item hit hl hx hQ
 |false=>exact gU hit hl hx hQ
theorem cg{b:Bool}{it l:Addr}{i:Nat}{items:Array Value}{Q:Value->Shared->Prop}(hh:A.handled=none)(hit:SrcTn b it l i s.heap)(hl:SrcSq b s.heap l items)(hx:items[i]?=none)
  (hE:∀h' e,LZ it s.heap h'->(∃o,h'.get? e=some o/\o.cls=.type "StopIteration")->E (.ref e) { s with heap:=h' }):wpAny (model prog w) A (GZ (.ref it)) Q E s:=by
 cases b with
 |true=>exact wpAny_nextOf_list_end hh hit hl hx hE
 |false=>exact hV hh hit hl hx hE
def bg(b:Bool):String:=if b=true then "list_iterator" else "tuple_iterator"
theorem dz{b:Bool}{l:Addr}{items:Array Value}{Q:Value->Shared->Prop}(hl:SrcSq b s.heap l items)
  (hQ:Q (.ref s.heap.objs.size) { s with heap:=s.heap.push { cls:=.type (bg b),data:=.fields #[.ref l,.int 0 0] } }):wpAny (model prog w) A (pyIter (.ref l)) Q E s:=by
 cases b with
 |true=>exact wpAny_pyIter_list hl hQ
 |false=>exact wpAny_pyIter_tuple hl hQ
theorem lS{b:Bool}{h:Heap}{it l:Addr}(e:h.get? it=some { cls:=.type (bg b),data:=.fields #[.ref l,.int 0 0] }):SrcTn b it l 0 h:=by
 cases b with
 |true=>exact (show h.IsListIter it l 0 from ⟨_,e,rfl,rfl⟩)
 |false=>exact (show h.IsTupleIter it l 0 from ⟨_,e,rfl,rfl⟩)
structure ZApart(z TI TO i1 i2:Addr):Prop where
 TIz:TI≠z
 TOz:TO≠z
 i1z:i1≠z
 i2z:i2≠z
 TITO:TI≠TO
 TIi1:TI≠i1
 TIi2:TI≠i2
 TOi1:TO≠i1
 TOi2:TO≠i2
 i12:i1≠i2
def pN(z TO i1 i2 l:Addr):Prop:=l≠z/\l≠TO/\l≠i1/\l≠i2
theorem xY{b1 b2:Bool}{z TI TO i1 i2 l1 l2:Addr}{k1 k2:Nat}{xs ys:Array Value}{x y a b:Value}{Q:Value->Shared->Prop}(D:ZApart z TI TO i1 i2)(O1:pN z TO i1 i2 l1)(O2:pN z TO i1 i2 l2)
  (hz:IsZip s.heap z TI TO .none) (hTI:IsPair s.heap TI (.ref i1) (.ref i2)) (hTO:IsPair s.heap TO a b)
  (h1:SrcTn b1 i1 l1 k1 s.heap) (h2:SrcTn b2 i2 l2 k2 s.heap) (hl1:SrcSq b1 s.heap l1 xs) (hl2:SrcSq b2 s.heap l2 ys) (hx:xs[k1]?=some x) (hy:ys[k2]?=some y)
  (hQ:∀h',IsZip h' z TI TO (rawInt s.heap.objs.size)->IsPair h' TO x y->SrcTn b1 i1 l1 (k1+1) h'->SrcTn b2 i2 l2 (k2+1) h'->IsPair h' s.heap.objs.size x y->h'.objs.size=s.heap.objs.size+1->
   (∀c o,c≠z->c≠TO->c≠i1->c≠i2->s.heap.get? c=some o->h'.get? c=some o)->Q (.ref s.heap.objs.size) { s with heap:=h' }):
  wpAny (model prog w) A (Builtin.«zip.__next__» ⟨[.ref z],[]⟩) (fun fin s'=>∃v,fin=.done (.ret v)/\Q v s') E s:=by
 show wpAny _ _ (field (.ref z) 2 >>= _) _ _ _;refine wpAny_bind (wpAny_field hz rfl (x:=.bool false) rfl ?_);show wpAny _ _ (field (.ref z) 3 >>= _) _ _ _;refine wpAny_bind (wpAny_field hz rfl (x:=.ref TI) rfl ?_);refine wpAny_bind (wpAny_seqItems hTI rfl ?_);show wpAny _ _ (Hh (.ref z) >>= _) _ _ _;refine wpAny_bind ?_;unfold Hh;refine wpAny_bind (wpAny_field hz rfl (x:=.none) rfl (wpAny_pure ?_));simp only [if_true];refine wpAny_bind (wpAny_rule ?_);refine wpAny_bind (wpAny_field hz rfl (x:=.ref TO) rfl ?_);refine wpAny_bind (wpAny_setField_rec hz (by simp) fun h₁ hz₁ hs₁=>?_)
 replace hz₁:IsZip h₁ z TI TO .ellipsis:=hz₁
 refine wpAny_bind ?_;simp only [Kx,List.zipIdx_nil,JW,J4];refine wpAny_bind (wpAny_bind (wpAny_onRaise ?_));show wpAny _ _ (GZ (.ref i1) >>= _) _ _ _;refine wpAny_bind (bO (h1.keep fun o e=>hs₁.extBut _ o D.i1z e) (hl1.keep fun o e=>hs₁.extBut _ o O1.1 e) hx fun h₂ h1₂ hs₂=>wpAny_pure ?_);have hTO₂:IsPair h₂ TO a b:=hs₂.extBut _ _ D.TOi1 (hs₁.extBut _ _ D.TOz hTO);refine wpAny_bind (wpAny_seqItems hTO₂ rfl ?_);refine wpAny_bind (wpAny_updateSeq_pair hTO₂ fun h₃ hTO₃ hs₃=>?_)
 replace hTO₃:IsPair h₃ TO x b:=hTO₃
 refine wpAny_bind (wpAny_letGo (wpAny_pure ?_));refine wpAny_bind (wpAny_bind (wpAny_onRaise ?_));show wpAny _ _ (GZ (.ref i2) >>= _) _ _ _
 refine wpAny_bind (bO (h2.keep fun o e=>hs₃.extBut _ o D.TOi2.symm (hs₂.extBut _ o D.i12.symm (hs₁.extBut _ o D.i2z e)))
  (hl2.keep fun o e=>hs₃.extBut _ o O2.2.1 (hs₂.extBut _ o O2.2.2.1 (hs₁.extBut _ o O2.1 e))) hy fun h₄ h2₄ hs₄=>wpAny_pure ?_)
 have hTO₄:IsPair h₄ TO x b:=hs₄.extBut _ _ D.TOi2 hTO₃;refine wpAny_bind (wpAny_seqItems hTO₄ rfl ?_);refine wpAny_bind (wpAny_updateSeq_pair hTO₄ fun h₅ hTO₅ hs₅=>?_)
 replace hTO₅:IsPair h₅ TO x y:=hTO₅
 refine wpAny_bind (wpAny_letGo (wpAny_pure (wpAny_pure ?_)));refine wpAny_bind (wpAny_seqItems hTO₅ rfl ?_);refine wpAny_bind (wpAny_newTuple ?_);have hsz:h₅.objs.size=s.heap.objs.size:=by rw [hs₅.1,hs₄.1,hs₃.1,hs₂.1,hs₁.1]
 have hz₅:IsZip h₅ z TI TO .ellipsis:=hs₅.extBut _ _ D.TOz.symm (hs₄.extBut _ _ D.i2z.symm (hs₃.extBut _ _ D.TOz.symm (hs₂.extBut _ _ D.i1z.symm hz₁)));have hk₅:∀c o,c≠z->c≠TO->c≠i1->c≠i2->s.heap.get? c=some o->h₅.get? c=some o:=fun c o c1 c2 c3 c4 e=>
  hs₅.extBut _ _ c2 (hs₄.extBut _ _ c4 (hs₃.extBut _ _ c2 (hs₂.extBut _ _ c3 (hs₁.extBut _ _ c1 e))))
 have h1₅:SrcTn b1 i1 l1 (k1+1) h₅:=h1₂.keep fun o e=>hs₅.extBut _ o D.TOi1.symm (hs₄.extBut _ o D.i12 (hs₃.extBut _ o D.TOi1.symm e));have h2₅:SrcTn b2 i2 l2 (k2+1) h₅:=h2₄.keep fun o e=>hs₅.extBut _ o D.TOi2.symm e;have hzlt:z<h₅.objs.size:=GL hz₅;show wpAny _ _ (Jp (.ref z) (.ref h₅.objs.size) >>= _) _ _ _;refine wpAny_bind ?_;unfold Jp;have hz₆:IsZip (h₅.push { cls:=.type "tuple",data:=.seq #[x,y] }) z TI TO .ellipsis:=GC _ hz₅;refine wpAny_bind (wpAny_setField_rec hz₆ (by simp) fun h₇ hz₇ hs₇=>?_)
 replace hz₇:IsZip h₇ z TI TO (rawInt h₅.objs.size):=hz₇
 refine wpAny_setField_rec hz₇ (by simp) fun h₈ hz₈ hs₈=>?_
 replace hz₈:IsZip h₈ z TI TO (rawInt h₅.objs.size):=hz₈
 have up:∀c o,c≠z->h₅.get? c=some o->h₈.get? c=some o:=fun c o c1 e=>hs₈.extBut _ _ c1 (hs₇.extBut _ _ c1 (GC _ e));have hT₈:IsPair h₈ h₅.objs.size x y:=hs₈.extBut _ _ (Iv hzlt) (hs₇.extBut _ _ (Iv hzlt) (GN _ rfl));have hz8:h₈.objs.size=h₅.objs.size+1:=by rw [hs₈.1,hs₇.1,Hz]
 rw [hsz] at hz₈ hT₈ hz8;refine wpAny_pure ⟨_,rfl,?_⟩;show Q (.ref h₅.objs.size) _;rw [hsz];exact hQ h₈ hz₈ (up _ _ D.TOz hTO₅) (h1₅.keep fun o e=>up _ o D.i1z e) (h2₅.keep fun o e=>up _ o D.i2z e) hT₈ hz8 fun c o c1 c2 c3 c4 e=>up c o c1 (hk₅ c o c1 c2 c3 c4 e)
theorem Al{b1 b2:Bool}{z TI TO i1 i2 l1 l2:Addr}{k1 k2:Nat}{xs ys:Array Value}{a b:Value}{Q:Fin->Shared->Prop}(hh:A.handled=none)(D:ZApart z TI TO i1 i2)(O1:pN z TO i1 i2 l1)(O2:pN z TO i1 i2 l2)
  (hz:IsZip s.heap z TI TO .none) (hTI:IsPair s.heap TI (.ref i1) (.ref i2)) (hTO:IsPair s.heap TO a b)
  (h1:SrcTn b1 i1 l1 k1 s.heap) (h2:SrcTn b2 i2 l2 k2 s.heap) (hl1:SrcSq b1 s.heap l1 xs) (hl2:SrcSq b2 s.heap l2 ys) (hend:xs[k1]?=none\/ys[k2]?=none)
  (hE:∀h' e,(∀c o,c≠z->c≠TO->c≠i1->c≠i2->s.heap.get? c=some o->h'.get? c=some o)->(∃o,h'.get? e=some o/\o.cls=.type "StopIteration")->E (.ref e) { s with heap:=h' }):
  wpAny (model prog w) A (Builtin.«zip.__next__» ⟨[.ref z],[]⟩) Q E s:=by
 show wpAny _ _ (field (.ref z) 2 >>= _) _ _ _;refine wpAny_bind (wpAny_field hz rfl (x:=.bool false) rfl ?_);show wpAny _ _ (field (.ref z) 3 >>= _) _ _ _;refine wpAny_bind (wpAny_field hz rfl (x:=.ref TI) rfl ?_);refine wpAny_bind (wpAny_seqItems hTI rfl ?_);show wpAny _ _ (Hh (.ref z) >>= _) _ _ _;refine wpAny_bind ?_;unfold Hh;refine wpAny_bind (wpAny_field hz rfl (x:=.none) rfl (wpAny_pure ?_));simp only [if_true];refine wpAny_bind (wpAny_rule ?_);refine wpAny_bind (wpAny_field hz rfl (x:=.ref TO) rfl ?_);refine wpAny_bind (wpAny_setField_rec hz (by simp) fun h₁ hz₁ hs₁=>?_)
 replace hz₁:IsZip h₁ z TI TO .ellipsis:=hz₁
 refine wpAny_bind ?_;simp only [Kx,List.zipIdx_nil,JW,J4];refine wpAny_bind (wpAny_bind (wpAny_onRaise ?_));show wpAny _ _ (GZ (.ref i1) >>= _) _ _ _;cases hx:xs[k1]? with
 |none=>
  refine wpAny_bind (cg hh (h1.keep fun o e=>hs₁.extBut _ o D.i1z e) (hl1.keep fun o e=>hs₁.extBut _ o O1.1 e) hx fun h₂ e hs₂ he=>?_);obtain ⟨oe,hoe,hce⟩:=he;have hz₂:IsZip h₂ z TI TO .ellipsis:=hs₂ _ _ D.i1z.symm hz₁;have hez:e≠z:=fun x=>by subst x;rw [hz₂] at hoe;cases hoe;simp at hce
  refine wpAny_setField_rec hz₂ (by simp) fun h₃ _ hs₃=>hE h₃ e (fun c o c1 _ c3 _ x=>hs₃.extBut _ _ c1 (hs₂ _ _ c3 (hs₁.extBut _ _ c1 x))) ⟨oe,hs₃.extBut _ _ hez hoe,hce⟩
 |some x=>
  have hy:ys[k2]?=none:=by rcases hend with h|h;rw [hx] at h;cases h;exact h
  refine wpAny_bind (bO (h1.keep fun o e=>hs₁.extBut _ o D.i1z e) (hl1.keep fun o e=>hs₁.extBut _ o O1.1 e) hx fun h₂ h1₂ hs₂=>wpAny_pure ?_);have hTO₂:IsPair h₂ TO a b:=hs₂.extBut _ _ D.TOi1 (hs₁.extBut _ _ D.TOz hTO);refine wpAny_bind (wpAny_seqItems hTO₂ rfl ?_);refine wpAny_bind (wpAny_updateSeq_pair hTO₂ fun h₃ hTO₃ hs₃=>?_);refine wpAny_bind (wpAny_letGo (wpAny_pure ?_));refine wpAny_bind (wpAny_bind (wpAny_onRaise ?_));show wpAny _ _ (GZ (.ref i2) >>= _) _ _ _
  refine wpAny_bind (cg hh (h2.keep fun o e=>hs₃.extBut _ o D.TOi2.symm (hs₂.extBut _ o D.i12.symm (hs₁.extBut _ o D.i2z e)))
   (hl2.keep fun o e=>hs₃.extBut _ o O2.2.1 (hs₂.extBut _ o O2.2.2.1 (hs₁.extBut _ o O2.1 e))) hy fun h₄ e hs₄ he=>?_)
  obtain ⟨oe,hoe,hce⟩:=he;have hz₄:IsZip h₄ z TI TO .ellipsis:=hs₄ _ _ D.i2z.symm (hs₃.extBut _ _ D.TOz.symm (hs₂.extBut _ _ D.i1z.symm hz₁));have hez:e≠z:=fun x=>by subst x;rw [hz₄] at hoe;cases hoe;simp at hce
  refine wpAny_setField_rec hz₄ (by simp) fun h₅ _ hs₅=>hE h₅ e (fun c o c1 c2 c3 c4 x=>hs₅.extBut _ _ c1 (hs₄ _ _ c4 (hs₃.extBut _ _ c2 (hs₂.extBut _ _ c3 (hs₁.extBut _ _ c1 x))))) ⟨oe,hs₅.extBut _ _ hez hoe,hce⟩
theorem eZ{b1 b2:Bool}{z TI TO i1 i2 l1 l2:Addr}{k1 k2:Nat}{xs ys:Array Value}{x y a b:Value}{Q:Option Value->Shared->Prop}(D:ZApart z TI TO i1 i2)(O1:pN z TO i1 i2 l1)(O2:pN z TO i1 i2 l2)
  (hz:IsZip s.heap z TI TO .none) (hTI:IsPair s.heap TI (.ref i1) (.ref i2)) (hTO:IsPair s.heap TO a b)
  (h1:SrcTn b1 i1 l1 k1 s.heap) (h2:SrcTn b2 i2 l2 k2 s.heap) (hl1:SrcSq b1 s.heap l1 xs) (hl2:SrcSq b2 s.heap l2 ys) (hx:xs[k1]?=some x) (hy:ys[k2]?=some y)
  (hQ:∀h',IsZip h' z TI TO (rawInt s.heap.objs.size)->IsPair h' TO x y->SrcTn b1 i1 l1 (k1+1) h'->SrcTn b2 i2 l2 (k2+1) h'->IsPair h' s.heap.objs.size x y->h'.objs.size=s.heap.objs.size+1->
   (∀c o,c≠z->c≠TO->c≠i1->c≠i2->s.heap.get? c=some o->h'.get? c=some o)->Q (some (.ref s.heap.objs.size)) { s with heap:=h' }):
  wpAny (model prog w) A (pyNext (.ref z)) Q E s:=by
 have hT:s.TypeIs (.ref z) "zip":=⟨_,hz,rfl⟩;unfold pyNext
 exact wpAny_bind (wpAny_attempt (wpAny_callSpecial?_slot (name:=Hy "__next__") hT Iw
  (wpAny_call_entry Iw hT JU (xY D O1 O2 hz hTI hTO h1 h2 hl1 hl2 hx hy fun h' a1 a2 a3 a4 a5 a6 a7=>wpAny_pure (hQ h' a1 a2 a3 a4 a5 a6 a7)) (JK _))))
theorem jw{b1 b2:Bool}{z TI TO i1 i2 l1 l2:Addr}{k1 k2:Nat}{xs ys:Array Value}{a b:Value}{Q:Option Value->Shared->Prop}(hh:A.handled=none)(D:ZApart z TI TO i1 i2)(O1:pN z TO i1 i2 l1)(O2:pN z TO i1 i2 l2)
  (hz:IsZip s.heap z TI TO .none) (hTI:IsPair s.heap TI (.ref i1) (.ref i2)) (hTO:IsPair s.heap TO a b)
  (h1:SrcTn b1 i1 l1 k1 s.heap) (h2:SrcTn b2 i2 l2 k2 s.heap) (hl1:SrcSq b1 s.heap l1 xs) (hl2:SrcSq b2 s.heap l2 ys) (hend:xs[k1]?=none\/ys[k2]?=none)
  (hQ:∀h',(∀c o,c≠z->c≠TO->c≠i1->c≠i2->s.heap.get? c=some o->h'.get? c=some o)->Q none { s with heap:=h' }):wpAny (model prog w) A (pyNext (.ref z)) Q E s:=by
 have hT:s.TypeIs (.ref z) "zip":=⟨_,hz,rfl⟩;unfold pyNext
 refine wpAny_bind (wpAny_attempt (wpAny_callSpecial?_slot (name:=Hy "__next__") hT Iw
  (wpAny_call_entry Iw hT JU (Al hh D O1 O2 hz hTI hTO h1 h2 hl1 hl2 hend fun h' e hk he=>?_) (JK _))))
 obtain ⟨o,ho,hc⟩:=he;refine wpAny_bind (wpAny_isInstance (T:="StopIteration") (b:=true) ⟨o,ho,hc⟩ isSubtype_stop ?_);exact wpAny_pure (hQ _ hk)
end
abbrev zH1(c1:String)(h:Heap)(l1:Addr):Heap:=h.push { cls:=.type c1,data:=.fields #[.ref l1,.int 0 0] }
abbrev zH2(c1 c2:String)(h:Heap)(l1 l2:Addr):Heap:=(zH1 c1 h l1).push { cls:=.type c2,data:=.fields #[.ref l2,.int 0 0] }
abbrev zH3(c1 c2:String)(h:Heap)(l1 l2:Addr):Heap:=(zH2 c1 c2 h l1 l2).push { cls:=.type "tuple",data:=.seq #[.ref h.objs.size,.ref (zH1 c1 h l1).objs.size] }
abbrev zH4(c1 c2:String)(h:Heap)(l1 l2:Addr):Heap:=(zH3 c1 c2 h l1 l2).push { cls:=.type "tuple",data:=.seq #[.none,.none] }
abbrev C0(c1 c2:String)(h:Heap)(l1 l2:Addr):Heap:=(zH4 c1 c2 h l1 l2).push { cls:=.type "zip",data:=.fields #[.none,.bool false,.bool false,.ref (zH2 c1 c2 h l1 l2).objs.size,.ref (zH3 c1 c2 h l1 l2).objs.size] }
theorem uB(b1 b2:Bool)(l1 l2:Addr)(xs ys:Array Value):
  Meets (Builtin.«zip.__new__» ⟨[.type "zip",.ref l1,.ref l2],[]⟩) (fun _ R s=>SrcSq b1 s.heap l1 xs/\SrcSq b2 s.heap l2 ys/\
   R (.ok (.ret (.ref (zH4 (bg b1) (bg b2) s.heap l1 l2).objs.size))) { s with heap:=C0 (bg b1) (bg b2) s.heap l1 l2 }):=
 .of_wp fun prog w A R s h=>by
  obtain ⟨hp,g,d,tk,os⟩:=s;obtain ⟨hl1,hl2,h⟩:=h;have hsub:=sub_zip;have hL1:SrcSq b1 (Lz ⟨hp,g,d,tk,os⟩) l1 xs:=hl1;have hL2:SrcSq b2 (Lz ⟨hp.push { cls:=.type (bg b1),data:=.fields #[.ref l1,.int 0 0] },g,d,tk,os⟩) l2 ys:=SrcSq.keep hl2 fun o e=>GC _ e
  wp_walk using dz hL1,dz hL2
  exact ⟨_,rfl,h⟩
section
variable {prog:Program}{w:World}{A:Around}{E:Value->Shared->Prop}{s:Shared}
theorem oa{b1 b2:Bool}{l1 l2:Addr}{xs ys:Array Value}{Q:Value->Shared->Prop}(hl1:SrcSq b1 s.heap l1 xs)(hl2:SrcSq b2 s.heap l2 ys)
  (h:∀h',IsZip h' (s.heap.objs.size+4) (s.heap.objs.size+2) (s.heap.objs.size+3) .none->IsPair h' (s.heap.objs.size+2) (.ref s.heap.objs.size) (.ref (s.heap.objs.size+1))->
   IsPair h' (s.heap.objs.size+3) .none .none->SrcTn b1 s.heap.objs.size l1 0 h'->SrcTn b2 (s.heap.objs.size+1) l2 0 h'->h'.objs.size=s.heap.objs.size+5->
   (∀c o,s.heap.get? c=some o->h'.get? c=some o)->Q (.ref (s.heap.objs.size+4)) { s with heap:=h' }):
  wpAny (model prog w) A (call (.type "zip") [.ref l1,.ref l2]) Q E s:=by
 refine callType_new F.called_zip (by decide) (F.typeCall_zip_2 _ _) (F.newCall_zip_2 _ _) (fun obj=>F.args_object_init_3 obj _ _) F.entry_zip_new (uB b1 b2 l1 l2 xs ys) ⟨hl1,hl2,?_⟩
 have z1:(zH1 (bg b1) s.heap l1).objs.size=s.heap.objs.size+1:=Hz ..;have z2:(zH2 (bg b1) (bg b2) s.heap l1 l2).objs.size=s.heap.objs.size+2:=by rw [Hz,z1]
 have z3:(zH3 (bg b1) (bg b2) s.heap l1 l2).objs.size=s.heap.objs.size+3:=by rw [Hz,z2]
 have z4:(zH4 (bg b1) (bg b2) s.heap l1 l2).objs.size=s.heap.objs.size+4:=by rw [Hz,z3]
 have z5:(C0 (bg b1) (bg b2) s.heap l1 l2).objs.size=s.heap.objs.size+5:=by rw [Hz,z4]
 have g5:(C0 (bg b1) (bg b2) s.heap l1 l2).get? (zH4 (bg b1) (bg b2) s.heap l1 l2).objs.size=some _:=GN _ rfl;have g4:(C0 (bg b1) (bg b2) s.heap l1 l2).get? (zH3 (bg b1) (bg b2) s.heap l1 l2).objs.size=some _:=GC _ (GN _ rfl);have g3:(C0 (bg b1) (bg b2) s.heap l1 l2).get? (zH2 (bg b1) (bg b2) s.heap l1 l2).objs.size=some _:=GC _ (GC _ (GN _ rfl));have g2:(C0 (bg b1) (bg b2) s.heap l1 l2).get? (zH1 (bg b1) s.heap l1).objs.size=some _:=GC _ (GC _ (GC _ (GN _ rfl)));have g1:(C0 (bg b1) (bg b2) s.heap l1 l2).get? s.heap.objs.size=some _:=GC _ (GC _ (GC _ (GC _ (GN _ rfl))));show _/\_;rw [z2,z3,z4] at g5;rw [z1,z2] at g3;rw [z3] at g4;rw [z1] at g2;rw [z4];exact ⟨⟨_,g5,rfl⟩,h _ g5 g3 g4 (lS g1) (lS g2) z5 fun c o x=>
  GC _ (GC _ (GC _ (GC _ (GC _ x))))⟩
end
end L2
namespace L2
open PySem PySem.Spec PyProof.Rows
def kY(K:GH)(b:Bool)(H:Hp)(a:Addr)(xs:List V):Prop:=if b=true then SqL K H a xs else ic K H a xs
section
variable {X:Cx}{pins:List (Addr×Obj)}{σ:St}{H:Hp}{s:Shared}{a:Addr}{xs ys:List V}{b:Bool}
theorem Inv.src(I:Inv X pins σ H s)(h:kY X.K b H a xs):∃its:List Value,Vals xs its/\SrcSq b s.heap a its.toArray/\xs.length<=sizeLine:=by
 cases b with
 |true=>obtain ⟨its,r,p,z⟩:=I.list (show SqL X.K H a xs from h);exact ⟨its,r,p.isList,z⟩
 |false=>obtain ⟨its,r,p,z⟩:=I.tuple (show ic X.K H a xs from h);exact ⟨its,r,p,z⟩
theorem Inv.src_inj(I:Inv X pins σ H s)(h:kY X.K b H a xs)(h':kY X.K b H a ys):xs=ys:=by
 cases b with
 |true=>exact I.list_inj (show SqL X.K H a xs from h) h'
 |false=>exact I.tuple_inj (show ic X.K H a xs from h) h'
theorem Inv.src_ne(I:Inv X pins σ H s)(h:kY X.K b H a xs){it:Addr}(f:ig X pins H it):a≠it:=by
 obtain ⟨f0,f1,f2,f3,f4,f5⟩:=f;intro e;subst e;have kne:∀o,X.K.lookup a=some o->False:=fun o hk=>by
  have hb:=I.ok.mod.kin a o hk;rcases f3 with z|z
  ·exact I.ok.noex a o hb z
  ·exact absurd (GS (GL (I.ok.bs a o hb).1) z) (HJ _)
 cases b with
 |true=>
  rcases (show SqL X.K H a xs from h) with (z|⟨o,z⟩)|⟨o,_,_,hk,_⟩
  ·rw [f0] at z;cases z
  ·rw [f0] at z;cases z
  ·exact kne o hk
 |false=>
  rcases (show ic X.K H a xs from h) with (z|⟨o,z⟩)|⟨o,_,_,hk,_⟩
  ·rw [f0] at z;cases z
  ·rw [f0] at z;cases z
  ·exact kne o hk
end
def Itz(K:GH)(b1 b2:Bool)(l1 l2:Addr):It:=
 ⟨fun i H=>∃xs ys x y,kY K b1 H l1 xs/\kY K b2 H l2 ys/\xs[i]?=some x/\ys[i]?=some y,
  fun i H v H'=>∃T x y,H T=none/\v=.ref T/\H'=upd H T (.tup [x,y])/\(∀xs,kY K b1 H l1 xs->xs[i]?=some x)/\(∀ys,kY K b2 H l2 ys->ys[i]?=some y),
  fun i H=>∃xs ys,kY K b1 H l1 xs/\kY K b2 H l2 ys/\(xs.length<=i\/ys.length<=i)⟩
theorem Inv.turned4{X:Cx}{pins:List (Addr×Obj)}{σ:St}{H:Hp}{s:Shared}{h':Heap}{t':Nat}{fp:List Addr}(I:Inv X pins σ H s)(hf:∀b∈fp,ig X pins H b)
  (k:∀b o,b∉fp->s.heap.get? b=some o->h'.get? b=some o):Inv X pins σ H { s with heap:=h',toks:=t' }:=by
 have nfp:∀b u,H b=some u->b∉fp:=fun b u e z=>by have:=(hf b z).1;rw [e] at this;cases this
 refine I.step (g':=s.gens) (d':=s.drawn) (ch:=fp) (fun b hb=>?_) (fun b o _ _ hc e _=>k b o hc e) (fun b o _ _ hc e _=>⟨o.slots,k b o hc e⟩) (fun _ _ _ _ n=>n)
  (fun b o hc e=>⟨o,k b o hc e⟩) (fun _ _ e=>e) (fun _ _ _ e=>e) (fun b ps e=>⟨#[],by rw [e];simp⟩) (fun m hm=>?_) (fun b u e=>?_) I.bare
 ·obtain ⟨f0,f1,f2,f3,f4,f5⟩:=hf b hb
  exact ⟨f3,f1,f4,f5⟩
 ·obtain ⟨o,es,ep,ho,r⟩:=hm
  exact ⟨o,es,ep,k _ o (fun z=>(hf _ z).2.1 rfl) ho,r⟩
 ·refine (I.hok b u e).stay (fun c v hc q=>k c v ?_ q) (fun _ q=>q) fun _ _ q=>q
  rcases hc with z|z
  ·rw [z];exact nfp b u e
  ·exact nfp c _ z
theorem Inv.turnedNew{X:Cx}{pins:List (Addr×Obj)}{σ:St}{H:Hp}{s:Shared}{h':Heap}{t':Nat}{fp:List Addr}{zs:List V}{us:List Value}{o':Obj}(I:Inv X pins σ H s)(hf:∀b∈fp,ig X pins H b)
  (k:∀b o,b∉fp->s.heap.get? b=some o->h'.get? b=some o) (hlt:∀b∈fp,∃o,s.heap.get? b=some o) (hlv:∀b∈fp,∃o,h'.get? b=some o) (hT:h'.get? s.heap.objs.size=some o') (hoc:o'.cls=.type "tuple") (hod:∃n,o'.data=.seq us.toArray n)
  (r:Vals zs us) (hdn:o'.dict=none) (hz:zs.length<=sizeLine):Inv X pins σ (upd H s.heap.objs.size (.tup zs)) { s with heap:=h',toks:=t' }:=by
 have hTn:H s.heap.objs.size=none:=I.hok.fresh (GO _);have nfp:∀b u,H b=some u->b∉fp:=fun b u e z=>by have:=(hf b z).1;rw [e] at this;cases this
 refine I.step (g':=s.gens) (d':=s.drawn) (ch:=fp) (fun b hb=>?_) (fun b o _ _ hc e _=>k b o hc e) (fun b o _ _ hc e _=>⟨o.slots,k b o hc e⟩) (fun b o _ e n=>by rw [upd_ne (GW (GL e))];exact n)
  (fun b o hc e=>⟨o,k b o hc e⟩) (fun b zs' e=>by rw [upd_ne (bz e hTn)];exact e) (fun b o u e=>by rw [upd_ne (bz e hTn)];exact e) (fun b ps e=>⟨#[],by rw [upd_ne (bz e hTn),e];simp⟩) (fun m hm=>?_) (fun b u e=>?_) I.bare
 ·obtain ⟨f0,f1,f2,f3,f4,f5⟩:=hf b hb
  exact ⟨f3,f1,f4,f5⟩
 ·obtain ⟨o,es,ep,ho,r⟩:=hm
  exact ⟨o,es,ep,k _ o (fun z=>(hf _ z).2.1 rfl) ho,r⟩
 ·by_cases hb:b=s.heap.objs.size
  ·subst hb
   rw [upd_same] at e;cases e;obtain ⟨n,hd⟩:=hod;exact ⟨hz,us,r,⟨o',hT,⟨hoc,n,hd⟩,hdn⟩⟩
  ·rw [upd_ne hb] at e
   refine (I.hok b u e).stay (fun c v hc q=>k c v ?_ q) (fun c q=>by rw [upd_ne (bz q hTn)];exact q) fun c zs' q=>by rw [upd_ne (bz q hTn)];exact q
   rcases hc with z|z
   ·rw [z];exact nfp b u e
   ·exact nfp c _ z
theorem wY{P:Program}{w:World}{K:GH}{elts:List Expr}{x1:Nat}{tp:Pos}(b1 b2:Bool)(l1 l2 z TI TO i1 i2:Addr)(D:ZApart z TI TO i1 i2):
  Turn P w K (.Tuple elts x1 tp) (Itz K b1 b2 l1 l2) [z,TI,TO,i1,i2] z (fun i h=>IsZip h z TI TO .none/\IsPair h TI (.ref i1) (.ref i2)/\(∃a b,IsPair h TO a b)/\SrcTn b1 i1 l1 i h/\SrcTn b2 i2 l2 i h) where
 mem:=by simp
 obj:=fun i h st b hb=>by
  obtain ⟨hz,hTI,⟨a,c,hTO⟩,h1,h2⟩:=st;have hb':b=z\/b=TI\/b=TO\/b=i1\/b=i2:=by simpa using hb
  rcases hb' with e|e|e|e|e<;>subst e
  ·exact ⟨_,hz,fun v q=>nomatch q⟩
  ·exact ⟨_,hTI,fun v q=>nomatch q⟩
  ·exact ⟨_,hTO,fun v q=>nomatch q⟩
  ·exact h1.lt
  ·exact h2.lt
 keep:=fun i h h' st k=>by
  obtain ⟨hz,hTI,⟨a,c,hTO⟩,h1,h2⟩:=st;exact ⟨k z (by simp) _ hz,k TI (by simp) _ hTI,⟨a,c,k TO (by simp) _ hTO⟩,h1.keep fun o e=>k i1 (by simp) o e,h2.keep fun o e=>k i2 (by simp) o e⟩
 item:=by
  intro X hP hw hK hc i pins s σ H E I hf st hg;subst hP hw hK;obtain ⟨xs,ys,x,y,q1,q2,hx,hy⟩:=hg;obtain ⟨hz,hTI,⟨a,c,hTO⟩,h1,h2⟩:=st;obtain ⟨its1,r1,s1,z1⟩:=I.src q1;obtain ⟨its2,r2,s2,z2⟩:=I.src q2;obtain ⟨u,hu,ru⟩:=r1.get hx;obtain ⟨v,hv,rv⟩:=r2.get hy;have O1:pN z TO i1 i2 l1:=⟨I.src_ne q1 (hf z (by simp)),I.src_ne q1 (hf TO (by simp)),I.src_ne q1 (hf i1 (by simp)),I.src_ne q1 (hf i2 (by simp))⟩
  have O2:pN z TO i1 i2 l2:=⟨I.src_ne q2 (hf z (by simp)),I.src_ne q2 (hf TO (by simp)),I.src_ne q2 (hf i1 (by simp)),I.src_ne q2 (hf i2 (by simp))⟩
  refine eZ D O1 O2 hz hTI hTO h1 h2 s1 s2 (x:=u) (y:=v) (by simpa using hu) (by simpa using hv) fun h' a1 a2 a3 a4 a5 a6 hk=>?_
  refine ⟨_,rfl,wpAny_letOwnedTupleGo_zip a1 fun h'' hz'' hs''=>?_⟩;have hzs:z≠s.heap.objs.size:=GW (GL hz);have kk:∀b o,b∉[z,TI,TO,i1,i2]->s.heap.get? b=some o->h''.get? b=some o:=fun b o hb e=>
   hs''.extBut b o (fun q=>hb (by simp [q])) (hk b o (fun q=>hb (by simp [q])) (fun q=>hb (by simp [q])) (fun q=>hb (by simp [q])) (fun q=>hb (by simp [q])) e)
  have hT:h''.get? s.heap.objs.size=some { cls:=.type "tuple",data:=.seq #[u,v] }:=hs''.extBut _ _ hzs.symm a5;have lv:∀b∈[z,TI,TO,i1,i2],∃o,s.heap.get? b=some o:=fun b hb=>by
   have hb':b=z\/b=TI\/b=TO\/b=i1\/b=i2:=by simpa using hb
   rcases hb' with e|e|e|e|e<;>subst e
   ·exact ⟨_,hz⟩
   ·exact ⟨_,hTI⟩
   ·exact ⟨_,hTO⟩
   ·obtain ⟨o,e,_⟩:=h1.lt;exact ⟨o,e⟩
   ·obtain ⟨o,e,_⟩:=h2.lt;exact ⟨o,e⟩
  have n1:SrcTn b1 i1 l1 (i+1) h'':=a3.keep fun o e=>hs''.extBut _ o D.i1z e;have n2:SrcTn b2 i2 l2 (i+1) h'':=a4.keep fun o e=>hs''.extBut _ o D.i2z e;have nTI:IsPair h'' TI (.ref i1) (.ref i2):=hs''.extBut _ _ D.TIz (hk _ _ D.TIz D.TITO D.TIi1 D.TIi2 hTI);have nTO:IsPair h'' TO u v:=hs''.extBut _ _ D.TOz a2;have lv':∀b∈[z,TI,TO,i1,i2],∃o,h''.get? b=some o:=fun b hb=>by
   have hb':b=z\/b=TI\/b=TO\/b=i1\/b=i2:=by simpa using hb
   rcases hb' with e|e|e|e|e<;>subst e
   ·exact ⟨_,hz''⟩
   ·exact ⟨_,nTI⟩
   ·exact ⟨_,nTO⟩
   ·obtain ⟨o,e,_⟩:=n1.lt;exact ⟨o,e⟩
   ·obtain ⟨o,e,_⟩:=n2.lt;exact ⟨o,e⟩
  have hTn:H s.heap.objs.size=none:=I.hok.fresh (GO _);refine ⟨.ref s.heap.objs.size,_,I.turnedNew (s:=s) (h':=h'') (t':=s.toks) (zs:=[x,y]) (us:=[u,v]) hf kk lv lv' hT rfl ⟨_,rfl⟩ (.cons ru (.cons rv .nil)) rfl (by show 2<=sizeLine;decide),rfl,⟨_,x,y,hTn,rfl,rfl,fun zs hzs'=>?_,fun zs hzs'=>?_⟩,⟨hz'',nTI,⟨_,_,nTO⟩,n1,n2⟩,fun b hb=>?_⟩
  ·rw [I.src_inj hzs' q1];exact hx
  ·rw [I.src_inj hzs' q2];exact hy
  ·obtain ⟨o,e⟩:=lv b hb
   rw [upd_ne (GW (GL e))];exact (hf b hb).1
 done:=by
  intro X hP hw hK hc i pins s σ H E I hf st hg;subst hP hw hK;obtain ⟨xs,ys,q1,q2,hx⟩:=hg;obtain ⟨hz,hTI,⟨a,c,hTO⟩,h1,h2⟩:=st;obtain ⟨its1,r1,s1,z1⟩:=I.src q1;obtain ⟨its2,r2,s2,z2⟩:=I.src q2;have l1':=r1.length;have l2':=r2.length;have O1:pN z TO i1 i2 l1:=⟨I.src_ne q1 (hf z (by simp)),I.src_ne q1 (hf TO (by simp)),I.src_ne q1 (hf i1 (by simp)),I.src_ne q1 (hf i2 (by simp))⟩
  have O2:pN z TO i1 i2 l2:=⟨I.src_ne q2 (hf z (by simp)),I.src_ne q2 (hf TO (by simp)),I.src_ne q2 (hf i1 (by simp)),I.src_ne q2 (hf i2 (by simp))⟩
  refine jw (I.ok.hd hc) D O1 O2 hz hTI hTO h1 h2 s1 s2 ?_ fun h' hk=>⟨rfl,I.turned4 (t':=s.toks) hf fun b o hb e=>hk b o (fun q=>hb (by simp [q])) (fun q=>hb (by simp [q])) (fun q=>hb (by simp [q])) (fun q=>hb (by simp [q])) e⟩
  rcases hx with hx|hx
  ·exact .inl (by simp;lia)
  ·exact .inr (by simp;lia)
 self:=fun _ _ _ _ _ st h=>wpAny_pyIter_zip st.1 h
section
variable {X:Cx}
def Ite(K:GH)(b:Bool)(l:Addr):It:=
 ⟨fun i H=>∃xs x,kY K b H l xs/\xs[i]?=some x,
  fun i H v H'=>∃T x,H T=none/\v=.ref T/\H'=upd H T (.tup [.int i,x])/\(∀xs,kY K b H l xs->xs[i]?=some x),
  fun i H=>∃xs,kY K b H l xs/\xs.length<=i⟩
end
section
variable {prog:Program}{w:World}{A:Around}{E:Value->Shared->Prop}{s:Shared}
theorem Draws.src(hh:A.handled=none)(b:Bool)(it l:Addr)(hne:l≠it)(items:Array Value):
  Draws prog w A it [it,l] items.size (fun i v=>items[i]?=some v) (fun i h=>SrcTn b it l i h/\SrcSq b h l items) where
 live:=fun _ _ st=>let ⟨o,ho,_⟩:=st.1.lt;⟨o,ho⟩
 frame:=fun _ _ _ st hk=>⟨st.1.keep fun o e=>hk it (by simp) o e,st.2.keep fun o e=>hk l (by simp) o e⟩
 item:=fun i s Q E hi st hQ=>by
  refine bO st.1 st.2 (x:=items[i]) (by simp [hi]) fun h' hit' hs'=>?_
  exact hQ _ h' s.toks (by simp [hi]) ⟨hit',st.2.keep fun o e=>hs'.extBut _ o hne e⟩ hs'
 done:=fun s Q E st hE=>cg hh st.1 st.2 (by simp) hE
theorem qu(b:Bool)(l:Addr)(items:Array Value):
  Meets (Builtin.«enumerate.__new__» ⟨[.type "enumerate",.ref l],[]⟩) (fun _ R s=>SrcSq b s.heap l items/\
   R (.ok (.ret (.ref (s.heap.push { cls:=.type (bg b),data:=.fields #[.ref l,.int 0 0] }).objs.size)))
    { s with heap:=(s.heap.push { cls:=.type (bg b),data:=.fields #[.ref l,.int 0 0] }).push { cls:=.type "enumerate",data:=.fields #[.none,.bool false,.ref s.heap.objs.size,rawInt 0,.none,.none] } }):=
 .of_wp fun prog w A R s h=>by
  obtain ⟨hp,g,d,tk,os⟩:=s;obtain ⟨hl,h⟩:=h;have hsub:=sub_enumerate;have hL:SrcSq b (Lz ⟨hp,g,d,tk,os⟩) l items:=hl
  wp_walk
  refine wpAny_stack_any fun st=>wpAny_pure ?_
  split
  ·rename_i c _ _ _ _ _
   cases (c==KO "enumerate")
   ·wp_walk using dz hL
    exact ⟨_,rfl,h⟩
   ·wp_walk using dz hL
    exact ⟨_,rfl,h⟩
  ·wp_walk using dz hL
   exact ⟨_,rfl,h⟩
theorem ud{b:Bool}{l:Addr}{items:Array Value}{Q:Value->Shared->Prop}(hL:SrcSq b s.heap l items)
  (h:∀h',IsEnum h' (s.heap.objs.size+1) s.heap.objs.size 0 .none->SrcTn b s.heap.objs.size l 0 h'->h'.objs.size=s.heap.objs.size+2->
   (∀b o,s.heap.get? b=some o->h'.get? b=some o)->Q (.ref (s.heap.objs.size+1)) { s with heap:=h' }):
  wpAny (model prog w) A (call (.type "enumerate") [.ref l]) Q E s:=by
 refine callType_new F.called_enumerate (by decide) (F.typeCall_enumerate_1 _) (F.newCall_enumerate_1 _) (fun obj=>F.args_object_init_2 obj _) F.entry_enumerate_new (qu b l items) ⟨hL,?_⟩
 have hz:(s.heap.push { cls:=.type (bg b),data:=.fields #[.ref l,.int 0 0] }).objs.size=s.heap.objs.size+1:=Hz ..;show _/\_;rw [hz]
 have he:IsEnum ((s.heap.push { cls:=.type (bg b),data:=.fields #[.ref l,.int 0 0] }).push
   { cls:=.type "enumerate",data:=.fields #[.none,.bool false,.ref s.heap.objs.size,rawInt 0,.none,.none] }) (s.heap.objs.size+1) s.heap.objs.size 0 .none:=by
  have:=GN (s.heap.push { cls:=.type (bg b),data:=.fields #[.ref l,.int 0 0] })
   (o:={ cls:=.type "enumerate",data:=.fields #[.none,.bool false,.ref s.heap.objs.size,rawInt 0,.none,.none] }) rfl
  rw [hz] at this;exact this
 refine ⟨⟨_,he,rfl⟩,h _ he (lS (GC _ (GN _ rfl))) (by rw [Hz,hz]) fun b o x=>GC _ (GC _ x)⟩
end
theorem u8{P:Program}{w:World}{K:GH}{elts:List Expr}{x1:Nat}{tp:Pos}(b:Bool)(l e it:Addr)(hei:e≠it):
  Turn P w K (.Tuple elts x1 tp) (Ite K b l) [e,it] e (fun i h=>(∃old,IsEnum h e it i old)/\SrcTn b it l i h) where
 mem:=by simp
 obj:=fun i h st c hc=>by
  obtain ⟨⟨old,he⟩,h1⟩:=st;have hc':c=e\/c=it:=by simpa using hc
  rcases hc' with q|q<;>subst q
  ·exact ⟨_,he,fun v z=>nomatch z⟩
  ·exact h1.lt
 keep:=fun i h h' st k=>by
  obtain ⟨⟨old,he⟩,h1⟩:=st;exact ⟨⟨old,k e (by simp) _ he⟩,h1.keep fun o q=>k it (by simp) o q⟩
 item:=by
  intro X hP hw hK hc i pins s σ H E I hf st hg;subst hP hw hK;obtain ⟨xs,x,q1,hx⟩:=hg;obtain ⟨⟨old,he⟩,h1⟩:=st;obtain ⟨its,r,sq,z1⟩:=I.src q1;obtain ⟨u,hu,ru⟩:=r.get hx;have hle:l≠e:=I.src_ne q1 (hf e (by simp))
  have hli:l≠it:=I.src_ne q1 (hf it (by simp))
  have hil:i<its.toArray.size:=by
   rw [GJ,<- r.length];exact (HU.mp hx).1
  have D:Draws X.prog X.w X.A.in1 it [it,l] its.toArray.size (fun i v=>its.toArray[i]?=some v) (fun i h=>SrcTn b it l i h/\SrcSq b h l its.toArray):=Draws.src (A:=X.A.in1) (I.ok.hd hc) b it l hli its.toArray;refine wpAny_pyNext_enum_itemD D he ⟨h1,sq⟩ hil hei (by simp [hei,Hw hle]) fun v h' tk hv ho hs' hT hsz hk=>?_
  have ev:v=u:=by
   have hu':its.toArray[i]?=some u:=by simpa using hu
   rw [hu'] at hv;exact (HC hv).symm
  subst ev;refine ⟨_,rfl,wpAny_letOwnedTupleGo_enum ho fun h'' he'' hs''=>?_⟩;have hes:e≠s.heap.objs.size:=GW (GL he);have n1:SrcTn b it l (i+1) h'':=hs'.1.keep fun o q=>hs''.extBut _ o hei.symm q;have kk:∀c o,c∉[e,it]->s.heap.get? c=some o->h''.get? c=some o:=fun c o hc q=>
   hs''.extBut c o (fun z=>hc (by simp [z])) (hk c o (fun z=>hc (by simp [z])) (fun z=>hc (by simp [z])) q)
  have hT':h''.get? s.heap.objs.size=some { cls:=.type "tuple",data:=.seq #[.int i tk,v] }:=hs''.extBut _ _ hes.symm hT;have lv:∀c∈[e,it],∃o,s.heap.get? c=some o:=fun c hc=>by
   have hc':c=e\/c=it:=by simpa using hc
   rcases hc' with q|q<;>subst q
   ·exact ⟨_,he⟩
   ·obtain ⟨o,q,_⟩:=h1.lt;exact ⟨o,q⟩
  have lv':∀c∈[e,it],∃o,h''.get? c=some o:=fun c hc=>by
   have hc':c=e\/c=it:=by simpa using hc
   rcases hc' with q|q<;>subst q
   ·exact ⟨_,he''⟩
   ·obtain ⟨o,q,_⟩:=n1.lt;exact ⟨o,q⟩
  have hTn:H s.heap.objs.size=none:=I.hok.fresh (GO _);refine ⟨.ref s.heap.objs.size,_,I.turnedNew (s:=s) (h':=h'') (t':=tk+1) (zs:=[.int i,x]) (us:=[.int i tk,v]) hf kk lv lv' hT' rfl ⟨_,rfl⟩ (.cons ⟨tk,rfl⟩ (.cons ru .nil)) rfl (by show 2<=sizeLine;decide),rfl,⟨_,x,hTn,rfl,rfl,fun zs hzs'=>?_⟩,⟨⟨v,by simpa using he''⟩,n1⟩,fun c hc=>?_⟩
  ·rw [I.src_inj hzs' q1];exact hx
  ·obtain ⟨o,q⟩:=lv c hc
   rw [upd_ne (GW (GL q))];exact (hf c hc).1
 done:=by
  intro X hP hw hK hc i pins s σ H E I hf st hg;subst hP hw hK;obtain ⟨xs,q1,hx⟩:=hg;obtain ⟨⟨old,he⟩,h1⟩:=st;obtain ⟨its,r,sq,z1⟩:=I.src q1;have hli:l≠it:=I.src_ne q1 (hf it (by simp))
  have hT:s.TypeIs (.ref e) "enumerate":=⟨_,he,rfl⟩;have hl:=r.length;unfold pyNext
  refine wpAny_bind (wpAny_attempt (wpAny_callSpecial?_slot (name:=Hy "__next__") hT Mi
   (wpAny_call_entry Mi hT F.entry_enumerate_next ?_ (F.args_enumerate_next_1 _))))
  show wpAny _ _ (field (.ref e) 2 >>= _) _ _ _;refine wpAny_bind (wpAny_field he rfl (x:=.ref it) rfl ?_);refine wpAny_bind (cg (I.ok.hd hc) h1 sq (by simp;lia) fun h' x he' hx'=>?_)
  obtain ⟨o,ho,hcl⟩:=hx';refine wpAny_bind (wpAny_isInstance (T:="StopIteration") (b:=true) ⟨o,ho,hcl⟩ isSubtype_stop ?_);exact wpAny_pure ⟨rfl,I.turned4 (t':=s.toks) hf fun c o' hc' q=>he' c o' (fun z=>hc' (by simp [z])) q⟩
 self:=fun _ _ _ _ _ st h=>let ⟨⟨_,he⟩,_⟩:=st;wpAny_pyIter_enum he h
section
variable {X:Cx}
theorem oo:cA X (.builtin "isinstance") (fun xs H Q=>∃x T t b,xs=[x,.ty T]/\TyOf X.K H x t/\W.kitOne X.K t (.type T)=some b/\Q (.bl b) H):=by
 intro pins s σ H xs us Q I r h;obtain ⟨x,T,t,b,rfl,ty,e,q⟩:=h;obtain ⟨u,c,rfl,rx,rc⟩:=r.two;obtain rfl:c=KO T:=rc;exact uz I rx ty e fun tk=>⟨.bl b,H,I.tok tk,rfl,q⟩
end
end L2
namespace L2
open PySem PySem.Spec PyProof.Rows
abbrev yv(h:Heap)(z TI TO:Addr)(f0:Value)(f1:Bool):Prop:=
 h.get? z=some { cls:=.type "zip",dict:=none,data:=.fields #[f0,.bool f1,.bool false,.ref TI,.ref TO],slots:=#[] }
theorem eU:entryFor table "zip.__getattribute__"=some Builtin.«object.__getattribute__»:=
 entryFor_alias (id':="object.__getattribute__") (by kernel_rfl) (by decide +kernel) (by decide +kernel) (by kernel_rfl)
theorem ie:typeLookup (.type "zip") "__getattr__"=pure none:=by rw [typeLookup_type,builtinLookup_eq_fast];kernel_rfl
theorem nF:typeLookup (.type "zip") "keys"=pure none:=by rw [typeLookup_type,builtinLookup_eq_fast];kernel_rfl
theorem cJ:entryFor table "dict.update.loop"=some Builtin.«dict.update.loop»:=entryFor_of_fast (by kernel_rfl)
theorem bH:plainId "dict.update.loop"=true:=by decide +kernel
theorem ju(a TI TO:Addr)(f0:Value)(f1:Bool)(name:Str)(u:Tok)(hmiss:typeLookup (.type "zip") name=pure none)(hname:(["__module__","__name__","__qualname__","__doc__","__annotations__"]:List Str).contains name=false)(hsz:name.length+100<=sizeLine:=by size_fits):
  Meets (Builtin.«object.__getattribute__» ⟨[.ref a,.str name u],[]⟩) (fun A R s=>yv s.heap a TI TO f0 f1/\raisesAttr (.ref a) name A R s):=
 Meets.of_wp fun prog w A R s hs=>by
  obtain ⟨hp,g,d,tk,os⟩:=s;obtain ⟨hx,hs⟩:=hs;have hT:(⟨hp,g,d,tk,os⟩:Shared).TypeIs (.ref a) "zip":=⟨_,hx,rfl⟩;unfold Builtin.«object.__getattribute__»
  repeat (any_goals (first|assumption|wp_step))
  simp only [hname,GX,if_false]
  repeat (any_goals (first|assumption|wp_step))
  exact wpAny_raiseAttrError hs.1 hs.2 (attrMsg_fits (by decide +kernel) hsz)
section
variable {prog:Program}{w:World}{A:Around}{E:Value->Shared->Prop}{s:Shared}
theorem kA{a TI TO:Addr}{f0:Value}{f1:Bool}{Q:Option Value->Shared->Prop}(hx:yv s.heap a TI TO f0 f1)(hA:A.handled=none)
  (h:∀h' tk,(∀b o,s.heap.get? b=some o->h'.get? b=some o)->Q none { s with heap:=h',toks:=tk }):wpAny (model prog w) A (getAttr? (.ref a) "keys") Q E s:=by
 obtain ⟨hp,g,d,tk,os⟩:=s;have hT:∀tk',(⟨hp,g,d,tk',os⟩:Shared).TypeIs (.ref a) "zip":=fun _=>⟨_,hx,rfl⟩;have f1':=sub_AttributeError;have f3:=JS.lookup;have f4:=JS.bind (.ref a);have f5:=ie;unfold getAttr? getAttrBy? getAttrBy
 repeat (any_goals (first|assumption|exact hT _|((with_reducible show wpAny _ _ (call (Value.builtin "zip.__getattribute__") _ _) _ _ _);refine call_meets JS (hT _) eU (F.args_zip_getattribute_2 _ _) (ju a TI TO f0 f1 "keys" _ nF (by decide +kernel) (by decide +kernel)) ⟨hx,hA,fun h' tk' e hx'=>?_⟩)|wp_step))
 obtain ⟨t',u',he⟩:=hx'.there;show wpAny _ _ (getattributeRaised _ _ _ _ _ _ _) _ _ _;unfold getattributeRaised
 repeat (any_goals (first|assumption|wp_step))
 exact h _ _ hx'.keeps
theorem jr{M:Model}{a:Addr}{o:Obj}{Q:Option Obj->Shared->Prop}(ho:s.heap.get? a=some o)(h:Q (some o) s):wpAny M A (loadIfAlive a) Q E s:=fun Γ p _=>by
 show Sem.wp M Γ (.loadIfAlive a .pure) _ _ p s;rw [Sem.wp_loadIfAlive,ho];exact h
end
end L2
namespace L2
open PySem PySem.Spec PyProof.Rows
section
variable {prog:Program}{w:World}{A:Around}{E:Value->Shared->Prop}{s:Shared}
theorem uU{b1 b2 f1:Bool}{z TI TO T i1 i2 l1 l2:Addr}{k1 k2:Nat}{xs ys:Array Value}{x y:Value}{oT:Obj}{Q:Value->Shared->Prop}(D:ZApart z TI TO i1 i2)(O1:l1≠z/\l1≠i1)(O2:l2≠z/\l2≠i1/\l2≠i2)
  (hz:yv s.heap z TI TO (rawInt T) f1) (hT:s.heap.get? T=some oT) (hTI:IsPair s.heap TI (.ref i1) (.ref i2))
  (h1:SrcTn b1 i1 l1 k1 s.heap) (h2:SrcTn b2 i2 l2 k2 s.heap) (hl1:SrcSq b1 s.heap l1 xs) (hl2:SrcSq b2 s.heap l2 ys) (hx:xs[k1]?=some x) (hy:ys[k2]?=some y)
  (hQ:∀h',yv h' z TI TO (rawInt T) true->SrcTn b1 i1 l1 (k1+1) h'->SrcTn b2 i2 l2 (k2+1) h'->IsPair h' s.heap.objs.size x y->h'.objs.size=s.heap.objs.size+1->
   (∀c o,c≠z->c≠i1->c≠i2->s.heap.get? c=some o->h'.get? c=some o)->Q (.ref s.heap.objs.size) { s with heap:=h' }):
  wpAny (model prog w) A (Builtin.«zip.__next__» ⟨[.ref z],[]⟩) (fun fin s'=>∃v,fin=.done (.ret v)/\Q v s') E s:=by
 show wpAny _ _ (field (.ref z) 2 >>= _) _ _ _;refine wpAny_bind (wpAny_field hz rfl (x:=.bool false) rfl ?_);show wpAny _ _ (field (.ref z) 3 >>= _) _ _ _;refine wpAny_bind (wpAny_field hz rfl (x:=.ref TI) rfl ?_);refine wpAny_bind (wpAny_seqItems hTI rfl ?_);show wpAny _ _ (Hh (.ref z) >>= _) _ _ _;refine wpAny_bind ?_;unfold Hh;refine wpAny_bind (wpAny_field hz rfl (x:=rawInt T) rfl ?_);show wpAny _ _ (loadIfAlive _ >>= _) _ _ _;refine wpAny_bind (jr (o:=oT) (by simpa using hT) ?_)
 simp only [L5,GX,if_false];refine wpAny_bind (wpAny_field hz rfl (x:=.bool f1) rfl ?_)
 have go:wpAny (model prog w) A (if (IM f1 != IM true)=true then do setField (Hb z) 1 (IM true);pure false else pure false)
   (fun a s'=>a=false/\∃h₀,s'={ s with heap:=h₀ }/\yv h₀ z TI TO (rawInt T) true/\(∀c o,c≠z->s.heap.get? c=some o->h₀.get? c=some o)/\h₀.objs.size=s.heap.objs.size) E s:=by
  cases f1 with
  |true=>
   rw [if_neg (by decide)]
   exact wpAny_pure ⟨rfl,s.heap,rfl,hz,fun _ _ _ e=>e,rfl⟩
  |false=>
   rw [if_pos (by decide)]
   refine wpAny_bind (wpAny_setField_rec hz (by simp) fun h₀ hz₀ hs₀=>wpAny_pure ⟨rfl,h₀,rfl,hz₀,fun c o hc e=>hs₀.extBut c o hc e,hs₀.1⟩)
 refine wpAny_mono go (fun a s' hq=>?_) fun _ _ e=>e;obtain ⟨rfl,h₀,rfl,hz₀,hk₀,hs₀⟩:=hq;simp only [GX,if_false];rw [<- Me];simp only [JW,J4];refine wpAny_bind (wpAny_bind (wpAny_bind (wpAny_holding ?_)));show wpAny _ _ (GZ (.ref i1) >>= _) _ _ _;refine wpAny_bind (bO (s:={ s with heap:=h₀ }) (h1.keep fun o e=>hk₀ _ o D.i1z e) (hl1.keep fun o e=>hk₀ _ o O1.1 e) hx fun h₂ h1₂ hs₂=>wpAny_pure ?_);refine wpAny_pure ?_;refine wpAny_bind (wpAny_bind (wpAny_holding ?_));show wpAny _ _ (GZ (.ref i2) >>= _) _ _ _;refine wpAny_bind (bO (s:={ s with heap:=h₂ }) (h2.keep fun o e=>hs₂.extBut _ o D.i12.symm (hk₀ _ o D.i2z e)) (hl2.keep fun o e=>hs₂.extBut _ o O2.2.1 (hk₀ _ o O2.1 e)) hy fun h₃ h2₃ hs₃=>wpAny_pure ?_);refine wpAny_pure (wpAny_pure ?_);refine wpAny_bind (wpAny_newTuple (wpAny_pure ⟨_,rfl,?_⟩) (by show 2<=sizeLine;decide))
 have e2:h₂.objs.size=h₀.objs.size:=hs₂.1;have e3:h₃.objs.size=h₂.objs.size:=hs₃.1;have hsz:h₃.objs.size=s.heap.objs.size:=by rw [e3,e2,hs₀]
 have zl:z≠i1:=D.i1z.symm;have zl2:z≠i2:=D.i2z.symm;show Q (.ref h₃.objs.size) _;rw [hsz];refine hQ _ (GC _ (hs₃.extBut _ _ zl2 (hs₂.extBut _ _ zl hz₀))) (h1₂.keep fun o e=>GC _ (hs₃.extBut _ o D.i12 e)) (h2₃.keep fun o e=>GC _ e) ?_ ?_ fun c o c1 c2 c3 e=>GC _ (hs₃.extBut _ _ c3 (hs₂.extBut _ _ c2 (hk₀ c o c1 e)))
 ·rw [<- hsz]
  exact GN _ rfl
 ·rw [Hz,hsz]
theorem vy{b1 b2 f1:Bool}{z TI TO T i1 i2 l1 l2:Addr}{k1 k2:Nat}{xs ys:Array Value}{oT:Obj}{Q:Fin->Shared->Prop}(hh:A.handled=none)(D:ZApart z TI TO i1 i2)(O1:l1≠z/\l1≠i1)
  (hz:yv s.heap z TI TO (rawInt T) f1) (hT:s.heap.get? T=some oT) (hTI:IsPair s.heap TI (.ref i1) (.ref i2))
  (h1:SrcTn b1 i1 l1 k1 s.heap) (hl1:SrcSq b1 s.heap l1 xs) (hx:xs[k1]?=none)
  (hE:∀h' e,(∀c o,c≠z->c≠i1->s.heap.get? c=some o->h'.get? c=some o)->(∃o,h'.get? e=some o/\o.cls=.type "StopIteration")->E (.ref e) { s with heap:=h' }):
  wpAny (model prog w) A (Builtin.«zip.__next__» ⟨[.ref z],[]⟩) Q E s:=by
 show wpAny _ _ (field (.ref z) 2 >>= _) _ _ _;refine wpAny_bind (wpAny_field hz rfl (x:=.bool false) rfl ?_);show wpAny _ _ (field (.ref z) 3 >>= _) _ _ _;refine wpAny_bind (wpAny_field hz rfl (x:=.ref TI) rfl ?_);refine wpAny_bind (wpAny_seqItems hTI rfl ?_);show wpAny _ _ (Hh (.ref z) >>= _) _ _ _;refine wpAny_bind ?_;unfold Hh;refine wpAny_bind (wpAny_field hz rfl (x:=rawInt T) rfl ?_);show wpAny _ _ (loadIfAlive _ >>= _) _ _ _;refine wpAny_bind (jr (o:=oT) (by simpa using hT) ?_)
 simp only [L5,GX,if_false];refine wpAny_bind (wpAny_field hz rfl (x:=.bool f1) rfl ?_)
 have go:wpAny (model prog w) A (if (IM f1 != IM true)=true then do setField (Hb z) 1 (IM true);pure false else pure false)
   (fun a s'=>a=false/\∃h₀,s'={ s with heap:=h₀ }/\(∀c o,c≠z->s.heap.get? c=some o->h₀.get? c=some o)) E s:=by
  cases f1 with
  |true=>
   rw [if_neg (by decide)]
   exact wpAny_pure ⟨rfl,s.heap,rfl,fun _ _ _ e=>e⟩
  |false=>
   rw [if_pos (by decide)]
   refine wpAny_bind (wpAny_setField_rec hz (by simp) fun h₀ hz₀ hs₀=>wpAny_pure ⟨rfl,h₀,rfl,fun c o hc e=>hs₀.extBut c o hc e⟩)
 refine wpAny_mono go (fun a s' hq=>?_) fun _ _ e=>e;obtain ⟨rfl,h₀,rfl,hk₀⟩:=hq;simp only [GX,if_false];rw [<- Me];simp only [JW,J4];refine wpAny_bind (wpAny_bind (wpAny_bind (wpAny_holding ?_)));show wpAny _ _ (GZ (.ref i1) >>= _) _ _ _;exact wpAny_bind (cg (s:={ s with heap:=h₀ }) hh (h1.keep fun o e=>hk₀ _ o D.i1z e) (hl1.keep fun o e=>hk₀ _ o O1.1 e) hx fun h₂ e hs₂ he=>hE h₂ e (fun c o c1 c2 q=>hs₂ _ _ c2 (hk₀ c o c1 q)) he)
theorem ia{b1 b2 f1:Bool}{z TI TO T i1 i2 l1 l2:Addr}{k1 k2:Nat}{xs ys:Array Value}{x y:Value}{oT:Obj}{Q:Option Value->Shared->Prop}(D:ZApart z TI TO i1 i2)(O1:l1≠z/\l1≠i1)(O2:l2≠z/\l2≠i1/\l2≠i2)
  (hz:yv s.heap z TI TO (rawInt T) f1) (hT:s.heap.get? T=some oT) (hTI:IsPair s.heap TI (.ref i1) (.ref i2))
  (h1:SrcTn b1 i1 l1 k1 s.heap) (h2:SrcTn b2 i2 l2 k2 s.heap) (hl1:SrcSq b1 s.heap l1 xs) (hl2:SrcSq b2 s.heap l2 ys) (hx:xs[k1]?=some x) (hy:ys[k2]?=some y)
  (hQ:∀h',yv h' z TI TO (rawInt T) true->SrcTn b1 i1 l1 (k1+1) h'->SrcTn b2 i2 l2 (k2+1) h'->IsPair h' s.heap.objs.size x y->h'.objs.size=s.heap.objs.size+1->
   (∀c o,c≠z->c≠i1->c≠i2->s.heap.get? c=some o->h'.get? c=some o)->Q (some (.ref s.heap.objs.size)) { s with heap:=h' }):wpAny (model prog w) A (pyNext (.ref z)) Q E s:=by
 have hTy:s.TypeIs (.ref z) "zip":=⟨_,hz,rfl⟩;unfold pyNext
 exact wpAny_bind (wpAny_attempt (wpAny_callSpecial?_slot (name:=Hy "__next__") hTy Iw
  (wpAny_call_entry Iw hTy JU (uU D O1 O2 hz hT hTI h1 h2 hl1 hl2 hx hy fun h' a1 a2 a3 a4 a5 a6=>wpAny_pure (hQ h' a1 a2 a3 a4 a5 a6)) (JK _))))
theorem iG{b1 f1:Bool}{z TI TO T i1 i2 l1:Addr}{k1:Nat}{xs:Array Value}{oT:Obj}{Q:Option Value->Shared->Prop}(hh:A.handled=none)(D:ZApart z TI TO i1 i2)(O1:l1≠z/\l1≠i1)
  (hz:yv s.heap z TI TO (rawInt T) f1) (hT:s.heap.get? T=some oT) (hTI:IsPair s.heap TI (.ref i1) (.ref i2)) (h1:SrcTn b1 i1 l1 k1 s.heap) (hl1:SrcSq b1 s.heap l1 xs) (hx:xs[k1]?=none)
  (hQ:∀h',(∀c o,c≠z->c≠i1->s.heap.get? c=some o->h'.get? c=some o)->Q none { s with heap:=h' }):wpAny (model prog w) A (pyNext (.ref z)) Q E s:=by
 have hTy:s.TypeIs (.ref z) "zip":=⟨_,hz,rfl⟩;unfold pyNext
 refine wpAny_bind (wpAny_attempt (wpAny_callSpecial?_slot (name:=Hy "__next__") hTy Iw
  (wpAny_call_entry Iw hTy JU (vy (b2:=true) (l2:=l1) (k2:=0) (ys:=#[]) hh D O1 hz hT hTI h1 hl1 hx fun h' e hk he=>?_) (JK _))))
 obtain ⟨o,ho,hc⟩:=he;refine wpAny_bind (wpAny_isInstance (T:="StopIteration") (b:=true) ⟨o,ho,hc⟩ isSubtype_stop ?_);exact wpAny_pure (hQ _ hk)
end
theorem ui{prog:Program}{w:World}{K:Type}[DecidableEq K]{knd:KeyKind prog w K}{A:Around}{R:Result->Shared->Prop}{b1 b2:Bool}{z TI TO T i1 i2 l1 l2 d:Addr}{xs ys:List Value}{ks:List K}(hh:A.handled=none)(D:ZApart z TI TO i1 i2)
  (O1:l1≠z/\l1≠i1/\l1≠i2/\l1≠d) (O2:l2≠z/\l2≠i1/\l2≠i2/\l2≠d) (Od:d≠z/\d≠i1/\d≠i2/\d≠TI/\d≠T) (OT:T≠z/\T≠i1/\T≠i2)
  (hk:Paired (fun k v=>knd.is k v=true) ks xs) (hl:xs.length=ys.length) (hz:xs.length<=1000):
  ∀(n i:Nat) (s:Shared) (f1:Bool) (kvs:List (K×Value)),n=xs.length-i->i<=xs.length->kvs.length<=i->yv s.heap z TI TO (rawInt T) f1->(∃oT,s.heap.get? T=some oT)->IsPair s.heap TI (.ref i1) (.ref i2)->
   SrcTn b1 i1 l1 i s.heap->SrcTn b2 i2 l2 i s.heap->SrcSq b1 s.heap l1 xs.toArray->SrcSq b2 s.heap l2 ys.toArray->s.heap.DictOf knd d kvs->
   (∀s':Shared,s'.os=s.os->s'.gens=s.gens->s'.drawn=s.drawn->s'.heap.DictOf knd d (((ks.zip ys).drop i).foldl (fun a p=>stored a p.1 p.2) kvs)->(∀c o,c≠z->c≠i1->c≠i2->c≠d->s.heap.get? c=some o->s'.heap.get? c=some o)->R (.ok (.ret .none)) s')->
   ∀tk:Nat,codeAny (model prog w) A (.builtin "dict.update.loop" ⟨[.ref d,.ref z,rawInt tk,.none],[]⟩) R s:=by
 intro n
 induction n with
 |zero=>
  intro i s f1 kvs hn hi hkl hzz hT hTI h1 h2 s1 s2 hd hR tk;obtain ⟨oT,hT⟩:=hT;have hin:i=xs.length:=by lia
  refine codeAny_builtin cJ ?_;rw [JY bH _];show wpAny _ A.in1 (pyNext (.ref z) >>= _) _ _ s;refine wpAny_bind (iG hh D ⟨O1.1,O1.2.1⟩ hzz hT hTI h1 s1 (by simp;lia) fun h' hk'=>?_)
  refine wpAny_bind (m:=Builtin.Dict.addKeywords d []) (wpAny_pure ?_);refine wpAny_pure (hR _ rfl rfl rfl ?_ fun c o c1 c2 c3 c4 e=>hk' c o c1 c2 e);rw [JQ (by have e:=Ik hk;rw [Jl];lia)]
  obtain ⟨o,es,ep,ho,r⟩:=hd;exact ⟨o,es,ep,hk' d o Od.1 Od.2.1 ho,r⟩
 |succ n ih=>
  intro i s f1 kvs hn hi hkl hzz hT hTI h1 h2 s1 s2 hd hR tk;obtain ⟨oT,hT⟩:=hT;have hlt:i<xs.length:=by lia
  have hlt2:i<ys.length:=by lia
  refine codeAny_builtin cJ ?_;rw [JY bH _];show wpAny _ A.in1 (pyNext (.ref z) >>= _) _ _ s;refine wpAny_bind (ia (x:=xs[i]) (y:=ys[i]) D ⟨O1.1,O1.2.1⟩ ⟨O2.1,O2.2.1,O2.2.2.1⟩ hzz hT hTI h1 h2 s1 s2 (by simp [hlt]) (by simp [hlt2]) fun h' a1 a2 a3 a4 a5 hk'=>?_)
  have hTy:({ s with heap:=h' }:Shared).TypeIs (.ref s.heap.objs.size) "tuple":=⟨_,a4,rfl⟩;refine wpAny_bind (wpAny_holding (wpAny_bind (wpAny_tryCatch ?_)));unfold Kw;refine wpAny_bind (wpAny_typeOf hTy ?_);rw [if_pos (by decide)]
  refine wpAny_bind (wpAny_seqItems (s:={ s with heap:=h' }) a4 rfl (wpAny_pure ?_));have hd':h'.DictOf knd d kvs:=by
   obtain ⟨o,es,ep,ho,r⟩:=hd;exact ⟨o,es,ep,hk' d o Od.1 Od.2.1 Od.2.2.1 ho,r⟩
  have hks:i<ks.length:=by rw [Ik hk];exact hlt
  have hkey:knd.is ks[i] xs[i]=true:=by
   have:∀{l₁:List K} {l₂:List Value},Paired (fun k v=>knd.is k v=true) l₁ l₂->∀(j:Nat) (h1:j<l₁.length) (h2:j<l₂.length),knd.is l₁[j] l₂[j]=true:=by
    intro l₁ l₂ p
    induction p with
    |nil=>intro j h1;exact absurd h1 (IZ _)
    |cons r _ ihp=>
     intro j h1 h2;cases j with
     |zero=>exact r
     |succ j=>exact ihp j (by simpa using h1) (by simpa using h2)
   exact this hk i hks hlt
  have hkz:kvs.length<=sizeLine:=Hd (Hd hkl hi) (Hd hz (by decide))
  show wpAny _ _ (holding [xs[i],ys[i]] (dictSet d xs[i] ys[i])) _ _ _;refine wpAny_holding (wpAny_dictSet_pairs (s:={ s with heap:=h' }) hkey hd' (fun h'' hd'' hs''=>?_) hkz);have kk:∀c o,c≠z->c≠i1->c≠i2->c≠d->s.heap.get? c=some o->h''.get? c=some o:=fun c o c1 c2 c3 c4 e=>hs''.extBut c o c4 (hk' c o c1 c2 c3 e);refine wpAny_pure ⟨plainId_quiet bH _,?_⟩;have hst:(stored kvs ks[i] ys[i]).length<=i+1:=by
   unfold stored
   split
   ·rw [GF];lia
   ·rw [GP,JZ];lia
  refine ih (i+1) { s with heap:=h'',toks:=s.toks+1 } true (stored kvs ks[i] ys[i]) (by lia) hlt hst (hs''.extBut _ _ Od.1.symm a1) ⟨oT,kk T oT OT.1 OT.2.1 OT.2.2 Od.2.2.2.2.symm hT⟩ (kk TI _ D.TIz D.TIi1 D.TIi2 Od.2.2.2.1.symm hTI)
   (a2.keep fun o e=>hs''.extBut _ o Od.2.1.symm e) (a3.keep fun o e=>hs''.extBut _ o Od.2.2.1.symm e) (s1.keep fun o e=>kk l1 o O1.1 O1.2.1 O1.2.2.1 O1.2.2.2 e) (s2.keep fun o e=>kk l2 o O2.1 O2.2.1 O2.2.2.1 O2.2.2.2 e) hd'' ?_ (tk+1)
  intro s' q1 q2 q3 q4 q5;refine hR s' q1 q2 q3 ?_ fun c o c1 c2 c3 c4 e=>q5 c o c1 c2 c3 c4 (kk c o c1 c2 c3 c4 e);have ez:(ks.zip ys).drop i=(ks[i],ys[i])::(ks.zip ys).drop (i+1):=by
   rw [IU (by rw [Jl];lia)]
   simp
  rw [ez,Ir];exact q4
namespace F
theorem mro_dict:mroOf (.type "dict")=pure [.type "dict",.type "object"]:=by rw [mroOf_type];kernel_rfl
theorem iL:typeLookup (.type "dict") "__new__"=pure (some (.builtin "dict.__new__")):=by rw [typeLookup_type,builtinLookup_eq_fast];kernel_rfl
theorem called_dict:TypeCalled "dict" "dict.__new__" "dict.__init__":=
 ⟨by decide +kernel,by decide +kernel,⟨_,_,mro_dict⟩,madeBy_type mro_dict iL (by decide +kernel),by decide +kernel,by rw [isSubtype_type];kernel_rfl,PySem.F.slot_dict_init⟩
theorem typeCall_dict_1(a:Value):checkTypeCall "dict" ⟨[a],[]⟩=pure ():=by kernel_rfl
theorem newCall_dict_1(a:Value):checkBuiltinCall "dict.__new__" ⟨[.type "dict",a],[]⟩=pure ():=by kernel_rfl
theorem entry_dict_new:entryFor table "dict.__new__"=some Builtin.«dict.__new__»:=entryFor_of_tree (by kernel_rfl)
theorem plain_dict_new:plainId "dict.__new__"=true:=by decide +kernel
theorem sub_dict:isSubtype (.type "dict") (.type "dict")=pure true:=by rw [isSubtype_type];kernel_rfl
end F
section
variable {prog:Program}{w:World}{K:Type}[DecidableEq K]{knd:KeyKind prog w K}{A:Around}{E:Value->Shared->Prop}{s:Shared}
theorem ki(a:Value){Q₁:Value->Shared->Prop}(h:Q₁ (.ref s.heap.objs.size) { s with heap:=s.heap.push { cls:=.type "dict",data:=.dict #[] } }):
  codeAny (model prog w) A (.call (.builtin "dict.__new__") ⟨[.type "dict",a],[]⟩) (wants Q₁ E) s:=by
 refine codeAny_call_builtin F.plain_dict_new F.entry_dict_new (wpAny_of_eq (F.newCall_dict_1 a) ?_);have hsub:=F.sub_dict;have hmro:=F.mro_dict;obtain ⟨hp,g,d,tk,os⟩:=s;unfold Builtin.«dict.__new__»
 wp_walk
 exact h
theorem ku{b1 b2:Bool}{z TI TO i1 i2 l1 l2:Addr}{xs ys:List Value}{ks:List K}{Q:Value->Shared->Prop}(hh:A.handled=none)(D:ZApart z TI TO i1 i2)(O1:pN z TO i1 i2 l1)(O2:pN z TO i1 i2 l2)
  (hz:IsZip s.heap z TI TO .none) (hTI:IsPair s.heap TI (.ref i1) (.ref i2)) (hTO:∃a b,IsPair s.heap TO a b) (h1:SrcTn b1 i1 l1 0 s.heap) (h2:SrcTn b2 i2 l2 0 s.heap) (hl1:SrcSq b1 s.heap l1 xs.toArray) (hl2:SrcSq b2 s.heap l2 ys.toArray)
  (hk:Paired (fun k v=>knd.is k v=true) ks xs) (hl:xs.length=ys.length) (hz0:0<xs.length) (hzz:xs.length<=1000)
  (h:∀s':Shared,s'.os=s.os->s'.gens=s.gens->s'.drawn=s.drawn->s'.heap.DictOf knd s.heap.objs.size ((ks.zip ys).foldl (fun a p=>stored a p.1 p.2) [])->
   (∀c o,c≠z->c≠TO->c≠i1->c≠i2->s.heap.get? c=some o->s'.heap.get? c=some o)->Q (.ref s.heap.objs.size) s'):
  wpAny (model prog w) A (call (.type "dict") [.ref z]) Q E s:=by
 refine callType_codes (Q₁:=fun obj s₁=>obj=.ref s.heap.objs.size/\s₁={ s with heap:=s.heap.push { cls:=.type "dict",data:=.dict #[] } }) F.called_dict (F.typeCall_dict_1 _) F.entry_dict_init (ki _ ⟨rfl,rfl⟩) ?_
 rintro obj s₁ ⟨rfl,rfl⟩
 have hnew:(s.heap.push { cls:=.type "dict",data:=.dict #[] }).DictOf knd s.heap.objs.size []:=LF s.heap;refine ⟨hnew.typeIs,F.args_dict_init_2 _ _,?_⟩;unfold Builtin.«dict.__init__»;refine wpAny_bind ?_;unfold Builtin.Dict.selfAndRest;refine wpAny_bind (wpAny_notOrdered_dict hnew.typeIs ?_);show wpAny _ _ (pure (s.heap.objs.size,[Hb z])) _ _ _;refine wpAny_pure ?_;show wpAny _ _ (Kr "dict.__init__" s.heap.objs.size (.ref z) [] .none) _ _ _;unfold Kr;have hdz:∀c o,s.heap.get? c=some o->c≠s.heap.objs.size:=fun c o e=>GW (GL e);have up:∀c o,s.heap.get? c=some o->(s.heap.push { cls:=.type "dict",data:=.dict #[] }).get? c=some o:=fun c o e=>GC _ e;refine wpAny_bind (wpAny_typeOf (T:="zip") ⟨_,up _ _ hz,rfl⟩ ?_);rw [if_pos (by decide)]
 refine wpAny_bind (kA (f1:=false) (s:={ s with heap:=s.heap.push { cls:=.type "dict",data:=.dict #[] } }) (up _ _ hz) hh fun h₁ tk₁ hk₁=>?_);rw [if_pos (show (none:Option Value).isNone=true from rfl)];have up1:∀c o,s.heap.get? c=some o->h₁.get? c=some o:=fun c o e=>hk₁ c o (up c o e);refine wpAny_bind (wpAny_rule (wpAny_bind (wpAny_pyIter_zip (s:={ s with heap:=h₁,toks:=tk₁ }) (up1 _ _ hz) (wpAny_pure ⟨plainId_quiet bH _,codeAny_builtin cJ ?_⟩))));rw [JY bH _];show wpAny _ A.in1.in1 (pyNext (.ref z) >>= _) _ _ _;obtain ⟨a,b,hTO⟩:=hTO;have hlt2:0<ys.length:=by lia
 have hd1:h₁.DictOf knd s.heap.objs.size []:=by
  obtain ⟨o,es,ep,ho,r⟩:=hnew;exact ⟨o,es,ep,hk₁ _ o ho,r⟩
 have hnz:s.heap.objs.size≠z:=(hdz _ _ hz).symm;have hnTI:s.heap.objs.size≠TI:=(hdz _ _ hTI).symm;have hnTO:s.heap.objs.size≠TO:=(hdz _ _ hTO).symm;have hni1:s.heap.objs.size≠i1:=by obtain ⟨o,e,_⟩:=h1.lt;exact (hdz _ _ e).symm
 have hni2:s.heap.objs.size≠i2:=by obtain ⟨o,e,_⟩:=h2.lt;exact (hdz _ _ e).symm
 have nl:∀{b:Bool} {l:Addr} {us:Array Value},SrcSq b s.heap l us->l≠s.heap.objs.size:=fun {b l us} q=>by
  cases b with
  |true=>obtain ⟨o,e,_⟩:=(show s.heap.IsList l us from q);exact hdz _ _ e
  |false=>obtain ⟨o,e,_⟩:=(show s.heap.IsTuple l us from q);exact hdz _ _ e
 refine wpAny_bind (eZ (s:={ s with heap:=h₁,toks:=tk₁ }) (x:=xs[0]) (y:=ys[0]) D O1 O2 (up1 _ _ hz) (up1 _ _ hTI) (up1 _ _ hTO) (h1.keep fun o e=>up1 _ o e) (h2.keep fun o e=>up1 _ o e) (hl1.keep fun o e=>up1 _ o e) (hl2.keep fun o e=>up1 _ o e) (by simp [hz0]) (by simp [hlt2]) fun h₂ a1 a2 a3 a4 a5 a6 hk₂=>?_)
 have hTy:({ s with heap:=h₂,toks:=tk₁ }:Shared).TypeIs (.ref h₁.objs.size) "tuple":=⟨_,a5,rfl⟩;refine wpAny_bind (wpAny_holding (wpAny_bind (wpAny_tryCatch ?_)));unfold Kw;refine wpAny_bind (wpAny_typeOf hTy ?_);rw [if_pos (by decide)]
 refine wpAny_bind (wpAny_seqItems (s:={ s with heap:=h₂,toks:=tk₁ }) a5 rfl (wpAny_pure ?_));have hks:0<ks.length:=by rw [Ik hk];exact hz0
 have hkey:knd.is ks[0] xs[0]=true:=by
  cases hk with
  |nil=>exact absurd hz0 (HJ _)
  |cons r _=>exact r
 have hd2:h₂.DictOf knd s.heap.objs.size []:=by
  obtain ⟨o,es,ep,ho,r⟩:=hd1;exact ⟨o,es,ep,hk₂ _ o hnz hnTO hni1 hni2 ho,r⟩
 show wpAny _ _ (holding [xs[0],ys[0]] (dictSet s.heap.objs.size xs[0] ys[0])) _ _ _;refine wpAny_holding (wpAny_dictSet_pairs (s:={ s with heap:=h₂,toks:=tk₁ }) hkey hd2 (fun h₃ hd₃ hs₃=>?_) (Hn _));refine wpAny_pure ⟨plainId_quiet bH _,?_⟩;have T1:∀c o,h₁.get? c=some o->h₁.objs.size≠c:=fun c o e=>Iv (GL e);have hdl:s.heap.objs.size<h₁.objs.size:=by obtain ⟨o,es,ep,ho,r⟩:=hd1;exact GL ho
 have kk:∀c o,c≠z->c≠TO->c≠i1->c≠i2->c≠s.heap.objs.size->s.heap.get? c=some o->h₃.get? c=some o:=fun c o c1 c2 c3 c4 c5 e=>hs₃.extBut c o c5 (hk₂ c o c1 c2 c3 c4 (up1 c o e));have hst:(stored ([]:List (K×Value)) ks[0] ys[0]).length<=1:=by simp [stored]
 refine ui (A:=A.in1) (T:=h₁.objs.size) (l1:=l1) (l2:=l2) (xs:=xs) (ys:=ys) (ks:=ks) hh D ⟨O1.1,O1.2.2.1,O1.2.2.2,nl hl1⟩ ⟨O2.1,O2.2.2.1,O2.2.2.2,nl hl2⟩ ⟨hnz,hni1,hni2,hnTI,GW hdl⟩
  ⟨T1 _ _ (up1 _ _ hz),(by obtain ⟨o,e,_⟩:=h1.lt;exact T1 _ _ (up1 _ _ e)),(by obtain ⟨o,e,_⟩:=h2.lt;exact T1 _ _ (up1 _ _ e))⟩ hk hl hzz (xs.length-1) 1 { s with heap:=h₃,toks:=tk₁+1 } false (stored [] ks[0] ys[0]) rfl hz0 hst
  (hs₃.extBut _ _ hnz.symm a1) ⟨_,hs₃.extBut _ _ (Iv hdl) a5⟩ (kk TI _ D.TIz D.TITO D.TIi1 D.TIi2 hnTI.symm hTI) (a3.keep fun o e=>hs₃.extBut _ o hni1.symm e) (a4.keep fun o e=>hs₃.extBut _ o hni2.symm e)
  (hl1.keep fun o e=>kk l1 o O1.1 O1.2.1 O1.2.2.1 O1.2.2.2 (nl hl1) e) (hl2.keep fun o e=>kk l2 o O2.1 O2.2.1 O2.2.2.1 O2.2.2.2 (nl hl2) e) hd₃ ?_ 1
 intro s' q1 q2 q3 q4 q5;refine ⟨rfl,h s' q1 q2 q3 ?_ fun c o c1 c2 c3 c4 e=>q5 c o c1 c3 c4 (hdz c o e) (kk c o c1 c2 c3 c4 (hdz c o e) e)⟩;have ez:ks.zip ys=(ks[0],ys[0])::(ks.zip ys).drop 1:=by
  have:=IU (l:=ks.zip ys) (i:=0) (by rw [Jl];lia)
  simpa using this
 rw [ez,Ir];exact q4
end
end L2
namespace L2
open PySem PySem.Spec PyProof.Rows
theorem i7:fillsNumberSlot (.type "tuple") "mul"=pure false:=
 PySem.fillsNumberSlot_seq (id:="tuple.__mul__") (r:=some (.builtin "tuple.__rmul__")) IB.lookup (by decide +kernel) KU.lookup (by decide +kernel)
theorem lC:seqRepeat? (.type "tuple")=pure (some (.builtin "tuple.__mul__")):=by
 unfold seqRepeat?;rw [PySem.seqSlot_of (T:="tuple") (name:="__mul__") (id:="tuple.__mul__") IB.lookup (by decide +kernel),PySem.seqSlot_of (T:="tuple") (name:="__rmul__") (id:="tuple.__rmul__") KU.lookup (by decide +kernel)]
 rfl
theorem kd(a:Int)(t:Tok)(l:Addr)(items:Array Value)(n:Nat)(dd:Option Addr)(sl:Array (Option Value)):
  Meets (Builtin.«int.__rmul__» ⟨[.int a t,.ref l],[]⟩) (fun _ R s=>s.heap.get? l=some { cls:=.type "tuple",dict:=dd,data:=.seq items n,slots:=sl }/\R (.ok (.ret Value.notImplemented)) s):=
 .of_wp fun prog w A R s h=>by obtain ⟨hp,g,d,tk,os⟩:=s;obtain ⟨hl,h⟩:=h;wp_walk;exact ⟨_,rfl,h⟩
theorem jL(l:Addr)(items:Array Value)(n:Nat)(dd:Option Addr)(sl:Array (Option Value))(x:Int)(u:Tok)(hx:1<x)(hx2:x<=1000)(hi:items.size<=1000)(h0:items.isEmpty=false):
  Meets (Builtin.«tuple.__mul__» ⟨[.ref l,.int x u],[]⟩) (fun _ R s=>s.heap.get? l=some { cls:=.type "tuple",dict:=dd,data:=.seq items n,slots:=sl }/\
   R (.ok (.ret (.ref s.heap.objs.size))) { s with heap:=s.heap.push { cls:=.type "tuple",data:=.seq ((GK x.toNat items).foldl (·++·) #[]) } }):=
 .of_wp fun prog w A R s h=>by
  obtain ⟨hp,g,d,tk,os⟩:=s;obtain ⟨hl,h⟩:=h;have f1:=Kg;have f2:=Jq;have g1:(decide (x < -(2 ^ 63))||decide (x>=2 ^ 63))=false:=by simp;lia
  have g2:(items.isEmpty||x==1)=false:=by rw [h0];simp;lia
  have g3:(decide (x<=0)||items.isEmpty)=false:=by rw [h0];simp;lia
  have hm:(items.size:Int)*x<=1000000:=by
   have a1:(items.size:Int)*x<=1000*x:=Int.mul_le_mul_of_nonneg_right (by lia) (by lia)
   lia
  have hm2:¬((items.size:Int)*x>(2 ^ 63-1) / 8):=by lia
  have hm3:J9 ((items.size:Int)*x)=false:=by
   unfold J9;have:(1000000:Int)<=(sizeLine:Int):=by decide
   exact decide_eq_false (by lia)
  wp_walk using wpAny_loadPart' hl
  try simp only [g1,GX,if_false]
  wp_walk using wpAny_loadPart' hl
  try simp only [g2,GX,if_false]
  wp_walk using wpAny_loadPart' hl
  try simp only [g3,GX,if_false]
  wp_walk using wpAny_loadPart' hl
  rw [if_neg hm2];simp only [hm3,GX,if_false];unfold Ip;have hlen:((GK x.toNat items).foldl (·++·) #[]).toList.length<=sizeLine:=by
   have e:∀(k:Nat) (acc:Array Value),((GK k items).foldl (·++·) acc).size=acc.size+k*items.size:=by
    intro k
    induction k with
    |zero=>intro acc;simp
    |succ k ih=>intro acc;rw [He,Ir,ih,Array.size_append,Ks];lia
   rw [Iz,e];have:x.toNat*items.size<=1000*1000:=Jz (by lia) hi
   have h2:(1000*1000:Nat)<=sizeLine:=by decide
   simp only [GJ,Hg] at *;lia
  refine wpAny_bind (wpAny_newTuple (wpAny_pure ⟨_,rfl,?_⟩) hlen);simpa using h
theorem kn(l:Addr)(items:Array Value)(n:Nat)(dd:Option Addr)(sl:Array (Option Value))(u:Tok):
  Meets (Builtin.«tuple.__mul__» ⟨[.ref l,.int 1 u],[]⟩) (fun _ R s=>s.heap.get? l=some { cls:=.type "tuple",dict:=dd,data:=.seq items n,slots:=sl }/\R (.ok (.ret (.ref l))) s):=
 .of_wp fun prog w A R s h=>by
  obtain ⟨hp,g,d,tk,os⟩:=s;obtain ⟨hl,h⟩:=h;have f1:=Kg;have f2:=Jq;have g1:(decide ((1:Int) < -(2 ^ 63))||decide ((1:Int)>=2 ^ 63))=false:=by decide
  have g2:(items.isEmpty||(1:Int)==1)=true:=by simp
  wp_walk using wpAny_loadPart' hl
  try simp only [g1,GX,if_false]
  wp_walk using wpAny_loadPart' hl
  try simp only [g2,if_true]
  wp_walk using wpAny_loadPart' hl
  all_goals first|exact ⟨_,rfl,h⟩|skip
theorem ke(l:Addr)(items:Array Value)(n:Nat)(dd:Option Addr)(sl:Array (Option Value))(x:Int)(u:Tok)(hx:x<=0)(hx2:-1000<=x)(h0:items.isEmpty=false):
  Meets (Builtin.«tuple.__mul__» ⟨[.ref l,.int x u],[]⟩) (fun _ R s=>s.heap.get? l=some { cls:=.type "tuple",dict:=dd,data:=.seq items n,slots:=sl }/\
   R (.ok (.ret (.ref s.heap.objs.size))) { s with heap:=s.heap.push { cls:=.type "tuple",data:=.seq #[] } }):=
 .of_wp fun prog w A R s h=>by
  obtain ⟨hp,g,d,tk,os⟩:=s;obtain ⟨hl,h⟩:=h;have f1:=Kg;have f2:=Jq;have g1:(decide (x < -(2 ^ 63))||decide (x>=2 ^ 63))=false:=by simp;lia
  have g2:(items.isEmpty||x==1)=false:=by rw [h0];simp;lia
  have g3:(decide (x<=0)||items.isEmpty)=true:=by simp [hx]
  wp_walk using wpAny_loadPart' hl
  try simp only [g1,GX,if_false]
  wp_walk using wpAny_loadPart' hl
  try simp only [g2,GX,if_false]
  wp_walk using wpAny_loadPart' hl
  try simp only [g3,if_true]
  all_goals exact ⟨_,rfl,h⟩
section
variable {prog:Program}{w:World}{A:Around}{E:Value->Shared->Prop}{s:Shared}
theorem uu{l:Addr}{its:List Value}{k:Int}{u:Tok}{Q:Value->Shared->Prop}(ht:s.heap.IsTuple l its.toArray)(h0:its≠[])(hk0:0<=k)(hk:k<=1000)(hi:its.length<=1000)
  (h1:k=1->Q (.ref l) s) (h2:k≠1->Q (.ref s.heap.objs.size) { s with heap:=s.heap.push { cls:=.type "tuple",data:=.seq (GK k.toNat its).flatten.toArray } }):
  wpAny (model prog w) A (binaryOp .Mult (.ref l) (.int k u)) Q E s:=by
 obtain ⟨⟨cls,dd,data,sl⟩,e,hc,n,hd⟩:=ht;simp only at hc hd;subst hc hd;have he:its.toArray.isEmpty=false:=by cases its with|nil=>exact absurd rfl h0|cons a r=>rfl
 refine wpAny_binaryOp_repeat_ref (T:="tuple") (U:="int") (by decide) ⟨_,e,rfl⟩ (fun s'=>typeIs_int s' k u) i7 Mj Jo lC Mb.lookup
  (call_meets Jo (typeIs_int s k u) Md (L1 _ _) (kd k u l its.toArray n dd sl) ⟨e,rfl,⟨_,e,rfl⟩,?_⟩)
 by_cases hk1:k=1
 ·subst hk1
  exact call_meets IB ⟨_,e,rfl⟩ JB (Jv _ _) (kn l its.toArray n dd sl u) ⟨e,h1 rfl⟩
 ·have h2':=h2 hk1
  by_cases hk2:k<=0
  ·refine call_meets IB ⟨_,e,rfl⟩ JB (Jv _ _) (ke l its.toArray n dd sl k u hk2 (by lia) he) ⟨e,?_⟩
   have ek:k.toNat=0:=by lia
   rw [ek] at h2';exact h2'
  ·refine call_meets IB ⟨_,e,rfl⟩ JB (Jv _ _) (jL l its.toArray n dd sl k u (by lia) hk (by rw [GJ];exact hi) he) ⟨e,?_⟩
   have ef:∀(m:Nat) (acc:List Value),KZ (fun x1 x2=>x1++x2) acc.toArray (GK m its.toArray)=(acc++(GK m its).flatten).toArray:=by
    intro m
    induction m with
    |zero=>intro acc;simp
    |succ m ih=>
     intro acc;have e1:acc.toArray++its.toArray=(acc++its).toArray:=by simp
     rw [He,Ir,e1,ih,He,Ig,Kn]
   have e0:=ef k.toNat [];rw [HK] at e0;rw [e0];exact h2'
end
end L2
namespace L2
open PySem PySem.Spec PyProof.Rows
section
variable {X:Cx}
theorem xr:dm X (binaryOp .Add) (fun x y H Q=>∃a b ys,x=.ref a/\y=.ref b/\ic X.K H a []/\ic X.K H b ys/\Q (.ref b) H):=by
 intro pins s σ H x y v u Q I rx ry h;obtain ⟨a,b,ys,rfl,rfl,ha,hb,q⟩:=h;cases rx;cases ry;obtain ⟨its,r1,p1,_⟩:=I.tuple ha;obtain ⟨its2,r2,p2,_⟩:=I.tuple hb;obtain rfl:its=[]:=r1.zero;obtain ⟨⟨cls,dd,data,sl⟩,ho,hc,n,hd⟩:=id p1;obtain ⟨⟨cls2,dd2,data2,sl2⟩,ho2,hc2,n2,hd2⟩:=id p2;simp only at hc hd hc2 hd2;subst hc hd hc2 hd2
 exact concat_meets ⟨_,ho,rfl⟩ ⟨_,ho2,rfl⟩ noFill_tuple_add seq_tuple_add JI JC (Jw _ _)
  (tuple_addW0 a b #[] its2.toArray n n2 dd dd2 sl sl2 rfl) ⟨ho,ho2,⟨.ref b,H,I,rfl,q⟩⟩
theorem xX{n:Nat}(hn:n.log2<2000)(hn0:0<n):dm X (binaryOp .FloorDiv) (rI (fun _ j=>j=(n:Int)) fun i j=>.int (i / j)):=opI fun i j _ _ _ _ _ hc q=>by
 subst hc;refine floordiv_int (by lia) ?_ (.inl (PyProof.noPylong_of_log2 (by simpa using Nat.lt_trans hn (by decide))))
 rw [Int.fdiv_eq_ediv_of_nonneg _ (by lia)]
 exact q
def xI(K:GH)(b1 b2:Bool)(t:TA):TE:=fun σ H Q=>t σ H fun vs H1=>∃(l1 l2:Addr) (ks:List aP) (ys:List V),vs=[.ref l1,.ref l2]/\kY K b1 H1 l1 (ks.map kV)/\kY K b2 H1 l2 ys/\ks.length=ys.length/\0<ks.length/\ks.length<=1000/\
 ∀d,H1 d=none->Q (.ref d) (upd H1 d (.dK ((ks.zip ys).foldl (fun a p=>cM a p.1 p.2) [])))
theorem lf{P:Program}{w:World}:∀{ks:List aP} {us:List Value},Vals (ks.map kV) us->Paired (fun k v=>(bq P w).is k v=true) ks us
 |[],_,.nil=>.nil
 |_::_,_,.cons r t=>.cons (gX r) (lf t)
theorem u4:∀{ks:List aP} {ys:List V} {us:List Value} {kvs:List (aP×V)} {vs:List (aP×Value)},Vals ys us->KV kvs vs->
  KV ((ks.zip ys).foldl (fun a p=>cM a p.1 p.2) kvs) ((ks.zip us).foldl (fun a p=>stored a p.1 p.2) vs)
 |[],_,_,_,_,_,r=>r
 |_::_,_,_,_,_,.nil,r=>r
 |k::ks,_,_,_,_,.cons ru t,r=>u4 (ks:=ks) t (KV.put r k ru)
theorem pc:∀(ps:List (aP×V)) (kvs:List (aP×V)),(ps.foldl (fun a p=>cM a p.1 p.2) kvs).length<=kvs.length+ps.length
 |[],kvs=>GO _
 |p::ps,kvs=>by
  have h1:=pc ps (cM kvs p.1 p.2);have h2:=dR kvs p.1 p.2;rw [Ir,GI];lia
theorem r8{a b:Expr}{ta:TA}{p p2 pos pos2:Pos}(b1 b2:Bool)(hc:X.calm=true)(hg:Gl X "zip")(hm:X.mg "zip"=none)(hg2:Gl X "dict")(hm2:X.mg "dict"=none)(ha:PA X [a,b] ta)
  (hs:starEach [a,b] X.env=[(false,eval a X.env),(false,eval b X.env)]:=by rfl) (hs2:starEach [b] X.env=[(false,eval b X.env)]:=by rfl)
  (hs3:starEach [Lw (.Name "zip" p2) [a,b] [] pos2] X.env=[(false,eval (.Call (.Name "zip" p2) [a,b] [] pos2) X.env)]:=by rfl):
  PE X (.Call (.Name "dict" p) [.Call (.Name "zip" p2) [a,b] [] pos2] [] pos) (xI X.K b1 b2 ta):=by
 intro pins s σ H Q I h;refine Call_ (ld_blt I hg2 hm2 (by decide +kernel:bootBuiltins "dict"=some (.type "dict")) (Ht ?_ hs3 rfl))
 rw [hs3];show wpAny _ _ (spliced ((false,_)::backTo pos [])) _ _ s;refine ID ?_;refine Call_ (ld_blt I hg hm (by decide +kernel:bootBuiltins "zip"=some (.type "zip")) (Ht (thn (ha pos2 pins s σ H _ I h) fun us s1 ⟨vs,H1,I1,r1,q1⟩=>?_) (by rw [hs,hs2]) (by rw [hs2];rfl)))
 obtain ⟨l1,l2,ks,ys,e,q1,q2,hl,h0,hz,q⟩:=q1;subst e;obtain ⟨u1,u2,rfl,ru1,ru2⟩:=r1.two;cases ru1;cases ru2;obtain ⟨its1,rv1,sq1,z1⟩:=I1.src q1;obtain ⟨its2,rv2,sq2,z2⟩:=I1.src q2;refine oa sq1 sq2 fun h' hz' hTI hTO h1 h2 hsz hk=>?_;refine Jc ?_;have e1:=rv1.length;have e2:=rv2.length;rw [GF] at e1;have D:ZApart (s1.heap.objs.size+4) (s1.heap.objs.size+2) (s1.heap.objs.size+3) s1.heap.objs.size (s1.heap.objs.size+1):=by constructor<;>exact (show (_:Nat)≠(_:Nat) by lia)
 have lt:∀{c:Bool} {l:Addr} {us:Array Value},SrcSq c s1.heap l us->l<s1.heap.objs.size:=fun {c l us} z=>by
  cases c with
  |true=>obtain ⟨o,e,_⟩:=(show s1.heap.IsList l us from z);exact GL e
  |false=>obtain ⟨o,e,_⟩:=(show s1.heap.IsTuple l us from z);exact GL e
 have O:∀{l:Addr},l<s1.heap.objs.size->pN (s1.heap.objs.size+4) (s1.heap.objs.size+3) s1.heap.objs.size (s1.heap.objs.size+1) l:=fun {l} z=>⟨GW (GS z (HX _ _)),GW (GS z (HX _ _)),GW z,GW (GS z (HX _ _))⟩;refine ku (s:={ s1 with heap:=h' }) (knd:=bq X.prog X.w) (ks:=ks) (xs:=its1) (ys:=its2) (I1.ok.hd hc) D (O (lt sq1)) (O (lt sq2)) hz' hTI ⟨_,_,hTO⟩ h1 h2 (sq1.keep fun o e=>hk _ o e) (sq2.keep fun o e=>hk _ o e) (lf rv1) (by lia) (by lia) (by lia) ?_
 intro s' o1 o2 o3 hd hkeep;have hd':s'.heap.DictOf (bq X.prog X.w) h'.objs.size ((ks.zip its2).foldl (fun a p=>stored a p.1 p.2) []):=hd;have hbig:=I1.big;have hnew:∀c o,s1.heap.get? c=some o->s'.heap.get? c=some o:=fun c o e=>by
  have z:=GL e;exact hkeep c o (GW (GS z (HX _ _))) (GW (GS z (HX _ _))) (GW z) (GW (GS z (HX _ _))) (hk c o e)
 have hn:H1 h'.objs.size=none:=I1.hok.fresh (by lia)
 obtain ⟨hh',g',d',t',os'⟩:=s';obtain rfl:os'=s1.os:=o1;obtain rfl:g'=s1.gens:=o2;obtain rfl:d'=s1.drawn:=o3;refine ⟨.ref h'.objs.size,_,I1.laid (a:=h'.objs.size) (o:=.dK ((ks.zip ys).foldl (fun a p=>cM a p.1 p.2) [])) (t':=t') hnew (by lia) ?_,rfl,q _ hn⟩
 refine qh ?_ ?_ (u4 rv2 .nil) hd'
 ·have:=pc (ks.zip ys) []
  rw [Jl] at this;have h3:(1000:Nat)<=sizeLine:=by decide
  simp only [Hg] at this;lia
 ·exact beq_eq_false_iff_ne.mpr (Iv (GS hbig (by rw [hsz];exact HX _ _)))
end
end L2
namespace Tw
open PySem L2
end Tw
namespace L2
open PySem PySem.Spec PyProof.Rows
section
variable {X:Cx}
theorem j_{M:Model}{A:Around}{E:Value->Shared->Prop}{s:Shared}{β:Type}{n:Nat}(f:Nat->β->Sem (ForInStep β))(I:Nat->β->Shared->Prop)(Q:β->Shared->Prop)
  (turn:∀i b s,i<n->I i b s->wpAny M A (f i b) (fun r s'=>match r with|.yield b'=>I (i+1) b' s'|.done b'=>Q b' s') E s)
  (fin:∀b s,I n b s->Q b s) (b:β) (h:I 0 b s):wpAny M A (forIn [0:n] b f) Q E s:=by
 rw [Std.Legacy.Range.forIn_eq_forIn_range'];have hsz:([0:n]:Ly).size=n:=by simp [Std.Legacy.Range.size]
 show wpAny M A (forIn (L6 0 ([0:n]:Ly).size 1) b f) Q E s;rw [hsz];refine wpAny_forIn_list f (fun l c s=>∃i,i<=n/\l=L6 i (n-i) 1/\I i c s) Q ?_ ?_ _ b ⟨0,Hn _,rfl,h⟩
 ·rintro x rest c s ⟨i,hi,hl,hI⟩
  have hlt:i<n:=by
   rcases Kt i n with h'|h'
   ·exact h'
   ·rw [show n-i=0 by lia] at hl;simp at hl
  obtain ⟨k,hk⟩:∃k,n-i=k+1:=⟨n-i-1,by lia⟩
  rw [hk,Ky] at hl;obtain ⟨rfl,rfl⟩:=List.cons.inj hl;refine wpAny_mono (turn x c s hlt hI) (fun r s' h'=>?_) fun _ _ e=>e;cases r with
  |done c'=>exact h'
  |yield c'=>exact ⟨x+1,by lia,by congr 1;lia,h'⟩
 ·rintro c s ⟨i,hi,hl,hI⟩
  have:i=n:=by
   rcases Kt i n with h'|h'
   ·obtain ⟨k,hk⟩:∃k,n-i=k+1:=⟨n-i-1,by lia⟩
    rw [hk,Ky] at hl;cases hl
   ·lia
  subst this;exact fin _ _ hI
theorem nT(l:Addr)(items:Array Value)(n:Nat)(dd:Option Addr)(sl:Array (Option Value))(x:Value)(e:Value->Bool)(he:∀y,y∈items->MeetsSeq.EqGives y x (e y))(j:Nat)(hj:j<items.size)(hit:e items[j]=true)
  (hno:∀m (hm:m<items.size),m<j->e items[m]=false):
  Meets (Builtin.«tuple.index» ⟨[.ref l,x],[]⟩) (fun _ R s=>s.heap.get? l=some { cls:=.type "tuple",dict:=dd,data:=.seq items n,slots:=sl }/\R (.ok (.ret (.int j s.toks))) { s with toks:=s.toks+1 }):=
 .of_wp fun prog w A R s h=>by
  obtain ⟨hp,g,d,tk,os⟩:=s;obtain ⟨hl,h⟩:=h
  wp_walk using AutoSeq1.wpAny_loadPart' hl
  refine j_ (n:=min items.size items.size) _ (fun i (b:Option _×_) s'=>b.1=none/\i<=j/\s'=⟨hp,g,d,tk,os⟩) _ ?turn ?fin _ ?strt
  case turn=>
   rintro i b s' hi ⟨hb,hij,rfl⟩
   have hlt:i<items.size:=by lia
   have hi':items[i]?=some items[i]:=by simp [hlt]
   simp only [hi'];refine wpAny_bind (he _ (Array.getElem_mem hlt) prog w _ _ _ _ ?_)
   by_cases hx:i=j
   ·subst hx
    rw [hit]
    wp_walk
    exact ⟨_,rfl,h⟩
   ·rw [hno i hlt (by lia)]
    wp_walk
    exact ⟨rfl,by lia,rfl⟩
  case fin=>
   rintro ⟨b1,b2⟩ s' ⟨hb,hij,rfl⟩
   lia
  case strt=>
   exact ⟨rfl,Hn _,rfl⟩
theorem Inv.tupD{pins:List (Addr×Obj)}{σ:St}{H:Hp}{s:Shared}{a:Addr}{xs:List V}(I:Inv X pins σ H s)(h:H a=some (.tup xs)):
  ∃(its:List Value) (n:Nat) (sl:Array (Option Value)),Vals xs its/\s.heap.get? a=some { cls:=.type "tuple",dict:=none,data:=.seq its.toArray n,slots:=sl }:=by
 obtain ⟨z,its,r,⟨cls,dd,data,slots⟩,e,⟨c,n,d⟩,dn⟩:=I.hok a _ h;simp only at c d dn;subst c d dn;exact ⟨its,n,slots,r,e⟩
theorem fI:∀{names:List Str} {us:List Value},Vals (names.map V.str) us->∀(j:Nat) (h:j<us.length),∃(y:Str) (t:Tok),names[j]?=some y/\us[j]=.str y t
 |[],us,r,j,h=>by cases r;exact absurd h (IZ _)
 |x::names,us,r,j,h=>by
  rw [GR] at r;cases r with
  |cons r1 r2=>
   cases j with
   |zero=>obtain ⟨t,rfl⟩:=r1;exact ⟨x,t,rfl,rfl⟩
   |succ j=>obtain ⟨y,t,h1,h2⟩:=fI r2 j (by simpa using h);exact ⟨y,t,by simpa using h1,by simpa using h2⟩
def G4:V->List V->Hp->VK->Prop:=fun x vs H Q=>∃(a:Addr) (names:List Str) (z:Str) (j:Nat),x=.ref a/\vs=[.str z]/\H a=some (.tup (names.map V.str))/\names.length<=1000/\names[j]?=some z/\(∀m,m<j->names[m]?≠some z)/\Q (.int (j:Int)) H
theorem uK:wk X "tuple.index" G4:=by
 intro pins s σ H x vs v us Q I rx rv h;obtain ⟨a,names,z,j,rfl,rfl,ha,hz,hj,hno,q⟩:=h;cases rx;obtain ⟨u,rfl,ru⟩:=rv.one;obtain ⟨t,rfl⟩:=ru;obtain ⟨its,n,sl,r,e⟩:=I.tupD ha;have hl:=r.length;rw [GF] at hl;have hjl:j<names.length:=by
  rcases Kt j names.length with z'|z'
  ·exact z'
  ·rw [HG z'] at hj;cases hj
 have hjs:j<its.toArray.size:=by rw [GJ];lia
 refine call_meets Ju ⟨_,e,rfl⟩ PySem.F.entry_tuple_index (PySem.F.args_tuple_index_2 _ _)
  (nT a its.toArray n none sl (.str z t) (fun v=>match v with|.str y _=>y==z|_=>false) (fun y hy=>?_) j hjs ?_ fun m hm hmj=>?_) ⟨e,?_⟩
 ·obtain ⟨m,hm,rfl⟩:=List.getElem_of_mem (by simpa using hy:y∈its)
  obtain ⟨y',t',h1,h2⟩:=fI r m hm;rw [h2];exact eqGives_str y' z t' t
 ·obtain ⟨y',t',h1,h2⟩:=fI r j (by lia)
  rw [hj] at h1;cases h1;simp [h2]
 ·obtain ⟨y',t',h1,h2⟩:=fI r m (by rw [GJ] at hm;exact hm)
  have h3:=hno m hmj;rw [h1] at h3;have ne:¬y'=z:=fun e=>h3 (by rw [e])
  simp [h2,ne]
 ·exact ⟨.int (j:Int),H,I.tok _,⟨_,rfl⟩,q⟩
def tTM(r:V->List V->Hp->VK->Prop)(to:TE)(t:TA):TE:=fun σ H Q=>to σ H fun x H1=>(∃a xs,x=.ref a/\H1 a=some (.tup xs))/\t σ H1 fun xs H2=>r x xs H2 Q
theorem Gj{o e:Expr}{es:List Expr}{to:TE}{t:TA}{name:Str}{apos cpos:Pos}{id:String}{r:V->List V->Hp->VK->Prop}(slot:Slot "tuple" name id)(hty:typeOf (.builtin id)=pure (.type "method_descriptor"))(hm:wk X id r)(ho:PE X o to)(ha:PA X (e::es) t)
  (hbase:attributeBase o name X.env (eval o X.env)=eval o X.env:=by rfl)
  (hfew:((backTo cpos (starEach (e::es) X.env)).all (fun x=>!x.1)&&(backToKw cpos (keywordEach [] X.env)).all (fun x=>x.1.isSome)
   && decide ((e::es).length+([]:List Keyword).length+(if ([]:List Keyword).isEmpty then 0 else 1)<30))=true:=by rfl)
  (hline:(apos.endLine==cpos.line)=true:=by rfl) (hs:starEach (e::es) X.env=(false,eval e X.env)::starEach es X.env:=by rfl) (hplain:(backTo cpos (starEach es X.env)).any (·.1)=false:=by rfl):
  PE X (.Call (.Attribute o name apos) (e::es) [] cpos) (tTM r to t):=by
 intro pins s σ H Q I h;refine wpAny_Call_method_late hbase hfew hline rfl (thn (ho pins s σ H _ I h) fun v s1 ⟨x,H1,I1,r1,⟨a,xs,ex,ea⟩,q1⟩=>?_);subst ex;cases r1;obtain ⟨its,n,sl,rv,eo⟩:=I1.tupD ea;refine ⟨"tuple",id,PySem.F.plainAttrs_tuple,slot,hty,⟨_,eo,rfl⟩,fun b eb=>by cases eb;exact ⟨_,eo,rfl⟩,?_⟩
 have hA:=ha cpos pins s1 σ H1 _ I1 q1;rw [hs] at hA ⊢;refine Il (by show (false||(backTo cpos (starEach es X.env)).any (·.1))=false;rw [hplain]<;>rfl) (IP ?_)
 exact thn hA fun us s2 ⟨vs,H2,I2,r2,q2⟩=>hm pins s2 σ H2 (.ref a) vs _ us Q I2 rfl r2 q2
end
end L2
namespace L2
open PySem PySem.Spec PyProof.Rows
theorem fC{h base:Heap}{S:List Addr}:∀{l:List Env},h.FunFrames base l->(∀b∈fL l,b∈S)->h.FunFrames (KJ h S) l
 |[],_,_=>trivial
 |env::r,hl,hs=>by
  obtain ⟨hk,⟨L,o,hf,hn,ho,hd⟩,hr⟩:=hl;have hL:L∈S:=hs L (by unfold fL;rw [IA,hf];exact Js)
  exact ⟨hk,⟨L,o,hf,W.hideAll_none S hL,ho,hd⟩,fC hr fun b hb=>hs b (by unfold fL;rw [IA,hf];exact Hf _ hb)⟩
def pJ(P:Program)(w:World)(C:Addr):pf:=fun outer H s E e s'=>∃(ea:Addr) (H':Hp) (B:Heap) (a0:Value),e=.ref ea/\s'.os=s.os/\AllBare s'.gens/\Un (fL outer) [] H H' s.heap s'.heap/\HOk P w H' s'.heap/\
 Heap.FlyingW B outer ea (.ref C) a0 s'.heap/\(∀b u,H' b=some u->∃o,B.get? b=some o)/\(∀b o,s.heap.get? b=some o->b∉fL outer->∃o',B.get? b=some o')/\E (.ref C) none H'
theorem lJ{P:Program}{w:World}{H:Hp}{h h' B:Heap}(hok:HOk P w H h)(k:B.StaysIn h)(k':B.StaysIn h')(sT:∀b u,H b=some u->∃o,B.get? b=some o):HOk P w H h':=fun a o e=>
 (hok a o e).stay (fun b u hb q=>by
  obtain ⟨v,hv⟩:∃v,B.get? b=some v:=by
   rcases hb with rfl|z
   ·exact sT _ _ e
   ·exact sT _ _ z
  have:=k b v hv;rw [q] at this;cases this;exact k' b _ hv) (fun _ q=>q) fun _ _ q=>q
theorem qm{fs:List Addr}{H H':Hp}{h h1 h2 B:Heap}(un:Un fs [] H H' h h1)(k1:B.StaysIn h1)(k2:B.StaysIn h2)(up:h1.UpToSlots h2)(sA:∀b o,h.get? b=some o->b∉fs->∃o',B.get? b=some o')
  (nf:∀b∈fs,∀o,h.get? b=some o->∀vs,o.data≠.fields vs) (fr:∀b∈fs,H b=none):Un fs [] H H' h h2 where
 keep:=fun b o q n hb hx=>by
  have q1:=un.keep b o q n hb hx;obtain ⟨o',ho'⟩:=sA b o q hb;have:=k1 b o' ho';rw [q1] at this;cases this;exact k2 b _ ho'
 slot:=fun b o q n hb hx=>by
  obtain ⟨sl,q1⟩:=un.slot b o q n hb hx;obtain ⟨sl2,q2⟩:=up b _ q1 (nf b hb o q);exact ⟨sl2,q2⟩
 free:=un.free
 there:=fun b o q hx=>by
  by_cases hb:b∈fs
  ·obtain ⟨sl,q1⟩:=un.slot b o q (fr b hb) hb hx
   obtain ⟨sl2,q2⟩:=up b _ q1 (nf b hb o q);exact ⟨_,q2⟩
  ·obtain ⟨o',ho'⟩:=sA b o q hb
   exact ⟨o',k2 b o' ho'⟩
 tups:=un.tups
 frzs:=un.frzs
 tbls:=un.tbls
section
variable {P:Program}{w:World}{K:GH}{mg:Str->Option Value}{base:Heap}{N:List Str}{qual:Str}{scope:Scope}{f C:Addr}{cd:Value}{A:Around}{outer:List Env}{s0:Shared}{H0:Hp}{E:XK}
theorem pC{env:Env}{L:Addr}{l:List Env}(h:env.frame=some L):fL (env::l)=L::fL l:=by unfold fL;rw [IA,h]
theorem FW:dy (pJ P w C) (eI (pJ P w C) P w K mg base N qual scope f cd A outer s0 H0 E) E:=by
 intro pins σ H s e s' I hx;obtain ⟨ea,H',B,a0,rfl,hos,hb,un,hok,hfl,sT,sA,hE⟩:=hx;have hsk:(eI (pJ P w C) P w K mg base N qual scope f cd A outer s0 H0 E).stack=envOfC qual scope s0.heap.objs.size f cd::outer:=rfl;have hfr:(envOfC qual scope s0.heap.objs.size f cd).frame=some s0.heap.objs.size:=rfl;have hfs:fL (envOfC qual scope s0.heap.objs.size f cd::outer)=s0.heap.objs.size::fL outer:=pC hfr;rw [hsk] at un hfl sA;show wpAny (model P w) (A.deeper (envOfC qual scope s0.heap.objs.size f cd)) (leaving (envOfC qual scope s0.heap.objs.size f cd) (.ref ea)) (fun _ s''=>pJ P w C outer H0 s0 E (.ref ea) s'') (fun e' s''=>pJ P w C outer H0 s0 E e' s'') s';refine wpAny_leaves_onW I.ok.frames hfr hfl fun h' hfl' hup=>?_;have u1:Un (fL outer) [] H0 H s0.heap s.heap:=I.base;have nofr:∀{b:Addr} {o:Obj},s0.heap.get? b=some o->b∉fL outer->b∉fL (envOfC qual scope s0.heap.objs.size f cd::outer):=fun {b o} q hb z=>by
  rw [hfs] at z;rcases Hq.mp z with e|z
  ·exact HJ _ (e▸GL q)
  ·exact hb z
 have un2:Un (fL (envOfC qual scope s0.heap.objs.size f cd::outer)) [] H H' s.heap h':=by
  refine qm un hfl.1 hfl'.1 hup sA (fun b hb o q vs=>?_) fun b hb=>?_
  ·obtain ⟨_,o',ho',hd⟩:=I.stack.mem (show b∈_ from hb)
   rw [q] at ho';cases ho';exact hd vs
  ·exact I.stkFree b hb
 refine ⟨ea,H',B,a0,rfl,hos.trans I.os,hb,?_,lJ hok hfl.1 hfl'.1 sT,hfl',sT,fun b o q hb=>?_,hE⟩
 ·refine ⟨fun b o q n hb hx=>?_,fun b o q n hb hx=>?_,fun b o q n hx=>?_,fun b o q hx=>?_,fun b xs q=>un2.tups b xs (u1.tups b xs q),fun b o u q=>un2.frzs b o u (u1.frzs b o u q),fun b ps q=>?_⟩
  ·exact un2.keep b o (u1.keep b o q n hb hx) (u1.free b o q n hx) (nofr q hb) hx
  ·obtain ⟨sl,q1⟩:=u1.slot b o q n hb hx
   obtain ⟨sl2,q2⟩:=un2.slot b _ q1 (u1.free b o q n hx) (by rw [hfs];exact Hf _ hb) hx
   exact ⟨sl2,q2⟩
  ·obtain ⟨o1,q1⟩:=u1.there b o q hx
   exact un2.free b o1 q1 (u1.free b o q n hx) hx
  ·obtain ⟨o1,q1⟩:=u1.there b o q hx
   exact un2.there b o1 q1 hx
  ·obtain ⟨m1,e1⟩:=u1.tbls b ps q
   obtain ⟨m2,e2⟩:=un2.tbls b _ e1;exact ⟨m1++m2,by rw [e2,Kd]⟩
 ·obtain ⟨o1,q1⟩:=u1.there b o q (by simp)
  exact sA b o1 q1 (nofr q hb)
structure ExcAt(K:GH)(C:Addr):Prop where
 at_:∃(nm q:Str) (Nn:Addr) (bs bm bmB:List Value) (hdct:Bool) (sn:List Str) (sub:List Value) (ab:Bool) (col:Option Bool) (dd:Option Addr) (k0 k1 k2 k3 k5:Option Value) (newId initId Bs:String) (mN:Str->Option Value),
  (∀h:Heap,K.In h->h.get? C=some (excClassObj nm q C Nn bs bm hdct sn sub ab col dd k0 k1 k2 k3 k5 newId)/\h.Ns Nn mN/\OwnTail h bmB bm)/\mN "__init__"=none/\ExcBaseFacts Bs newId initId bmB/\bmB.contains (.type Bs)=true/\bm.contains (.type "BaseException")=true
theorem ObjOk.obj{P:Program}{w:World}{H:Hp}{h:Heap}{a:Addr}{o:HO}(x:ObjOk P w H h a o):∃v,h.get? a=some v:=by
 cases o with
 |lst xs=>obtain ⟨_,_,_,_,e⟩:=x;exact ⟨_,e⟩
 |tup xs=>obtain ⟨_,_,_,_,e,_⟩:=x;exact ⟨_,e⟩
 |dK kvs=>obtain ⟨_,_,_,_,o,_,_,e,_⟩:=x;exact ⟨_,e⟩
 |dT kvs=>obtain ⟨_,_,_,_,o,_,_,e,_⟩:=x;exact ⟨_,e⟩
 |set S n=>obtain ⟨o,_,_,_,e,_⟩:=x;exact ⟨_,e⟩
 |ins C dx fs=>obtain ⟨_,_,_,e,_⟩:=x;exact ⟨_,e⟩
 |own y=>obtain ⟨_,e⟩:=x;exact ⟨_,e⟩
 |xd fs=>obtain ⟨_,⟨_,_,_,e,_⟩,_⟩:=x;exact ⟨_,e⟩
 |rng lo hi=>obtain ⟨_,_,_,e⟩:=x;exact ⟨_,e⟩
 |frz ob u=>obtain ⟨e,_⟩:=x;exact ⟨_,e⟩
 |tbl ps=>exact ⟨_,(show h.get? a=some _ from x)⟩
 |met f y=>exact ⟨_,(show h.get? a=some _ from x)⟩
 |ext φ=>obtain ⟨_,⟨_,e⟩,_⟩:=x;exact ⟨_,e⟩
theorem AN{fs:List Addr}{L:Addr}{H0 H H':Hp}{h0 h h':Heap}(u1:Un fs [] H0 H h0 h)(un2:Un (L::fs) [] H H' h h')(hL:h0.objs.size<=L):Un fs [] H0 H' h0 h':=by
 have nofr:∀{b:Addr} {o:Obj},h0.get? b=some o->b∉fs->b∉L::fs:=fun {b o} q hb z=>by
  rcases Hq.mp z with e|z
  ·exact HJ _ (GS (e▸GL q) hL)
  ·exact hb z
 refine ⟨fun b o q n hb hx=>un2.keep b o (u1.keep b o q n hb hx) (u1.free b o q n hx) (nofr q hb) hx,fun b o q n hb hx=>?_,fun b o q n hx=>?_,fun b o q hx=>?_,fun b xs q=>un2.tups b xs (u1.tups b xs q),fun b o u q=>un2.frzs b o u (u1.frzs b o u q),fun b ps q=>?_⟩
 ·obtain ⟨sl,q1⟩:=u1.slot b o q n hb hx
  obtain ⟨sl2,q2⟩:=un2.slot b _ q1 (u1.free b o q n hx) (Hf _ hb) hx;exact ⟨sl2,q2⟩
 ·obtain ⟨o1,q1⟩:=u1.there b o q hx
  exact un2.free b o1 q1 (u1.free b o q n hx) hx
 ·obtain ⟨o1,q1⟩:=u1.there b o q hx
  exact un2.there b o1 q1 hx
 ·obtain ⟨m1,e1⟩:=u1.tbls b ps q
  obtain ⟨m2,e2⟩:=un2.tbls b _ e1;exact ⟨m1++m2,by rw [e2,Kd]⟩
def qV(E:XK)(C:Addr):TS:=fun _ _ H=>E (.ref C) none H
theorem vR{x msg:Str}{np cpos pos apos:Pos}{jj}(X:ExcAt K C)(hm:mg x=some (.ref C))(hg:Gl (eI (pJ P w C) P w K mg base N qual scope f cd A outer s0 H0 E) x)
  (hd:(x==("__debug__":Str))=false:=by decide)
  (hs:starEach [.Constant (.str msg) jj apos] (eI (pJ P w C) P w K mg base N qual scope f cd A outer s0 H0 E).env=[(false,eval (.Constant (.str msg) jj apos) (eI (pJ P w C) P w K mg base N qual scope f cd A outer s0 H0 E).env)]:=by rfl):
  PS (eI (pJ P w C) P w K mg base N qual scope f cd A outer s0 H0 E) (.Raise (some (.Call (.Name x np) [.Constant (.str msg) jj apos] [] cpos)) none pos) (qV E C):=by
 intro pins s σ H D I h;obtain ⟨nm,q,Nn,bs,bm,bmB,hdct,sn,sub,ab,col,dd,k0,k1,k2,k3,k5,newId,initId,Bs,mN,hX,hni,FB,hBs,hbase⟩:=X.at_
 refine wpAny_Raise_call_subU (C:=C) (nm:=nm) (q:=q) (N:=Nn) (bs:=bs) (bm:=bm) (hdct:=hdct) (sn:=sn) (sub:=sub) (ab:=ab) (col:=col) (dd:=dd) (k0:=k0) (k1:=k1) (k2:=k2) (k3:=k3) (k5:=k5) FB hBs FB (mN:=mN) hbase (I.ok.hd rfl) (by rw [hs];rfl) hni
  (ld_glob I hg hm ⟨rfl,?_⟩ hd)
 have hA:=(sE qt yc hs) cpos pins s σ H (fun xs H1=>xs.length=1/\E (.ref C) none H1) I ⟨rfl,h⟩;rw [hs] at hA ⊢;refine IP (wpAny_mono hA (fun vs s₂ h₂=>?_) fun _ _ y=>y);obtain ⟨vv,H1,I1,r,hlen,hE⟩:=h₂;obtain ⟨hC,hN,T⟩:=hX s₂.heap I1.kIn;refine ⟨rfl,?_,hC,hN,T,fun h' e hx=>?_⟩
 ·show vs.length<=sizeLine
  rw [<- r.length,hlen]
  decide
 have hfr:(envOfC qual scope s0.heap.objs.size f cd).frame=some s0.heap.objs.size:=rfl;have hfs:fL (envOfC qual scope s0.heap.objs.size f cd::outer)=s0.heap.objs.size::fL outer:=pC hfr;have kB:(KJ s₂.heap (fL (envOfC qual scope s0.heap.objs.size f cd::outer))).StaysIn s₂.heap:=fun b o e=>W.of_hideAll _ e;show wpAny (model P w) (A.deeper (envOfC qual scope s0.heap.objs.size f cd)) (leaving (envOfC qual scope s0.heap.objs.size f cd) (.ref e)) (fun _ s''=>pJ P w C outer H0 s0 E (.ref e) s'') (fun e' s''=>pJ P w C outer H0 s0 E e' s'') _;refine wpAny_leaves_madeW I1.ok.frames hfr kB (fC I1.stack fun b hb=>hb) hx fun h'' t hfl _ _ hup=>?_;have up2:s₂.heap.UpToSlots h'':=(Heap.UpToSlots.of_keeps hx.keeps).trans hup;have inB:∀{b:Addr} {o:Obj},s₂.heap.get? b=some o->b∉fL (envOfC qual scope s0.heap.objs.size f cd::outer)->(KJ s₂.heap (fL (envOfC qual scope s0.heap.objs.size f cd::outer))).get? b=some o:=fun e n=>W.hideAll_get _ e n;have sT:∀b u,H1 b=some u->∃o,(KJ s₂.heap (fL (envOfC qual scope s0.heap.objs.size f cd::outer))).get? b=some o:=fun b u e=>by
  obtain ⟨v,hv⟩:=ObjOk.obj (I1.hok b u e);exact ⟨v,inB hv fun z=>by rw [I1.stkFree b z] at e;cases e⟩
 have un2:Un (fL (envOfC qual scope s0.heap.objs.size f cd::outer)) [] H1 H1 s₂.heap h'':=by
  refine qm Un.refl kB hfl.1 up2 (fun b o q hb=>⟨o,inB q hb⟩) (fun b hb o q vs=>?_) fun b hb=>I1.stkFree b hb;obtain ⟨_,o',ho',hd'⟩:=I1.stack.mem (show b∈_ from hb);rw [q] at ho';cases ho';exact hd' vs
 rw [hfs] at un2;refine ⟨e,H1,_,.ref t,rfl,I1.os,I1.bare,AN I1.base un2 (GO _),lJ I1.hok kB hfl.1 sT,hfl,sT,fun b o q hb=>?_,hE⟩;obtain ⟨o1,q1⟩:=I1.base.there b o q (fun z=>absurd (show b∈([]:List Addr) from z) (by simp))
 refine ⟨o1,inB q1 fun z=>?_⟩;rw [hfs] at z;rcases Hq.mp z with e'|z
 ·exact HJ _ (e'▸GL q)
 ·exact hb z
end
abbrev Cx.marked(X:Cx)(e:Value):Cx:={ X with A:=X.A.mark (some e),calm:=false,xe:=fun _ _=>False }
section
variable {X:Cx}{pins:List (Addr×Obj)}{σ:St}{H:Hp}{s:Shared}{e:Value}
theorem Cx.Ok.mark(ok:X.Ok)(e:Value):(X.marked e).Ok:=
 ⟨ok.mod,ok.kind,ok.glob,ok.blt,ok.above,ok.inj,ok.has,ok.cab,fun z=>(Bool.noConfusion z),ok.frames,ok.stk,ok.exf,ok.bs,ok.bsz,ok.noex,ok.exfs,ok.funs,ok.frf⟩
theorem Inv.mark(I:Inv X pins σ H s)(e:Value):Inv (X.marked e) pins σ H s:=⟨I.ok.mark e,I.os,I.bare,I.base,I.loc,I.cell,I.free,I.freeC,I.pin,I.hok,I.len⟩
theorem Inv.unmark(ok:X.Ok)(I:Inv (X.marked e) pins σ H s):Inv X pins σ H s:=⟨ok,I.os,I.bare,I.base,I.loc,I.cell,I.free,I.freeC,I.pin,I.hok,I.len⟩
theorem SP.unmark{D:Ends}{f:Flow}{s':Shared}(ok:X.Ok)(h:SP (X.marked e) pins D f s'):SP X pins D f s':=by
 cases f with
 |next=>obtain ⟨σ',H',I,q⟩:=h;exact ⟨σ',H',I.unmark ok,q⟩
 |brk=>obtain ⟨σ',H',I,q⟩:=h;exact ⟨σ',H',I.unmark ok,q⟩
 |cont=>obtain ⟨σ',H',I,q⟩:=h;exact ⟨σ',H',I.unmark ok,q⟩
 |ret u=>obtain ⟨v,σ',H',I,r,q⟩:=h;exact ⟨v,σ',H',I.unmark ok,r,q⟩
def wL(C:Addr)(sp:Sp)(dvs:List V)(ta:TA)(ts:TS):TS:=fun D σ H=>ta σ H fun vs H1=>sp (vs++dvs) H1 (fun _ H2=>D.nx σ H2) (fun _ _ H2=>ts D σ H2)
theorem pU{C f:Addr}{k:Nat}{fd:FuncData}{ps:List Str}{sp:Sp}{dvs:List V}{ds:List Value}{x cx:Str}{p cp ep np hpos pos:Pos}{e:Expr}{es:List Expr}{ta:TA}{b₀:Stmt}{suite:List Stmt}{ts:TS}
  (hst:X.stack=X.env::X.outer) (hfL:X.env.frame=some X.env.locals) (F:FnOk X.prog X.w X.K X.mg X.base (pJ X.prog X.w C) k f fd ps sp) (hr:Room k X.A) (hg:Gl X x) (hm:X.mg x=some (.ref f)) (hk:GV X.K (.ref f)=true) (hb:Binds X.K fd ps ds) (hd:Vals dvs ds)
  (ha:PA X.nox (e::es) ta) (EX:ExcAt X.K C) (hgC:Gl X cx) (hmC:X.mg cx=some (.ref C)) (hsu:∀ea:Addr,rm (X.marked (.ref ea)) (b₀::suite) ts)
  (hdb:(x==("__debug__":Str))=false:=by decide) (hdC:(cx==("__debug__":Str))=false:=by decide) (he:starEach (e::es) X.env=(false,eval e X.env)::starEach es X.env:=by rfl) (hpl:(backTo cp (starEach es X.env)).any (·.1)=false:=by rfl)
  (hsw:swapsWith (.Call (.Name x p) (e::es) [] cp) none ep.line X.env=pure false:=by rfl):
  PS X (.Try [.Expr (.Call (.Name x p) (e::es) [] cp) ep] [.ExceptHandler (some (.Name cx np)) none (b₀::suite) hpos] [] [] pos) (wL C sp dvs ta ts):=by
 intro pins s σ H D I h;refine wpAny_Try_except (wpAny_execs_cons (wpAny_Expr_any ?_ I.quiet hsw));refine wpAny_Call_Name_kw (ld_glob I hg hm ?_ hdb);refine KC (h₀:=X.base) I.ok.mod.kin hk (wpAny_mono (ha cp pins s σ H _ (I.wish _) h) (fun us s1 ⟨vs,H1,I1',r,q⟩=>?_) fun _ _ z=>HM z) he hpl;have I1:Inv X pins σ H1 s1:=I1'.unwish;refine ⟨I1.kIn,?_⟩;have r2:Vals (vs++dvs) (us++ds):=r.append hd;have hl:(us++ds).length=ps.length:=by rw [<- r2.length];exact F.len _ _ _ _ q
 refine wpAny_call (codeAny_mono (F.run X.A X.stack s1 H1 ⟨us,[]⟩ (us++ds) (vs++dvs) _ _ hr I1.env0 (hb s1 us I1.kIn hl) r2 q) fun rr s' hq=>?_);cases rr with
 |ok fl=>
  cases fl with
  |ret u=>
   obtain ⟨x',H2,I2,_,q2⟩:=I1.after hq;exact wpAny_execs_nil (wpAny_execs_nil ⟨σ,H2,I2,q2⟩)
  |next=>exact HM hq
  |brk=>exact HM hq
  |cont=>exact HM hq
 |error er=>
  obtain ⟨ea,H',B,a0,rfl,hos,hbare,un,hok,hfl,sT,sA,hE⟩:=hq;obtain ⟨nm,qn,Nn,bs,bm,bmB,hdct,sn,sub,ab,col,dd,k0,k1,k2,k3,k5,newId,initId,Bs,mN,hX,hni,FB,hBs,hbase⟩:=EX.at_;have nf:∀b∈fL X.stack,∀o,s1.heap.get? b=some o->∀vs,o.data≠.fields vs:=fun b hb' o q' vs=>by
   obtain ⟨_,o',ho',hd'⟩:=I1.stack.mem (show b∈_ from hb');rw [q'] at ho';cases ho';exact hd' vs
  have shift:∀h':Heap,B.StaysIn h'->s'.heap.UpToSlots h'->Inv X pins σ H' { s' with heap:=h' }:=fun h' k up=>
   I1.call' (s':={ s' with heap:=h' }) hos (qm un hfl.1 k up sA nf fun b hb'=>I1.stkFree b hb') (lJ hok hfl.1 k sT) hbare fun b z=>absurd (show b∈([]:List Addr) from z) (by simp)
  rw [hst] at hfl;have hfr:X.A.frames=some (X.env::X.outer):=by rw [<- hst];exact I1.ok.frames
  refine wpAny_looks_onW hfr hfL hfl fun h4 held4 up4=>?_;refine wpAny_landsW held4 fun h5 hfl5 up5=>?_;have I5:=(shift h5 hfl5.1 (up4.trans up5)).mark (.ref ea);obtain ⟨hC,_,_⟩:=hX h5 I5.kIn;obtain ⟨ob,hob,hobc⟩:=hfl5.there;refine wpAny_handleBy_cons (codeAny_handlers_test (ld_glob I5 hgC hmC ?_ hdC)) (by intro q';cases q')
  refine wpAny_excMatches_sub_self hC hob hobc hbase (codeAny_handlers_suite ?_);refine lands_againW hfl5 fun h6 hfl6 up6=>?_;have I6:=(shift h6 hfl6.1 ((up4.trans up5).trans up6)).mark (.ref ea);exact wpAny_mono (hsu ea pins _ σ H' D I6 hE) (fun fl s7 q7=>q7.unmark I.ok) fun _ _ z=>HM z
end
end L2
namespace L3
open PySem L2
inductive D where
 |non|bl (b:Bool)|int (i:Int)|str (x:Str)|ty (n:String)|ref (a:Addr)|tup (xs:List D)|lst (xs:List D)|mt (xs:List D)|ml (xs:List D)
def TpD(_:GH)(H:Hp)(p:Addr)(vs:List V):Prop:=H p=some (.tup vs)
def TpM(K:GH)(p:Addr)(vs:List V):Prop:=∃(o:Obj) (its:Array Value) (n:Nat),K.lookup p=some o/\o.cls=.type "tuple"/\o.data=.seq its n/\its.size<=sizeLine/\Vals vs its.toList
def FzD(K:GH)(H:Hp)(p:Addr)(vs:List V):Prop:=
 ∃o,H p=some (.frz o (.lst vs))
def FzK(K:GH)(H:Hp)(p:Addr)(vs:List V):Prop:=(∃o,H p=some (.frz o (.lst vs)))\/∃(o:Obj) (its:Array Value) (n:Nat),K.lookup p=some o/\o.cls=.type "list"/\o.dict=none/\o.data=.seq its n/\its.size<=sizeLine/\Vals vs its.toList
theorem FzK.sq{K:GH}{H:Hp}{p:Addr}{vs:List V}(h:FzK K H p vs):SqL K H p vs:=h.imp (fun ⟨o,e⟩=>.inr ⟨o,e⟩) fun x=>x
theorem TpD.sq{K:GH}{H:Hp}{p:Addr}{vs:List V}(h:TpD K H p vs):ic K H p vs:=.inl (.inl h)
theorem TpM.sq{K:GH}{H:Hp}{p:Addr}{vs:List V}(h:TpM K p vs):ic K H p vs:=.inr h
theorem FzD.sq{K:GH}{H:Hp}{p:Addr}{vs:List V}(h:FzD K H p vs):SqL K H p vs:=by
 obtain ⟨o,h⟩:=h;exact .inl (.inr ⟨o,h⟩)
mutual
def Rp(K:GH)(H:Hp):D->V->Prop
 |.non,v=>v=.non
 |.bl b,v=>v=.bl b
 |.int i,v=>v=.int i
 |.str x,v=>v=.str x
 |.ty n,v=>v=.ty n
 |.ref a,v=>v=.ref a
 |.tup xs,v=>∃p vs,v=.ref p/\TpD K H p vs/\Rps K H xs vs
 |.lst xs,v=>∃p vs,v=.ref p/\FzD K H p vs/\Rps K H xs vs
 |.mt xs,v=>∃p vs,v=.ref p/\TpM K p vs/\Rps K H xs vs
 |.ml xs,v=>∃p vs,v=.ref p/\FzK K H p vs/\Rps K H xs vs
def Rps(K:GH)(H:Hp):List D->List V->Prop
 |[],vs=>vs=[]
 |x::xs,vs=>∃v r,vs=v::r/\Rp K H x v/\Rps K H xs r
end
structure Imm(H H':Hp):Prop where
 tup:∀p vs,H p=some (.tup vs)->H' p=some (.tup vs)
 frz:∀p o u,H p=some (.frz o u)->H' p=some (.frz o u)
theorem Imm.refl{H:Hp}:Imm H H:=⟨fun _ _ e=>e,fun _ _ _ e=>e⟩
theorem TpD.mono{K:GH}{H H':Hp}{p:Addr}{vs:List V}(i:Imm H H')(h:TpD K H p vs):TpD K H' p vs:=i.tup _ _ h
theorem FzK.mono{K:GH}{H H':Hp}{p:Addr}{vs:List V}(i:Imm H H')(h:FzK K H p vs):FzK K H' p vs:=h.imp (fun ⟨o,e⟩=>⟨o,i.frz _ _ _ e⟩) fun x=>x
theorem FzD.mono{K:GH}{H H':Hp}{p:Addr}{vs:List V}(i:Imm H H')(h:FzD K H p vs):FzD K H' p vs:=let ⟨o,e⟩:=h;⟨o,i.frz _ _ _ e⟩
mutual
theorem Rp.mono{K:GH}{H H':Hp}(i:Imm H H'):∀{d:D} {v:V},Rp K H d v->Rp K H' d v
 |.non,_,h=>h
 |.bl _,_,h=>h
 |.int _,_,h=>h
 |.str _,_,h=>h
 |.ty _,_,h=>h
 |.ref _,_,h=>h
 |.tup _,_,h=>by
  obtain ⟨p,vs,e,t,r⟩:=h;exact ⟨p,vs,e,t.mono i,Rps.mono i r⟩
 |.lst _,_,h=>by
  obtain ⟨p,vs,e,t,r⟩:=h;exact ⟨p,vs,e,t.mono i,Rps.mono i r⟩
 |.mt _,_,h=>by
  obtain ⟨p,vs,e,t,r⟩:=h;exact ⟨p,vs,e,t,Rps.mono i r⟩
 |.ml _,_,h=>by
  obtain ⟨p,vs,e,t,r⟩:=h;exact ⟨p,vs,e,t.mono i,Rps.mono i r⟩
theorem Rps.mono{K:GH}{H H':Hp}(i:Imm H H'):∀{ds:List D} {vs:List V},Rps K H ds vs->Rps K H' ds vs
 |[],_,h=>h
 |_::_,_,h=>by
  obtain ⟨v,r,e,a,b⟩:=h;exact ⟨v,r,e,Rp.mono i a,Rps.mono i b⟩
end
section
variable {K:GH}{H H':Hp}
theorem Rps.nil:Rps K H [] []:=rfl
theorem Rps.cons{d:D}{v:V}{ds:List D}{vs:List V}(a:Rp K H d v)(b:Rps K H ds vs):Rps K H (d::ds) (v::vs):=⟨v,vs,rfl,a,b⟩
theorem Rps.length:∀{ds:List D} {vs:List V},Rps K H ds vs->ds.length=vs.length
 |[],_,h=>by cases h;rfl
 |_::_,_,h=>by obtain ⟨v,r,rfl,_,b⟩:=h;simp [b.length]
theorem Rps.get:∀{ds:List D} {vs:List V},Rps K H ds vs->∀{i:Nat} {d:D},ds[i]?=some d->∃v,vs[i]?=some v/\Rp K H d v
 |[],_,_,i,d,e=>by simp at e
 |x::xs,_,h,i,d,e=>by
  obtain ⟨v,r,rfl,a,b⟩:=h;cases i with
  |zero=>simp at e;subst e;exact ⟨v,by simp,a⟩
  |succ i=>simpa using b.get (by simpa using e)
theorem Rps.append:∀{ds es:List D} {vs ws:List V},Rps K H ds vs->Rps K H es ws->Rps K H (ds++es) (vs++ws)
 |[],_,_,_,h,g=>by cases h;exact g
 |_::_,_,_,_,h,g=>by
  obtain ⟨v,r,rfl,a,b⟩:=h;exact ⟨v,_,rfl,a,b.append g⟩
theorem Rps.take:∀{ds:List D} {vs:List V} (n:Nat),Rps K H ds vs->Rps K H (ds.take n) (vs.take n)
 |[],_,n,h=>by cases h;simp [Rps]
 |_::_,_,0,h=>rfl
 |_::_,_,n+1,h=>by
  obtain ⟨v,r,rfl,a,b⟩:=h;exact ⟨v,_,rfl,a,b.take n⟩
theorem Rps.drop:∀{ds:List D} {vs:List V} (n:Nat),Rps K H ds vs->Rps K H (ds.drop n) (vs.drop n)
 |[],_,n,h=>by cases h;simp [Rps]
 |_::_,_,0,h=>h
 |_::_,_,n+1,h=>by
  obtain ⟨v,r,rfl,a,b⟩:=h;exact b.drop n
theorem Rps.set{d:D}{v:V}(a:Rp K H d v):∀{ds:List D} {vs:List V} (i:Nat),Rps K H ds vs->Rps K H (ds.set i d) (vs.set i v)
 |[],_,_,h=>by cases h;rfl
 |_::_,_,0,h=>by obtain ⟨w,r,rfl,_,b⟩:=h;exact ⟨v,r,rfl,a,b⟩
 |_::_,_,i+1,h=>by obtain ⟨w,r,rfl,c,b⟩:=h;exact ⟨w,_,rfl,c,b.set a i⟩
theorem pH:∀{is:List Int} {vs:List V},vs=is.map V.int->Rps K H (is.map D.int) vs
 |[],_,e=>e
 |i::is,_,e=>by subst e;exact ⟨_,_,rfl,rfl,pH rfl⟩
end
inductive MO where
 |lst (xs:List D)
 |dK (kvs:List (aP×D))
 |dT (kvs:List (List aP×D))
 |ins (C:Addr) (fs:List (Str×D))
abbrev Mem:=Addr->Option MO
def Mem.upd(M:Mem)(a:Addr)(o:MO):Mem:=fun b=>if b=a then some o else M b
def Mem.del(M:Mem)(a:Addr):Mem:=fun b=>if b=a then none else M b
def Rkv{κ:Type}(K:GH)(H:Hp):List (κ×D)->List (κ×V)->Prop:=Paired fun p q=>p.1=q.1/\Rp K H p.2 q.2
def RepO(K:GH)(H:Hp)(a:Addr):MO->Prop
 |.lst xs=>∃vs,H a=some (.lst vs)/\Rps K H xs vs
 |.dK kvs=>∃ws,H a=some (.dK ws)/\Rkv K H kvs ws
 |.dT kvs=>∃ws,H a=some (.dT ws)/\Rkv K H kvs ws
 |.ins C fs=>∃dx ws,H a=some (.ins C dx ws)/\Rkv K H fs ws
def RepH(K:GH)(H:Hp)(M:Mem):Prop:=∀a o,M a=some o->RepO K H a o
section
variable {K:GH}{H H':Hp}{M:Mem}{a b:Addr}{o:MO}{u:HO}
@[simp] theorem Mem.upd_same:(M.upd a o) a=some o:=by simp [Mem.upd]
theorem ai(h:b≠a):(M.upd a o) b=M b:=by simp [Mem.upd,h]
@[simp] theorem Mem.upd_upd {o':MO}:(M.upd a o).upd a o'=M.upd a o':=by funext c;simp [Mem.upd];split<;>rfl
@[simp] theorem Mem.upd_del:(M.upd a o).del a=M.del a:=by funext c;simp [Mem.upd,Mem.del];split<;>rfl
theorem ao(h:M a=none):M.del a=M:=by
 funext c;simp only [Mem.del];split
 ·rename_i e;rw [e,h]
 ·rfl
theorem bb{o':MO}(h:a≠b):(M.upd a o).upd b o'=(M.upd b o').upd a o:=by
 funext c;simp only [Mem.upd];split
 ·rename_i e;rw [e,if_neg (Hw h)]
 ·rfl
theorem Mem.ne{o:MO}(h:M a=some o)(h':M b=none):a≠b:=by intro e;subst e;rw [h] at h';cases h'
theorem Rkv.mono{κ:Type}{kvs:List (κ×D)}{ws:List (κ×V)}(i:Imm H H')(h:Rkv K H kvs ws):Rkv K H' kvs ws:=dZ h fun _ _ z=>⟨z.1,z.2.mono i⟩
theorem RepO.obj(r:RepO K H a o):∃u,H a=some u:=by
 cases o with
 |lst xs=>obtain ⟨vs,e,_⟩:=r;exact ⟨_,e⟩
 |dK xs=>obtain ⟨vs,e,_⟩:=r;exact ⟨_,e⟩
 |dT xs=>obtain ⟨vs,e,_⟩:=r;exact ⟨_,e⟩
 |ins C fs=>obtain ⟨dx,vs,e,_⟩:=r;exact ⟨_,e⟩
theorem RepO.keep(r:RepO K H a o)(i:Imm H H')(e:H' a=H a):RepO K H' a o:=by
 cases o with
 |lst xs=>obtain ⟨vs,q,z⟩:=r;exact ⟨vs,e.trans q,z.mono i⟩
 |dK xs=>obtain ⟨vs,q,z⟩:=r;exact ⟨vs,e.trans q,z.mono i⟩
 |dT xs=>obtain ⟨vs,q,z⟩:=r;exact ⟨vs,e.trans q,z.mono i⟩
 |ins C fs=>obtain ⟨dx,vs,q,z⟩:=r;exact ⟨dx,vs,e.trans q,z.mono i⟩
theorem RepH.fresh(r:RepH K H M)(h:H a=none):M a=none:=by
 cases e:M a with
 |none=>rfl
 |some o=>obtain ⟨u,q⟩:=(r a o e).obj;rw [h] at q;cases q
def sG:Option HO->Prop
 |some (.tup _)=>False
 |some (.frz _ _)=>False
 |_=>True
theorem Imm.upd(h:sG (H a)):Imm H (upd H a u):=by
 refine ⟨fun p vs e=>?_,fun p o v e=>?_⟩
 ·rw [upd_ne];exact e
  rintro rfl;rw [e] at h;exact h
 ·rw [upd_ne];exact e
  rintro rfl;rw [e] at h;exact h
theorem Imm.new(h:H a=none):Imm H (L2.upd H a u):=Imm.upd (by rw [h];trivial)
theorem RepO.loose(r:RepO K H a o):sG (H a):=by
 cases o with
 |lst xs=>obtain ⟨vs,e,_⟩:=r;rw [e];trivial
 |dK xs=>obtain ⟨vs,e,_⟩:=r;rw [e];trivial
 |dT xs=>obtain ⟨vs,e,_⟩:=r;rw [e];trivial
 |ins C fs=>obtain ⟨dx,vs,e,_⟩:=r;rw [e];trivial
theorem RepH.new(r:RepH K H M)(h:H a=none):RepH K (L2.upd H a u) M:=fun b o e=>by
 obtain ⟨v,q⟩:=(r b o e).obj;exact (r b o e).keep (Imm.new h) (upd_ne (bz q h))
theorem RepH.put(r:RepH K H M)(h:sG (H a))(n:RepO K (L2.upd H a u) a o):RepH K (L2.upd H a u) (M.upd a o):=fun b p e=>by
 by_cases hb:b=a
 ·subst hb;rw [Mem.upd_same] at e;cases e;exact n
 ·rw [ai hb] at e
  exact (r b p e).keep (Imm.upd h) (upd_ne hb)
theorem RepH.keep(r:RepH K H M)(i:Imm H H')(e:∀b o,M b=some o->H' b=H b):RepH K H' M:=fun b o q=>(r b o q).keep i (e b o q)
structure Frm(M:Mem)(H:Hp)(M':Mem)(H':Hp):Prop where
 keep:∀b u,H b=some u->M b=none->H' b=some u/\M' b=none
variable {M':Mem}
theorem Frm.refl:Frm M H M H:=⟨fun _ _ e n=>⟨e,n⟩⟩
theorem Frm.trans{M1 M2:Mem}{H1 H2:Hp}(x:Frm M H M1 H1)(y:Frm M1 H1 M2 H2):Frm M H M2 H2:=⟨fun b u e n=>let ⟨e1,n1⟩:=x.keep b u e n;y.keep b u e1 n1⟩
theorem Frm.imm(f:Frm M H M' H')(r:RepH K H M):Imm H H':=by
 have key:∀b u,H b=some u->¬sG (some u)->H' b=some u:=fun b u e n=>(f.keep b u e (by
  cases q:M b with
  |none=>rfl
  |some o=>exact absurd (by rw [<- e];exact (r b o q).loose) n)).1
 exact ⟨fun p vs e=>key p _ e (fun z=>z),fun p o u e=>key p _ e (fun z=>z)⟩
theorem Frm.new(h:H a=none):Frm M H M (L2.upd H a u):=⟨fun b v e n=>⟨by rw [upd_ne (bz e h)];exact e,n⟩⟩
theorem Frm.put(h:H a=none\/∃o,M a=some o):Frm M H (M.upd a o) (L2.upd H a u):=⟨fun b v e n=>by
 have hb:b≠a:=by
  rintro rfl
  rcases h with h|⟨o,h⟩
  ·rw [h] at e;cases e
  ·rw [h] at n;cases n
 exact ⟨by rw [L2.upd_ne hb];exact e,by rw [ai hb];exact n⟩⟩
theorem Frm.del(h:∃o,M a=some o):Frm M H (M.del a) (L2.upd H a u):=⟨fun b v e n=>by
 have hb:b≠a:=by
  rintro rfl
  obtain ⟨o,h⟩:=h;rw [h] at n;cases n
 refine ⟨by rw [L2.upd_ne hb];exact e,?_⟩
 unfold Mem.del;rw [if_neg hb];exact n⟩
theorem Rp.mf{d:D}{v:V}(x:Rp K H d v)(r:RepH K H M)(f:Frm M H M' H'):Rp K H' d v:=x.mono (f.imm r)
theorem Rps.mf{d:List D}{v:List V}(x:Rps K H d v)(r:RepH K H M)(f:Frm M H M' H'):Rps K H' d v:=x.mono (f.imm r)
end
end L3
namespace L3
open PySem L2
abbrev Dl:=List (Option D)
abbrev DK:=D->Mem->Prop
abbrev bN:=Dl->Mem->DK->Prop
abbrev fb:=Dl->Mem->(Bool->Mem->Prop)->Prop
abbrev gl:=Dl->Mem->(List D->Mem->Prop)->Prop
structure RepS(K:GH)(H:Hp)(δ:Dl)(σ:St):Prop where
 len:δ.length=σ.length
 get:∀(i:Nat) (d:D),δ[i]?=some (some d)->∃v,σ[i]?=some (some v)/\Rp K H d v
theorem RepS.mono{K:GH}{H H':Hp}{δ:Dl}{σ:St}(r:RepS K H δ σ)(i:Imm H H'):RepS K H' δ σ:=
 ⟨r.len,fun j d e=>by obtain ⟨v,h1,h2⟩:=r.get j d e;exact ⟨v,h1,h2.mono i⟩⟩
theorem RepS.set{K:GH}{H:Hp}{δ:Dl}{σ:St}{i:Nat}{d:D}{v:V}(r:RepS K H δ σ)(h:Rp K H d v):RepS K H (δ.set i (some d)) (σ.set i (some v)):=by
 refine ⟨by simp [r.len],fun j e q=>?_⟩
 rw [List.getElem?_set] at q ⊢
 by_cases hij:i=j
 ·rw [if_pos hij] at q ⊢
  by_cases hl:i<δ.length
  ·rw [if_pos (by rw [<- r.len];exact hij▸hl)]
   rw [if_pos (hij▸hl)] at q;cases q;exact ⟨v,rfl,h⟩
  ·rw [if_neg (hij▸hl)] at q;cases q
 ·rw [if_neg hij] at q ⊢
  exact r.get j e q
structure Bd where
 p:Mem->Hp->Prop
 go:∀{M M':Mem} {H H':Hp},p M H->Frm M H M' H'->p M' H'
def GA(M:Mem)(H:Hp):Bd:=⟨fun M' H'=>Frm M H M' H',fun a b=>a.trans b⟩
structure SR(X:Cx)(B:Bd)(δ:Dl)(M:Mem)(σ:St)(H:Hp):Prop where
 i0:B.p M H
 rh:RepH X.K H M
 rs:RepS X.K H δ σ
theorem SR.go{X:Cx}{B:Bd}{δ:Dl}{M M':Mem}{σ:St}{H H':Hp}(s:SR X B δ M σ H)(rh:RepH X.K H' M')(i:Frm M H M' H'):SR X B δ M' σ H':=⟨B.go s.i0 i,rh,s.rs.mono (i.imm s.rh)⟩
def Up(K:GH)(M:Mem)(H:Hp)(QQ:DK)(Q:VK):Prop:=∀d M',QQ d M'->∀v H',RepH K H' M'->Frm M H M' H'->Rp K H' d v->Q v H'
def UpT(K:GH)(M:Mem)(H:Hp)(QQ:Bool->Mem->Prop)(Q:Bool->Hp->Prop):Prop:=∀b M',QQ b M'->∀H',RepH K H' M'->Frm M H M' H'->Q b H'
def UpA(K:GH)(M:Mem)(H:Hp)(QQ:List D->Mem->Prop)(Q:List V->Hp->Prop):Prop:=∀ds M',QQ ds M'->∀vs H',RepH K H' M'->Frm M H M' H'->Rps K H' ds vs->Q vs H'
theorem Up.go{K:GH}{M M1:Mem}{H H1:Hp}{QQ:DK}{Q:VK}(u:Up K M H QQ Q)(i:Frm M H M1 H1):Up K M1 H1 QQ Q:=fun d M' q v H' a b c=>u d M' q v H' a (i.trans b) c
theorem UpT.go{K:GH}{M M1:Mem}{H H1:Hp}{QQ:Bool->Mem->Prop}{Q:Bool->Hp->Prop}(u:UpT K M H QQ Q)(i:Frm M H M1 H1):UpT K M1 H1 QQ Q:=fun d M' q H' a b=>u d M' q H' a (i.trans b)
inductive liftE(X:Cx)(B:Bd)(T:bN)(σ:St)(H:Hp)(Q:VK):Prop
 |mk (δ:Dl) (M:Mem) (QQ:DK) (s:SR X B δ M σ H) (h:T δ M QQ) (u:Up X.K M H QQ Q):liftE X B T σ H Q
inductive liftT(X:Cx)(B:Bd)(T:fb)(σ:St)(H:Hp)(Q:Bool->Hp->Prop):Prop
 |mk (δ:Dl) (M:Mem) (QQ:Bool->Mem->Prop) (s:SR X B δ M σ H) (h:T δ M QQ) (u:UpT X.K M H QQ Q):liftT X B T σ H Q
inductive liftA(X:Cx)(B:Bd)(T:gl)(σ:St)(H:Hp)(Q:List V->Hp->Prop):Prop
 |mk (δ:Dl) (M:Mem) (QQ:List D->Mem->Prop) (s:SR X B δ M σ H) (h:T δ M QQ) (u:UpA X.K M H QQ Q):liftA X B T σ H Q
def DE(X:Cx)(B:Bd)(e:Expr)(T:bN):Prop:=PE X e (liftE X B T)
def DT(X:Cx)(B:Bd)(e:Expr)(T:fb):Prop:=PT X e (liftT X B T)
def DA(X:Cx)(B:Bd)(es:List Expr)(T:gl):Prop:=PA X es (liftA X B T)
theorem bo{X:Cx}{e:Expr}{t t':TE}(h:PE X e t)(w:∀σ H Q,t' σ H Q->t σ H Q):PE X e t':=fun pins s σ H Q I q=>h pins s σ H Q I (w σ H Q q)
theorem lY{X:Cx}{e:Expr}{t t':TT}(h:PT X e t)(w:∀σ H Q,t' σ H Q->t σ H Q):PT X e t':=fun pins s σ H Q I q=>h pins s σ H Q I (w σ H Q q)
theorem rq{X:Cx}{e:List Expr}{t t':TA}(h:PA X e t)(w:∀σ H Q,t' σ H Q->t σ H Q):PA X e t':=fun pos pins s σ H Q I q=>h pos pins s σ H Q I (w σ H Q q)
theorem cu{X:Cx}{e:Stmt}{t t':TS}(h:PS X e t)(w:∀D σ H,t' D σ H->t D σ H):PS X e t':=fun pins s σ H D I q=>h pins s σ H D I (w D σ H q)
theorem k9{X:Cx}{e:List Stmt}{t t':TS}(h:rm X e t)(w:∀D σ H,t' D σ H->t D σ H):rm X e t':=fun pins s σ H D I q=>h pins s σ H D I (w D σ H q)
def aa(i:Nat):bN:=fun δ M Q=>match δ[i]? with
 |some (some d)=>Q d M
 |_=>False
def dC(d:D):bN:=fun _ M Q=>Q d M
section
variable {X:Cx}{B:Bd}{a b c:Expr}{ta tb tc:bN}{pos:Pos}
theorem DN{i:Nat}{x:Str}{pos:Pos}(hN:X.N[i]?=some x)(hv:EH X.env.scope x)(hd:(x==("__debug__":Str))=false:=by decide)(hcd:(x==("__classdict__":Str))=false:=by decide):DE X B (.Name x pos) (aa i):=by
 refine bo (C2 hN hv hd hcd) ?_
 rintro σ H Q ⟨δ,M,QQ,s,h,u⟩
 unfold aa at h
 split at h
 ·rename_i d e
  obtain ⟨v,h1,h2⟩:=s.rs.get i d e;exact ⟨v,h1,u d M h v H s.rh Frm.refl h2⟩
 ·exact h.elim
theorem vB{e:Expr}{v:V}{d:D}(h:PE X e (tC v))(r:∀H,Rp X.K H d v):DE X B e (dC d):=by
 refine bo h ?_
 rintro σ H Q ⟨δ,M,QQ,s,h,u⟩
 exact u d M h v H s.rh Frm.refl (r H)
theorem ae{i j pos}:DE X B (.Constant (.int i) j pos) (dC (.int i)):=vB Df fun _=>rfl
theorem db{i j pos}:DE X B (.Constant (.bool i) j pos) (dC (.bl i)):=vB FN fun _=>rfl
theorem fk{j pos}:DE X B (.Constant .none j pos) (dC .non):=vB CS fun _=>rfl
theorem av{i j pos}:DE X B (.Constant (.str i) j pos) (dC (.str i)):=vB qt fun _=>rfl
abbrev gk:=D->D->Mem->DK->Prop
inductive liftR2(X:Cx)(r:gk)(x y:V)(H:Hp)(Q:VK):Prop
 |mk (d1 d2:D) (M:Mem) (QQ:DK) (rh:RepH X.K H M) (r1:Rp X.K H d1 x) (r2:Rp X.K H d2 y) (h:r d1 d2 M QQ) (u:Up X.K M H QQ Q):liftR2 X r x y H Q
def au(r:gk)(ta tb:bN):bN:=fun δ M Q=>ta δ M fun x M1=>tb δ M1 fun y M2=>r x y M2 Q
theorem iU{r:gk}{σ:St}{H:Hp}{Q:VK}(h:liftE X B (au r ta tb) σ H Q):G3 (liftR2 X r) (liftE X B ta) (liftE X B tb) σ H Q:=by
 obtain ⟨δ,M,QQ,s,h,u⟩:=h;refine ⟨δ,M,_,s,h,fun x M1 h1 v1 H1 rh1 i1 r1=>?_⟩;refine ⟨δ,M1,_,s.go rh1 i1,h1,fun y M2 h2 v2 H2 rh2 i2 r2=>?_⟩;exact ⟨x,y,M2,QQ,rh2,r1.mf rh1 i2,r2,h2,u.go (i1.trans i2)⟩
theorem aN{op:Operator}{r:gk}(ho:dm X (binaryOp op) (liftR2 X r))(ha:DE X B a ta)(hb:DE X B b tb):DE X B (.BinOp a op b pos) (au r ta tb):=bo (Fx ho ha hb) fun _ _ _ h=>iU h
theorem eV{op:CmpOp}{r:gk}(ho:dm X (compareOp op) (liftR2 X r))(ha:DE X B a ta)(hb:DE X B b tb)(hm:behindInMarks op b=false):DE X B (.Compare a [op] [b] pos) (au r ta tb):=bo (As ho ha hb hm) fun _ _ _ h=>iU h
theorem aj{r:gk}(hr:IxR X (liftR2 X r))(ha:DE X B a ta)(hb:DE X B b tb)(hs:tz b):DE X B (.Subscript a b pos) (au r ta tb):=bo (EQ hr ha hb hs) fun _ _ _ h=>iU h
def aL(t:bN):fb:=fun δ M Q=>t δ M fun d M'=>match d with
 |.bl k=>Q k M'
 |_=>False
theorem aH{op:CmpOp}{r:gk}(ho:dm X (compareOp op) (liftR2 X r))(ha:DE X B a ta)(hb:DE X B b tb)(hm:behindInMarks op b=false):DT X B (.Compare a [op] [b] pos) (aL (au r ta tb)):=by
 refine lY (zj ho ha hb hm) ?_
 rintro σ H Q ⟨δ,M,QQ,s,h,u⟩
 have h':liftE X B (au r ta tb) σ H (fun x H'=>∃k,x=.bl k/\Q k H'):=by
  refine ⟨δ,M,_,s,h,fun d M' q v H' rh i rp=>?_⟩;cases d with
  |bl k=>exact ⟨k,rp,u k M' q H' rh i⟩
  |_=>exact (show False from q).elim
 exact iU h'
def tru(M:Mem):D->Option Bool
 |.non=>some false
 |.bl b=>some b
 |.int i=>some (i != 0)
 |.str y=>if y.length<=sizeLine then some ((y.length:Int) != 0) else none
 |.tup xs=>some (!xs.isEmpty)
 |.lst xs=>some (!xs.isEmpty)
 |.ref a=>match M a with
  |some (.lst xs)=>some (!xs.isEmpty)
  |some (.dK xs)=>some (!xs.isEmpty)
  |_=>none
 |_=>none
def cY(t:bN):fb:=fun δ M Q=>t δ M fun d M'=>match tru M' d with
 |some k=>Q k M'
 |none=>False
theorem fh{K:GH}{H:Hp}{ds:List D}{vs:List V}(r:Rps K H ds vs):vs.isEmpty=ds.isEmpty:=by
 have:=r.length;cases ds<;>cases vs<;>simp_all
theorem Dt{K:GH}{H:Hp}{M:Mem}{d:D}{v:V}{k:Bool}(rh:RepH K H M)(r:Rp K H d v)(e:tru M d=some k):Cr K v H k:=by
 cases d with
 |non=>cases r;cases e;rfl
 |bl b=>cases r;cases e;rfl
 |int i=>cases r;cases e;rfl
 |str y=>
  cases r;simp only [tru] at e
  split at e
  ·cases e;exact ⟨by assumption,rfl⟩
  ·cases e
 |ty n=>cases e
 |tup xs=>
  obtain ⟨p,vs,rfl,t,r⟩:=r;cases e;exact .inr (.inl ⟨vs,t.sq,by rw [fh r]⟩)
 |mt xs=>cases e
 |ml xs=>cases e
 |lst xs=>
  obtain ⟨p,vs,rfl,t,r⟩:=r;cases e;exact .inl ⟨vs,t.sq,by rw [fh r]⟩
 |ref a=>
  cases r;simp only [tru] at e
  split at e
  ·rename_i xs q
   obtain ⟨vs,h1,h2⟩:=rh _ _ q;cases e;exact .inl ⟨vs,gj h1,by rw [fh h2]⟩
  ·rename_i xs q
   obtain ⟨vs,h1,h2⟩:=rh _ _ q;cases e;refine .inr (.inr ⟨vs,h1,?_⟩);cases h2<;>rfl
  ·cases e
theorem cb{e:Expr}(h:DE X B e ta)(he:∀whole,isTrue e X.env whole=(do let v <- whole;standAt e.pos;holding [v] (truthy v)):=by intro _;rfl):DT X B e (cY ta):=by
 refine lY (vJ h he) ?_
 rintro σ H Q ⟨δ,M,QQ,s,h,u⟩
 refine ⟨δ,M,_,s,h,fun d M' q v H' rh i rp=>?_⟩
 split at q
 ·rename_i k e
  exact ⟨k,Dt rh rp e,u k M' q H' rh i⟩
 ·exact q.elim
def fQ(t:fb):fb:=fun δ M Q=>t δ M fun c M1=>Q (!c) M1
theorem d_{tA:fb}(ha:DT X B a tA):DT X B (.UnaryOp .Not a pos) (fQ tA):=by
 refine lY (Cw ha) ?_
 rintro σ H Q ⟨δ,M,QQ,s,h,u⟩
 exact ⟨δ,M,_,s,h,fun c M' q H' rh i=>u _ M' q H' rh i⟩
end
end L3
namespace L3
open PySem L2
section
variable {X:Cx}{B:Bd}{a b c:Expr}{ta tb tc:bN}{tA tB':fb}{rest:List Expr}{pos:Pos}
def DW(X:Cx)(B:Bd)(e:Expr)(T:fb):Prop:=PW X e (liftT X B T)
theorem dL{e:Expr}{T:fb}(h:DW X B e T):DT X B e T:=GB h
theorem tq{X:Cx}{e:Expr}{t t':TT}(h:PW X e t)(w:∀σ H Q,t' σ H Q->t σ H Q):PW X e t':=fun wh pins s σ H Q I q=>h wh pins s σ H Q I (w σ H Q q)
def iI(t u:fb):fb:=fun δ M Q=>t δ M fun c M1=>if c=true then u δ M1 Q else Q false M1
def qd(t u:fb):fb:=fun δ M Q=>t δ M fun c M1=>if c=true then Q true M1 else u δ M1 Q
theorem dS(ha:DT X B a tA):DW X B (.BoolOp .And [a] pos) tA:=Ac ha
theorem g9(ha:DT X B a tA):DW X B (.BoolOp .Or [a] pos) tA:=Eg ha
theorem dD(ha:DT X B a tA)(hb:DW X B (.BoolOp .And (b::rest) pos) tB'):DW X B (.BoolOp .And (a::b::rest) pos) (iI tA tB'):=by
 refine tq (CD ha hb) ?_
 rintro σ H Q ⟨δ,M,QQ,s,h,u⟩
 refine ⟨δ,M,_,s,h,fun c M' q H' rh i=>?_⟩;cases c with
 |true=>rw [if_pos rfl] at q ⊢;exact ⟨δ,M',QQ,s.go rh i,q,u.go i⟩
 |false=>rw [if_neg GY] at q ⊢;exact u _ M' q H' rh i
theorem fW(ha:DT X B a tA)(hb:DW X B (.BoolOp .Or (b::rest) pos) tB'):DW X B (.BoolOp .Or (a::b::rest) pos) (qd tA tB'):=by
 refine tq (FJ ha hb) ?_
 rintro σ H Q ⟨δ,M,QQ,s,h,u⟩
 refine ⟨δ,M,_,s,h,fun c M' q H' rh i=>?_⟩;cases c with
 |false=>rw [if_neg GY] at q ⊢;exact ⟨δ,M',QQ,s.go rh i,q,u.go i⟩
 |true=>rw [if_pos rfl] at q ⊢;exact u _ M' q H' rh i
def BB(ta tb:bN):bN:=fun δ M Q=>ta δ M fun x M1=>match x with
 |.bl true=>tb δ M1 Q
 |.bl false=>Q (.bl false) M1
 |_=>False
theorem Dj{op}{t:bN}(h:DE X B a t):DE X B (.BoolOp op [a] pos) t:=C_ h
theorem BL(ha:DE X B a ta)(hb:DE X B (.BoolOp .And (b::rest) pos) tb):DE X B (.BoolOp .And (a::b::rest) pos) (BB ta tb):=by
 refine bo (DL ha hb) ?_
 rintro σ H Q ⟨δ,M,QQ,s,h,u⟩
 refine ⟨δ,M,_,s,h,fun d M' q v H' rh i r=>?_⟩;cases d with
 |bl c=>
  cases c with
  |true=>exact ⟨true,r,by rw [if_pos rfl];exact ⟨δ,M',QQ,s.go rh i,q,u.go i⟩⟩
  |false=>exact ⟨false,r,by rw [if_neg GY];exact u _ M' q _ H' rh i rfl⟩
 |_=>exact (show False from q).elim
def EK(t:fb)(ta tb:bN):bN:=fun δ M Q=>t δ M fun c M1=>if c=true then ta δ M1 Q else tb δ M1 Q
theorem fz{c:Expr}(hc:DT X B c tA)(ha:DE X B a ta)(hb:DE X B b tb):DE X B (.IfExp c a b pos) (EK tA ta tb):=by
 refine bo (xT hc ha hb) ?_
 rintro σ H Q ⟨δ,M,QQ,s,h,u⟩
 refine ⟨δ,M,_,s,h,fun c M' q H' rh i=>?_⟩;cases c with
 |true=>rw [if_pos rfl] at q ⊢;exact ⟨δ,M',QQ,s.go rh i,q,u.go i⟩
 |false=>rw [if_neg GY] at q ⊢;exact ⟨δ,M',QQ,s.go rh i,q,u.go i⟩
variable {e:Expr}{es:List Expr}{te:bN}{t:gl}
def dNil:gl:=fun _ M Q=>Q [] M
def a9(ta:bN)(tr:gl):gl:=fun δ M Q=>ta δ M fun x M1=>tr δ M1 fun xs M2=>Q (x::xs) M2
theorem ac:DA X B [] dNil:=by
 refine rq yc ?_
 rintro σ H Q ⟨δ,M,QQ,s,h,u⟩
 exact u [] M h [] H s.rh Frm.refl .nil
theorem a8(ha:DE X B e te)(hr:DA X B es t)(hs:starEach (e::es) X.env=(false,eval e X.env)::starEach es X.env:=by rfl):DA X B (e::es) (a9 te t):=by
 refine rq (sE ha hr hs) ?_
 rintro σ H Q ⟨δ,M,QQ,s,h,u⟩
 refine ⟨δ,M,_,s,h,fun x M1 h1 v1 H1 rh1 i1 r1=>?_⟩;refine ⟨δ,M1,_,s.go rh1 i1,h1,fun xs M2 h2 v2 H2 rh2 i2 r2=>?_⟩;exact u _ M2 h2 _ H2 rh2 (i1.trans i2) (.cons (r1.mf rh1 i2) r2)
def bJ(t:gl):bN:=fun δ M Q=>t δ M fun xs M1=>xs.length<=sizeLine/\Q (.tup xs) M1
def ce(t:gl):bN:=fun δ M Q=>t δ M fun xs M1=>xs.length<=sizeLine/\∀p,M1 p=none->Q (.ref p) (M1.upd p (.lst xs))
theorem ba{x1}(h:DA X B es t):DE X B (.Tuple es x1 pos) (bJ t):=by
 refine bo (B_ h) ?_
 rintro σ H Q ⟨δ,M,QQ,s,h,u⟩
 refine ⟨δ,M,_,s,h,fun xs M1 h1 v1 H1 rh1 i1 r1=>⟨by rw [<- r1.length];exact h1.1,fun p hp=>?_⟩⟩
 exact u _ M1 h1.2 _ _ (rh1.new hp) (i1.trans (Frm.new hp)) ⟨p,v1,rfl,upd_same,r1.mono (Imm.new hp)⟩
theorem bE(h:DA X B es t):DE X B (.List es pos) (ce t):=by
 refine bo (CK h) ?_
 rintro σ H Q ⟨δ,M,QQ,s,h,u⟩
 refine ⟨δ,M,_,s,h,fun xs M1 h1 v1 H1 rh1 i1 r1=>⟨by rw [<- r1.length];exact h1.1,fun p hp=>?_⟩⟩
 exact u _ _ (h1.2 p (rh1.fresh hp)) _ _ (rh1.put (by rw [hp];trivial) ⟨v1,upd_same,r1.mono (Imm.new hp)⟩) (i1.trans (Frm.put (.inl hp))) rfl
theorem Inv.freeze{pins:List (Addr×Obj)}{σ:L2.St}{H:Hp}{s:Shared}{p:Addr}{vs:List V}(I:Inv X pins σ H s)(h:H p=some (.lst vs)):∃o,Inv X pins σ (upd H p (.frz o (.lst vs))) s:=by
 obtain ⟨its,n,r,e,z⟩:=I.lst h;have ne:∀{b:Addr} {u:Option HO},H b=u->u≠some (.lst vs)->b≠p:=fun {b u} q hu z=>by subst z;rw [h] at q;exact hu q.symm
 refine ⟨{ cls:=.type "list",data:=.seq its.toArray n },I.ok,I.os,I.bare,⟨I.base.keep,I.base.slot,fun b o q hn hx=>?_,I.base.there,fun b xs q=>?_,fun b o u q=>?_,fun b ps q=>?_⟩,I.loc,I.cell,?_,fun x c q=>?_,fun pp hp=>?_,fun b o q=>?_,I.len⟩
 ·have q':=I.base.free b o q hn hx
  rw [upd_ne (ne q' (by simp))];exact q'
 ·have q':=I.base.tups b xs q
  rw [upd_ne (ne q' (by simp))];exact q'
 ·have q':=I.base.frzs b o u q
  rw [upd_ne (ne q' (by simp))];exact q'
 ·obtain ⟨more,q'⟩:=I.base.tbls b ps q
  exact ⟨more,by rw [upd_ne (ne q' (by simp))];exact q'⟩
 ·rw [upd_ne (ne I.free (by simp))];exact I.free
 ·have q':=I.freeC x c q
  rw [upd_ne (ne q' (by simp))];exact q'
 ·obtain ⟨h1,h2,h3⟩:=I.pin pp hp
  exact ⟨h1,by rw [upd_ne (ne h2 (by simp))];exact h2,h3⟩
 ·by_cases hb:b=p
  ·subst hb
   rw [upd_same] at q;cases q;refine ⟨e,?_⟩;exact ⟨z,its,n,r,e⟩
  ·rw [upd_ne hb] at q
   refine (I.hok b o q).stay (fun _ _ _ y=>y) (fun c y=>?_) fun c xs y=>?_
   ·rw [upd_ne (ne y (by simp))];exact y
   ·rw [upd_ne (ne y (by simp))];exact y
def frz(d:D)(M:Mem)(Q:DK):Prop:=match d with
 |.ref a=>match M a with
  |some (.lst xs)=>Q (.lst xs) (M.del a)
  |_=>Q d M
 |_=>Q d M
def aB(t:bN):bN:=fun δ M Q=>t δ M fun d M'=>frz d M' Q
theorem RepH.freeze{K:GH}{H:Hp}{M:Mem}{p:Addr}{vs:List V}{o:Obj}(r:RepH K H M)(h:H p=some (.lst vs)):RepH K (upd H p (.frz o (.lst vs))) (M.del p):=fun b u e=>by
 unfold Mem.del at e
 split at e
 ·cases e
 ·rename_i hb
  exact (r b u e).keep (Imm.upd (by rw [h];trivial)) (upd_ne hb)
theorem aq(h:DE X B e te):DE X B e (aB te):=by
 intro pins s σ H Q I hq;obtain ⟨δ,M,QQ,sr,hT,u⟩:=hq;refine thn (h pins s σ H (fun v H'=>∃d M',RepH X.K H' M'/\Frm M H M' H'/\Rp X.K H' d v/\frz d M' QQ) I ⟨δ,M,_,sr,hT,fun d M' q v H' rh i r=>⟨d,M',rh,i,r,q⟩⟩) ?_
 rintro w s' ⟨v,H',I',rv,d,M',rh,i,r,q⟩
 unfold frz at q
 split at q
 ·rename_i a
  split at q
  ·rename_i xs e
   obtain ⟨vs,h1,h2⟩:=rh _ _ e;obtain ⟨o,I2⟩:=Inv.freeze I' h1;refine ⟨v,_,I2,rv,u _ _ q v _ (rh.freeze h1) (i.trans (Frm.del ⟨_,e⟩)) ?_⟩;exact ⟨a,vs,r,⟨o,upd_same⟩,h2.mono (Imm.upd (by rw [h1];trivial))⟩
  ·exact ⟨v,H',I',rv,u _ _ q v H' rh i r⟩
 ·exact ⟨v,H',I',rv,u _ _ q v H' rh i r⟩
end
end L3
namespace L3
open PySem L2
def seqL(M:Mem):D->Option (List D)
 |.lst xs=>some xs
 |.ref a=>match M a with
  |some (.lst xs)=>some xs
  |_=>none
 |_=>none
def cm(M:Mem):D->Option (List D)
 |.tup xs=>some xs
 |.lst xs=>some xs
 |.mt xs=>some xs
 |.ml xs=>some xs
 |.ref a=>match M a with
  |some (.lst xs)=>some xs
  |_=>none
 |_=>none
section
variable {X:Cx}{B:Bd}{K:GH}{H:Hp}{M:Mem}{d:D}{v:V}{xs:List D}
theorem gD(rh:RepH K H M)(r:Rp K H d v)(e:seqL M d=some xs):∃p vs,v=.ref p/\Rd H p (.lst vs)/\Rps K H xs vs:=by
 cases d with
 |lst ys=>
  cases e;obtain ⟨p,vs,rfl,⟨o,h⟩,r⟩:=r;exact ⟨p,vs,rfl,.inr ⟨o,h⟩,r⟩
 |ref a=>
  simp only [seqL] at e
  split at e
  ·rename_i ys q
   cases e;obtain ⟨vs,h1,h2⟩:=rh _ _ q;exact ⟨a,vs,r,.inl h1,h2⟩
  ·cases e
 |_=>cases e
theorem gT(rh:RepH K H M)(r:Rp K H d v)(e:cm M d=some xs):∃p vs,v=.ref p/\(SqL K H p vs\/ic K H p vs)/\Rps K H xs vs:=by
 cases d with
 |tup ys=>
  cases e;obtain ⟨p,vs,rfl,h,r⟩:=r;exact ⟨p,vs,rfl,.inr h.sq,r⟩
 |lst ys=>
  cases e;obtain ⟨p,vs,rfl,h,r⟩:=r;exact ⟨p,vs,rfl,.inl h.sq,r⟩
 |mt ys=>
  cases e;obtain ⟨p,vs,rfl,h,r⟩:=r;exact ⟨p,vs,rfl,.inr h.sq,r⟩
 |ml ys=>
  cases e;obtain ⟨p,vs,rfl,h,r⟩:=r;exact ⟨p,vs,rfl,.inl h.sq,r⟩
 |ref a=>
  simp only [cm] at e
  split at e
  ·rename_i ys q
   cases e;obtain ⟨vs,h1,h2⟩:=rh _ _ q;exact ⟨a,vs,r,.inl (gj h1),h2⟩
  ·cases e
 |_=>cases e
theorem zi:dm X (binaryOp .Add) (fun x y H Q=>∃l b xs zs,x=.ref l/\y=.ref b/\Rd H l (.lst xs)/\Rd H b (.lst zs)/\xs.length+zs.length<=sizeLine/\∀p,H p=none->Q (.ref p) (upd H p (.lst (xs++zs)))):=by
 intro pins s σ H x y v u Q I rx ry h;obtain ⟨l,b,xs,zs,rfl,rfl,hH,hB,hz,q⟩:=h;cases rx;cases ry;obtain ⟨z,its,n,r,e⟩:=hH.ok I.hok;obtain ⟨z2,its2,n2,r2,e2⟩:=hB.ok I.hok;have hl:=r.length;have hl2:=r2.length;refine PySem.P.add_list e e2 ?_ (by rw [GJ,GJ];lia)
 have ea:its.toArray++its2.toArray=(its++its2).toArray:=by simp
 rw [ea];exact ⟨.ref _,_,I.lnew (t':=s.toks) (r.append r2) (by rw [GP];lia),rfl,q _ I.fresh⟩
def bR:gk:=fun x y M Q=>match x,y with
 |.int i,.int j=>Q (.int (i+j)) M
 |.str a,.str b=>a.length+b.length<=sizeLine/\Q (.str (a++b)) M
 |.tup xs,.tup ys=>xs.length+ys.length<=sizeLine/\Q (.tup (xs++ys)) M
 |x,y=>match seqL M x,seqL M y with
  |some xs,some ys=>xs.length+ys.length<=sizeLine/\∀p,M p=none->Q (.ref p) (M.upd p (.lst (xs++ys)))
  |_,_=>False
theorem aX:dm X (binaryOp .Add) (liftR2 X bR):=by
 intro pins s σ H x y v u Q I rx ry h;obtain ⟨d1,d2,M,QQ,rh,r1,r2,h,up⟩:=h;unfold bR at h
 split at h
 ·cases r1;cases r2
  exact Ex pins s σ H _ _ v u Q I rx ry ⟨_,_,rfl,rfl,up _ M h _ H rh Frm.refl rfl⟩
 ·cases r1;cases r2
  exact qf pins s σ H _ _ v u Q I rx ry ⟨_,_,rfl,rfl,h.1,up _ M h.2 _ H rh Frm.refl rfl⟩
 ·obtain ⟨p,vs,rfl,t1,r1⟩:=r1
  obtain ⟨p',vs',rfl,t2,r2⟩:=r2;have l1:=r1.length;have l2:=r2.length;have r12:=r1.append r2
  by_cases hx:vs=[]
  ·subst hx
   have hu:=up _ M h.2 (.ref p') H rh Frm.refl ⟨p',vs',rfl,t2,r12⟩;exact xr pins s σ H _ _ v u Q I rx ry ⟨p,p',vs',rfl,rfl,t1.sq,t2.sq,hu⟩
  ·refine zn pins s σ H _ _ v u Q I rx ry ⟨p,p',vs,vs',rfl,rfl,t1.sq,t2.sq,hx,by lia,fun e=>?_,fun _ q hq=>?_⟩
   ·subst e
    rw [HD] at r12;exact up _ M h.2 (.ref p) H rh Frm.refl ⟨p,vs,rfl,t1,r12⟩
   ·exact up _ M h.2 _ _ (rh.new hq) (Frm.new hq) ⟨q,_,rfl,upd_same,r12.mono (Imm.new hq)⟩
 ·split at h
  ·rename_i xs ys e1 e2
   obtain ⟨p,vs,rfl,t1,r1⟩:=gD rh r1 e1;obtain ⟨p',vs',rfl,t2,r2⟩:=gD rh r2 e2;have l1:=r1.length;have l2:=r2.length;refine zi pins s σ H _ _ v u Q I rx ry ⟨p,p',vs,vs',rfl,rfl,t1,t2,by lia,fun q hq=>?_⟩
   exact up _ _ (h.2 q (rh.fresh hq)) _ _ (rh.put (by rw [hq];trivial) ⟨_,upd_same,(r1.append r2).mono (Imm.new hq)⟩) (Frm.put (.inl hq)) rfl
  ·exact h.elim
def oI(C:Int->Int->Prop)(g:Int->Int->D):gk:=fun x y M Q=>match x,y with
 |.int i,.int j=>C i j/\Q (g i j) M
 |_,_=>False
theorem BK{f:Value->Value->Sem Value}{C:Int->Int->Prop}{g:Int->Int->V}{g':Int->Int->D}(h:dm X f (rI C g))(e:∀i j K H,Rp K H (g' i j) (g i j)):dm X f (liftR2 X (oI C g')):=by
 intro pins s σ H x y v u Q I rx ry hq;obtain ⟨d1,d2,M,QQ,rh,r1,r2,hq,up⟩:=hq;unfold oI at hq
 split at hq
 ·cases r1;cases r2
  exact h pins s σ H _ _ v u Q I rx ry ⟨_,_,rfl,rfl,hq.1,up _ M hq.2 _ H rh Frm.refl (e _ _ _ _)⟩
 ·exact hq.elim
def yr(g:Int->Int->D):gk:=fun x y M Q=>match x,y with
 |.int i,.int j=>Q (g i j) M
 |_,_=>False
theorem rW{f:Value->Value->Sem Value}{g:Int->Int->V}{g':Int->Int->D}(h:dm X f (BF g))(e:∀i j K H,Rp K H (g' i j) (g i j)):dm X f (liftR2 X (yr g')):=by
 intro pins s σ H x y v u Q I rx ry hq;obtain ⟨d1,d2,M,QQ,rh,r1,r2,hq,up⟩:=hq;unfold yr at hq
 split at hq
 ·cases r1;cases r2
  exact h pins s σ H _ _ v u Q I rx ry ⟨_,_,rfl,rfl,up _ M hq _ H rh Frm.refl (e _ _ _ _)⟩
 ·exact hq.elim
abbrev kz:gk:=yr fun i j=>.int (i-j)
theorem dh:dm X (binaryOp .Sub) (liftR2 X kz):=rW CT fun _ _ _ _=>rfl
abbrev dP:gk:=oI (fun _ j=>0<j) fun i j=>.int (i % j)
theorem bI:dm X (binaryOp .Mod) (liftR2 X dP):=BK Cc fun _ _ _ _=>rfl
def BD(_ j:Int):Prop:=0<j/\j<2 ^ 200
theorem xo:dm X (binaryOp .FloorDiv) (rI BD fun i j=>.int (i / j)):=by
 intro pins s σ H x y v u Q I rx ry h;obtain ⟨i,j,rfl,rfl,hc,q⟩:=h;obtain ⟨h0,h1⟩:=hc;have hj:((j.toNat:Nat):Int)=j:=by lia
 refine xX (n:=j.toNat) ?_ (by lia) pins s σ H _ _ v u Q I rx ry ⟨i,j,rfl,rfl,hj.symm,q⟩
 have hlt:j.toNat<2 ^ 200:=by
  have:((j.toNat:Nat):Int)<((2 ^ 200:Nat):Int):=by rw [hj,Int.natCast_pow];exact h1
  exact Int.ofNat_lt.mp this
 have:=(Nat.log2_lt (n:=j.toNat) (k:=200) (by lia)).mpr hlt
 lia
abbrev ph:gk:=oI BD fun i j=>.int (i / j)
theorem gF:dm X (binaryOp .FloorDiv) (liftR2 X ph):=BK xo fun _ _ _ _=>rfl
abbrev G2:gk:=oI Gq fun i j=>.int (i ^ j.toNat)
theorem zx:dm X (binaryOp .Pow) (liftR2 X G2):=BK Dx fun _ _ _ _=>rfl
abbrev v0:gk:=yr fun i j=>.bl (decide (i<j))
theorem gh:dm X (compareOp .Lt) (liftR2 X v0):=rW Fi fun _ _ _ _=>rfl
abbrev qC:gk:=yr fun i j=>.bl (decide (j<i))
theorem c_:dm X (compareOp .Gt) (liftR2 X qC):=rW Fv fun _ _ _ _=>rfl
abbrev oGe:gk:=yr fun i j=>.bl (decide (j<=i))
theorem wD:dm X (compareOp .GtE) (liftR2 X oGe):=rW EW fun _ _ _ _=>rfl
theorem wG{c:Nat}:∀(k:Nat) (acc:Array Nat),(GK k #[c]).foldl (·++·) acc=acc++JR k c
 |0,acc=>by simp
 |k+1,acc=>by
  rw [He,Ir,wG k (acc++#[c])];apply Array.ext';simp [He]
theorem xG:dm X (binaryOp .Mult) (fun x y H Q=>∃c k,x=.str ⟨#[c]⟩/\y=.int k/\1<=k/\k<=1000/\Q (.str ⟨JR k.toNat c⟩) H):=by
 intro pins s σ H x y v u Q I rx ry h;obtain ⟨c,k,rfl,rfl,h1,h2,q⟩:=h;obtain ⟨t,rfl⟩:=rx;obtain ⟨t',rfl⟩:=ry;have hlen:(⟨#[c]⟩:Str).length=1:=rfl;have hsl:sizeLine=16777216:=rfl;refine PySem.P.mul_str ?_ ?_ ?_ ?_
 ·rw [decide_eq_false (by lia),decide_eq_false (by lia)];rfl
 ·intro _ _ hc
  rw [hlen] at hc;have:(1:Int)<=(2 ^ 63-1) / k:=Int.le_ediv_of_mul_le (by lia) (by lia)
  lia
 ·intro _ _
  rw [hlen];unfold PySem.Builtin.Str.tooLong;exact decide_eq_false (by lia)
 ·rw [if_neg (by lia)]
  by_cases hk:k=1
  ·rw [if_pos (by rw [hk];rfl)]
   subst hk;exact ⟨.str ⟨#[c]⟩,H,I,⟨_,rfl⟩,q⟩
  ·rw [if_neg (by simp [hlen,hk])]
   have he:(GK k.toNat #[c]).foldl (·++·) #[]=JR k.toNat c:=by rw [wG];simp
   refine ⟨?_,.str ⟨(GK k.toNat #[c]).foldl (·++·) #[]⟩,H,I.tok _,⟨_,rfl⟩,by rw [he];exact q⟩
   show ((GK k.toNat #[c]).foldl (·++·) #[]).size<=sizeLine;rw [he];simp;lia
def fA:gk:=fun x y M Q=>match x,y with
 |.int i,.int j=>CMul i j/\Q (.int (i*j)) M
 |.str z,.int k=>match z.cps.toList with
  |[c]=>1<=k/\k<=1000/\Q (.str ⟨JR k.toNat c⟩) M
  |_=>False
 |.tup xs,.int k=>xs≠[]/\0<=k/\k<=1000/\xs.length<=1000/\Q (.tup (GK k.toNat xs).flatten) M
 |_,_=>False
theorem Rps.rep{ds:List D}{vs:List V}(h:Rps K H ds vs):∀k:Nat,Rps K H (GK k ds).flatten (GK k vs).flatten
 |0=>rfl
 |k+1=>by
  rw [He,He,Ig,Ig];exact h.append (Rps.rep h k)
theorem ck:dm X (binaryOp .Mult) (liftR2 X fA):=by
 intro pins s σ H x y v u Q I rx ry h;obtain ⟨d1,d2,M,QQ,rh,r1,r2,h,up⟩:=h;cases d1 with
 |int i=>
  cases d2 with
  |int j=>
   cases r1;cases r2;exact Cl pins s σ H _ _ v u Q I rx ry ⟨_,_,rfl,rfl,h.1,up _ M h.2 _ H rh Frm.refl rfl⟩
  |_=>exact (show False from h).elim
 |str z=>
  cases d2 with
  |int k=>
   cases r1;cases r2;simp only [fA] at h
   split at h
   ·rename_i c e
    have ez:z=⟨#[c]⟩:=by
     obtain ⟨⟨l⟩⟩:=z;have e':l=[c]:=e;rw [e']
    subst ez;exact xG pins s σ H _ _ v u Q I rx ry ⟨_,_,rfl,rfl,h.1,h.2.1,up _ M h.2.2 _ H rh Frm.refl rfl⟩
   ·exact h.elim
  |_=>exact (show False from h).elim
 |tup xs=>
  cases d2 with
  |int k=>
   obtain ⟨p,vs,rfl,t1,r1⟩:=r1;cases r2;obtain ⟨h1,h2,h3,h4,h5⟩:=h;have l1:=r1.length;obtain ⟨t,rfl⟩:=ry;cases rx;obtain ⟨its,r,pt,_⟩:=I.tuple t1.sq;have hl:=r.length;refine uu pt (fun z=>h1 ?_) h2 h3 (by lia) (fun e=>?_) fun e=>?_
   ·have hz:its.length=0:=congrArg Iu z
    exact List.eq_nil_of_length_eq_zero (by lia)
   ·subst e
    refine ⟨.ref p,H,I,rfl,up _ M h5 _ H rh Frm.refl ⟨p,vs,rfl,t1,?_⟩⟩;simpa using r1
   ·have hf:H s.heap.objs.size=none:=I.hok.fresh (GO _)
    have hz:(GK k.toNat vs).flatten.length<=sizeLine:=by
     rw [tw];have h1:k.toNat*vs.length<=1000*1000:=Jz (by lia) (by lia)
     exact Hd h1 (by decide)
    have i2:Imm H (upd H s.heap.objs.size (.tup (GK k.toNat vs).flatten)):=Imm.new hf;exact ⟨.ref s.heap.objs.size,_,I.laid (t':=s.toks) (o:=.tup (GK k.toNat vs).flatten) (fun b ob z=>GC _ z) (GO _) ⟨hz,_,r.rep k.toNat,⟨_,GN _ rfl,⟨rfl,_,rfl⟩,rfl⟩⟩,rfl,
     up _ M h5 _ _ (rh.new hf) (Frm.new hf) ⟨_,_,rfl,upd_same,(r1.rep _).mono i2⟩⟩
  |_=>exact (show False from h).elim
 |_=>exact (show False from h).elim
def xV:D->Bool
 |.non=>true
 |_=>false
def vM:gk:=fun x y M Q=>match y with
 |.non=>Q (.bl (xV x)) M
 |_=>False
def wQ:gk:=fun x y M Q=>match y with
 |.non=>Q (.bl (!xV x)) M
 |_=>False
theorem vc(r:Rp K H d v):decide (v=V.non)=xV d:=by
 cases d with
 |non=>cases r;rfl
 |tup xs=>obtain ⟨p,vs,rfl,_⟩:=r;rfl
 |lst xs=>obtain ⟨p,vs,rfl,_⟩:=r;rfl
 |mt xs=>obtain ⟨p,vs,rfl,_⟩:=r;rfl
 |ml xs=>obtain ⟨p,vs,rfl,_⟩:=r;rfl
 |_=>cases r;rfl
theorem mw:dm X (compareOp .Is) (liftR2 X vM):=by
 intro pins s σ H x y v u Q I rx ry h;obtain ⟨d1,d2,M,QQ,rh,r1,r2,h,up⟩:=h;unfold vM at h
 split at h
 ·cases r2
  exact Da pins s σ H _ _ v u Q I rx ry ⟨rfl,by rw [vc r1];exact up _ M h _ H rh Frm.refl rfl⟩
 ·exact h.elim
theorem vG:dm X (compareOp .IsNot) (liftR2 X wQ):=by
 intro pins s σ H x y v u Q I rx ry h;obtain ⟨d1,d2,M,QQ,rh,r1,r2,h,up⟩:=h;unfold wQ at h
 split at h
 ·cases r2
  refine z8 pins s σ H _ _ v u Q I rx ry ⟨rfl,up _ M h _ H rh Frm.refl ?_⟩;show _=V.bl _;rw [vc r1]
 ·exact h.elim
end
end L3
namespace L3
open PySem L2
section
variable {κ:Type}[DecidableEq κ]
def cn(kvs:List (κ×D))(k:κ):Option D:=(kvs.find? fun kv=>decide (kv.1=k)).map (·.2)
def cX(kvs:List (κ×D))(k:κ)(v:D):List (κ×D):=
 if (kvs.any fun kv=>decide (kv.1=k))=true then kvs.map (fun kv=>if kv.1=k then (kv.1,v) else kv) else kvs++[(k,v)]
variable {K:GH}{H:Hp}
theorem Rkv.val{kvs:List (κ×D)}{ws:List (κ×V)}(h:Rkv K H kvs ws)(k:κ):(cn kvs k=none/\fP ws k=none)\/∃d v,cn kvs k=some d/\fP ws k=some v/\Rp K H d v:=by
 induction h with
 |nil=>exact .inl ⟨rfl,rfl⟩
 |@cons p q ps qs r t ih=>
  obtain ⟨k1,d⟩:=p;obtain ⟨k2,v⟩:=q;obtain ⟨e,r⟩:=r;dsimp only at e r;subst e
  by_cases hk:k1=k
  ·exact .inr ⟨d,v,by simp [cn,hk],by simp [fP,hk],r⟩
  ·simpa [cn,fP,hk] using ih
theorem Rkv.any{kvs:List (κ×D)}{ws:List (κ×V)}(h:Rkv K H kvs ws)(k:κ):(kvs.any fun kv=>decide (kv.1=k))=(ws.any fun kv=>decide (kv.1=k)):=by
 induction h with
 |nil=>rfl
 |cons r t ih=>rw [Iy,Iy,ih,r.1]
theorem Rkv.put{kvs:List (κ×D)}{ws:List (κ×V)}(h:Rkv K H kvs ws)(k:κ){d:D}{v:V}(r:Rp K H d v):Rkv K H (cX kvs k d) (cM ws k v):=by
 unfold cX cM;rw [h.any k]
 split
 ·rename_i q;clear q
  induction h with
  |nil=>exact .nil
  |@cons p q ps qs rr t ih=>
   obtain ⟨k1,d'⟩:=p;obtain ⟨k2,v'⟩:=q;obtain ⟨e,r'⟩:=rr;dsimp only at e r';subst e;rw [GR,GR];refine .cons ?_ ih
   by_cases hk:k1=k
   ·rw [if_pos hk,if_pos hk];exact ⟨rfl,r⟩
   ·rw [if_neg hk,if_neg hk];exact ⟨rfl,r'⟩
 ·rename_i q;clear q
  induction h with
  |nil=>exact .cons ⟨rfl,r⟩ .nil
  |cons rr t ih=>exact .cons rr ih
theorem Rkv.length{kvs:List (κ×D)}{ws:List (κ×V)}(h:Rkv K H kvs ws):kvs.length=ws.length:=Ik h
end
def dA:D->Option aP
 |.int i=>some (.inl i)
 |.str x=>some (.inr x)
 |_=>none
def eN:List D->Option (List aP)
 |[]=>some []
 |d::ds=>match dA d,eN ds with
  |some k,some ks=>some (k::ks)
  |_,_=>none
def oq:D->Option (List aP)
 |.tup xs=>eN xs
 |_=>none
section
variable {X:Cx}{K:GH}{H:Hp}{M:Mem}
theorem lQ{d:D}{v:V}{k:aP}(r:Rp K H d v)(e:dA d=some k):v=kV k:=by
 cases d with
 |int i=>cases e;exact r
 |str x=>cases e;exact r
 |_=>cases e
theorem jO:∀{ds:List D} {vs:List V} {ks:List aP},Rps K H ds vs->eN ds=some ks->vs=ks.map kV
 |[],vs,ks,r,e=>by cases e;exact r
 |d::ds,vs,ks,r,e=>by
  obtain ⟨v,r',rfl,a,b⟩:=r;simp only [eN] at e
  split at e
  ·rename_i k ks' e1 e2
   cases e;rw [lQ a e1,jO b e2];rfl
  ·cases e
def kh(M:Mem)(a:Addr)(y:D):Option (Option D):=match M a with
 |some (.dK kvs)=>match dA y with
  |some k=>some (cn kvs k)
  |none=>none
 |some (.dT kvs)=>match oq y with
  |some k=>some (cn kvs k)
  |none=>none
 |_=>none
theorem o9{d:D}{v:V}{ks:List aP}(r:Rp K H d v)(e:oq d=some ks):∃b,v=.ref b/\H b=some (.tup (ks.map kV)):=by
 cases d with
 |tup xs=>
  obtain ⟨p,vs,rfl,t,r⟩:=r;exact ⟨p,rfl,by rw [<- jO r e];exact t⟩
 |_=>cases e
theorem eK{a:Addr}{y:D}{v:V}{o:Option D}(rh:RepH K H M)(r:Rp K H y v)(e:kh M a y=some o):
  (o=none/\DGet H a v none)\/∃d w,o=some d/\DGet H a v (some w)/\Rp K H d w:=by
 unfold kh at e
 split at e
 ·rename_i kvs hM
  obtain ⟨ws,h1,h2⟩:=rh _ _ hM
  split at e
  ·rename_i k ek
   cases e;have ev:=lQ r ek;subst ev;rcases h2.val k with ⟨e1,e2⟩|⟨d,w,e1,e2,r'⟩
   ·exact .inl ⟨e1,by rw [<- e2];exact yo h1⟩
   ·exact .inr ⟨d,w,e1,by rw [<- e2];exact yo h1,r'⟩
  ·cases e
 ·rename_i kvs hM
  obtain ⟨ws,h1,h2⟩:=rh _ _ hM
  split at e
  ·rename_i k ek
   cases e;obtain ⟨b,rfl,hb⟩:=o9 r ek;rcases h2.val k with ⟨e1,e2⟩|⟨d,w,e1,e2,r'⟩
   ·exact .inl ⟨e1,by rw [<- e2];exact DGet.t h1 hb⟩
   ·exact .inr ⟨d,w,e1,by rw [<- e2];exact DGet.t h1 hb,r'⟩
  ·cases e
 ·cases e
end
end L3
namespace HT
open PySem PyProof.Rows
section
variable {prog:Program}{w:World}{A:Around}{E:Value->Shared->Prop}{s:Shared}
theorem fN{t sl:Addr}{items:Array Value}{vl vu:Value}{lo hi:Option Int}{Q:Value->Shared->Prop}(ht:IsTup s.heap t items)(hs:s.heap.IsSliceOf sl vl vu .none)(pl:IsPart vl lo)(pu:IsPart vu hi)
  (hw:sIx items.size 0 lo=0/\sIx items.size items.size hi=items.size) (h:Q (.ref t) s):wpAny (model prog w) A (getItem (.ref t) (.ref sl)) Q E s:=by
 obtain ⟨os,hos,hcs,hds⟩:=id hs;have hTs:s.TypeIs (.ref sl) "slice":=⟨os,hos,hcs⟩;unfold getItem
 try with_reducible refine wpAny_holding ?_
 first|refine wpAny_bind (wpAny_pure ?_)|skip
 refine wpAny_bind (wpAny_sequenceKey ht.typeIs (by decide) ?_)
 refine wpAny_bind (wpAny_callSpecial?_slot (name:=Hy "__getitem__") ht.typeIs HF
  (wpAny_call_entry HF ht.typeIs entry_tuple_getitem ?_ (args_tuple_getitem _ _)))
 show wpAny _ _ (Ka (.ref t) >>= _) _ _ s;refine wpAny_bind (tupleItemsOf_ ht ?_);refine wpAny_bind (wpAny_typeOf hTs ?_);rw [if_pos (by decide)]
 refine wpAny_bind (eG hs pl pu ?_);have hyes:((((sIx items.size 0 lo:Nat):Int)==0&&(1:Int)==1&&(sIx items.size items.size hi-sIx items.size 0 lo)==items.size)=true):=by
  rw [hw.1,hw.2];simp
 show wpAny _ _ (if (((sIx items.size 0 lo:Nat):Int)==0&&(1:Int)==1&&(sIx items.size items.size hi-sIx items.size 0 lo)==items.size)=true then _ else _) _ _ s
 rw [if_pos hyes];refine wpAny_bind (m:=Builtin.Tuple.tupleIsExact _) (wpAny_bind (wpAny_typeOf ht.typeIs (wpAny_pure ?_)));rw [if_pos (by decide)]
 first
  |exact wpAny_bind (wpAny_rule (wpAny_bind (wpAny_pure (wpAny_pure ⟨_,rfl,wpAny_pure h⟩))))
  |exact wpAny_bind (wpAny_rule (wpAny_pure ⟨_,rfl,wpAny_pure h⟩))
  |exact wpAny_bind (wpAny_rule (wpAny_bind (wpAny_pure ⟨_,rfl,wpAny_pure h⟩)))
  |trace_state
end
end HT
namespace L3
open PySem L2
section
variable {X:Cx}{B:Bd}{K:GH}{H:Hp}{M:Mem}{a b c:Expr}{ta tb tc:bN}{pos:Pos}
def aO:gk:=fun x y M Q=>match cm M x,y with
 |some xs,.int i=>match atI xs i with
  |some d=>Q d M
  |none=>False
 |some _,_=>False
 |none,y=>match x,y with
  |.str z,.int i=>z.length<=sizeLine/\match atI z.cps.toList i with
   |some c=>Q (.str ⟨#[c]⟩) M
   |none=>False
  |.ref a,y=>match kh M a y with
   |some (some d)=>Q d M
   |_=>False
  |_,_=>False
theorem Rps.atI{ds:List D}{vs:List V}{i:Int}{d:D}(r:Rps K H ds vs)(e:atI ds i=some d):∃v,L2.atI vs i=some v/\Rp K H d v:=by
 unfold L2.atI at e ⊢;rw [<- r.length];cases q:tN ds.length i with
 |none=>rw [q] at e;cases e
 |some j=>
  rw [q] at e;exact r.get (i:=j) e
theorem zk(hu:X.A.units+1<cLine):IxR X (fun x y H Q=>∃a v,x=.ref a/\DGet H a y (some v)/\Q v H):=by
 intro value slice pins s σ H x y v u Q I rx ry h hs;obtain ⟨a,w,rfl,g,q⟩:=h;cases rx;exact PyProof.Rows.tail_any (om I g) PySem.F.slot_dict_getitem.lookup (uJ hu I g ry fun w' s3 I3 rw'=>⟨w,H,I3,rw',q⟩) hs
theorem ag(hu:X.A.units+1<cLine):IxR X (liftR2 X aO):=by
 intro value slice pins s σ H x y v u Q I rx ry h hs;obtain ⟨d1,d2,M,QQ,rh,r1,r2,h,up⟩:=h;unfold aO at h
 split at h
 ·rename_i xs i e
  split at h
  ·rename_i d ed
   cases r2;obtain ⟨p,vs,rfl,hq,r⟩:=gT rh r1 e;obtain ⟨w,ew,rw'⟩:=r.atI ed;refine D4 value slice pins s σ H _ _ v u Q I rx ry ?_ hs;have hu':=up _ M h _ H rh Frm.refl rw';rcases hq with hq|hq
   ·exact .inl ⟨p,vs,i,w,rfl,rfl,hq,ew,hu'⟩
   ·exact .inr (.inl ⟨p,vs,i,w,rfl,rfl,hq,ew,hu'⟩)
  ·exact h.elim
 ·exact h.elim
 ·split at h
  ·obtain ⟨hz,h⟩:=h
   split at h
   ·rename_i ch ec
    cases r1;cases r2;exact xO value slice pins s σ H _ _ v u Q I rx ry ⟨_,_,ch,rfl,rfl,hz,ec,up _ M h _ H rh Frm.refl rfl⟩ hs
   ·exact h.elim
  ·split at h
   ·rename_i d ed
    cases r1;rcases eK rh r2 ed with ⟨z,_⟩|⟨d',w,z,g,rw'⟩
    ·cases z
    ·cases z
     exact zk hu value slice pins s σ H _ _ v u Q I rx ry ⟨_,w,rfl,g,up _ M h _ H rh Frm.refl rw'⟩ hs
   ·exact h.elim
  ·exact h.elim
abbrev ED:=Dl->Mem->(Option Int->Mem->Prop)->Prop
inductive liftO(X:Cx)(B:Bd)(T:ED)(σ:St)(H:Hp)(Q:Option Int->Hp->Prop):Prop
 |mk (δ:Dl) (M:Mem) (QQ:Option Int->Mem->Prop) (s:SR X B δ M σ H) (h:T δ M QQ) (u:∀o M',QQ o M'->∀H',RepH X.K H' M'->Frm M H M' H'->Q o H'):liftO X B T σ H Q
def DO(X:Cx)(B:Bd)(e:Option Expr)(T:ED):Prop:=PO X e (liftO X B T)
theorem rS{X:Cx}{e:Option Expr}{t t':TO}(h:PO X e t)(w:∀σ H Q,t' σ H Q->t σ H Q):PO X e t':=fun pins s σ H Q I q=>h pins s σ H Q I (w σ H Q q)
def bw:ED:=fun _ M Q=>Q none M
def ci(t:bN):ED:=fun δ M Q=>t δ M fun x M1=>match x with
 |.int i=>Q (some i) M1
 |_=>False
theorem bG:DO X B none bw:=rS zH fun σ H Q ⟨δ,M,QQ,s,h,u⟩=>u none M h H s.rh Frm.refl
theorem bF{e:Expr}{te:bN}(h:DE X B e te):DO X B (some e) (ci te):=by
 refine rS (zc h) ?_
 rintro σ H Q ⟨δ,M,QQ,s,h,u⟩
 refine ⟨δ,M,_,s,h,fun d M' q v H' rh i r=>?_⟩;cases d with
 |int j=>exact ⟨j,r,u _ M' q H' rh i⟩
 |_=>exact (show False from q).elim
def gq(xs:List D)(lo hi:Option Int):List D:=(xs.drop (HT.sIx xs.length 0 lo)).take (HT.sIx xs.length xs.length hi-HT.sIx xs.length 0 lo)
theorem Rps.cut{ds:List D}{vs:List V}(r:Rps K H ds vs)(lo hi:Option Int):Rps K H (gq ds lo hi) (iH vs lo hi):=by
 unfold gq iH;rw [<- r.length];exact (r.drop _).take _
def oSl(x:D)(lo hi:Option Int)(M:Mem)(Q:DK):Prop:=match x with
 |.tup xs=>Q (.tup (gq xs lo hi)) M
 |.ml xs=>∀p,M p=none->Q (.ref p) (M.upd p (.lst (gq xs lo hi)))
 |x=>match seqL M x with
  |some xs=>∀p,M p=none->Q (.ref p) (M.upd p (.lst (gq xs lo hi)))
  |none=>False
inductive liftSl(X:Cx)(x:V)(lo hi:Option Int)(H:Hp)(Q:VK):Prop
 |mk (d:D) (M:Mem) (QQ:DK) (rh:RepH X.K H M) (r:Rp X.K H d x) (h:oSl d lo hi M QQ) (u:Up X.K M H QQ Q):liftSl X x lo hi H Q
theorem qP{vs:List V}{lo hi:Option Int}(h:HT.sIx vs.length 0 lo=0/\HT.sIx vs.length vs.length hi=vs.length):iH vs lo hi=vs:=by
 unfold iH;rw [h.1,h.2];simp
theorem AE:F7 X (fun x lo hi H Q=>∃a xs,x=.ref a/\ic X.K H a xs/\(iH xs lo hi=xs->Q (.ref a) H)/\∀p,H p=none->Q (.ref p) (upd H p (.tup (iH xs lo hi)))):=by
 intro pins s σ H x v vl vu lo hi sl Q I rx hs pl pu h;obtain ⟨a,xs,rfl,hx,q0,q⟩:=h
 by_cases hw:HT.sIx xs.length 0 lo=0/\HT.sIx xs.length xs.length hi=xs.length
 ·cases rx
  obtain ⟨its,r,ht,hz⟩:=I.tuple hx;have hlen:its.toArray.size=xs.length:=by rw [GJ];exact r.length.symm
  refine ⟨"tuple",_,HF.lookup,ht.typeIs,?_⟩;exact HT.fN ht hs pl pu (by rw [hlen];exact hw) ⟨.ref a,H,I,rfl,q0 (qP hw)⟩
 ·exact Ek pins s σ H _ v vl vu lo hi sl Q I rx hs pl pu ⟨a,xs,rfl,hx,hw,q⟩
end
end L3
namespace L3
open PySem L2
section
variable {X:Cx}{B:Bd}{K:GH}{H:Hp}{M:Mem}{e:Expr}{es:List Expr}{te:bN}{lo hi:Option Expr}{tl th:ED}{pos p2 p:Pos}{t:gl}
theorem C7:F7 X (liftSl X):=by
 intro pins s σ H x v vl vu lo hi sl Q I rx hs pl pu h;obtain ⟨d,M,QQ,rh,r,h,up⟩:=h;unfold oSl at h
 split at h
 ·obtain ⟨a,vs,rfl,ht,r⟩:=r
  refine AE pins s σ H _ v vl vu lo hi sl Q I rx hs pl pu ⟨a,vs,rfl,ht.sq,fun e=>?_,fun p hp=>?_⟩
  ·exact up _ M h _ H rh Frm.refl ⟨a,vs,rfl,ht,by rw [<- e];exact r.cut lo hi⟩
  ·exact up _ M h _ _ (rh.new hp) (Frm.new hp) ⟨p,_,rfl,upd_same,(r.cut lo hi).mono (Imm.new hp)⟩
 ·obtain ⟨a,vs,rfl,hq,r⟩:=r
  refine rQ pins s σ H _ v vl vu lo hi sl Q I rx hs pl pu ⟨a,vs,rfl,hq.sq,fun p hp=>?_⟩;exact up _ _ (h p (rh.fresh hp)) _ _ (rh.put (by rw [hp];trivial) ⟨_,upd_same,(r.cut lo hi).mono (Imm.new hp)⟩) (Frm.put (.inl hp)) rfl
 ·split at h
  ·rename_i xs e
   obtain ⟨a,vs,rfl,hq,r⟩:=gD rh r e;refine rQ pins s σ H _ v vl vu lo hi sl Q I rx hs pl pu ⟨a,vs,rfl,.inl hq,fun p hp=>?_⟩;exact up _ _ (h p (rh.fresh hp)) _ _ (rh.put (by rw [hp];trivial) ⟨_,upd_same,(r.cut lo hi).mono (Imm.new hp)⟩) (Frm.put (.inl hp)) rfl
  ·exact h.elim
def jx(te:bN)(tl th:ED):bN:=fun δ M Q=>te δ M fun x M1=>tl δ M1 fun l M2=>th δ M2 fun u M3=>oSl x l u M3 Q
theorem bu(he:DE X B e te)(hl:DO X B lo tl)(hu:DO X B hi th):DE X B (.Subscript e (.Slice lo hi none p2) pos) (jx te tl th):=by
 refine bo (vX C7 he hl hu) ?_
 rintro σ H Q ⟨δ,M,QQ,s,h,u⟩
 refine ⟨δ,M,_,s,h,fun x M1 h1 v1 H1 rh1 i1 r1=>?_⟩;refine ⟨δ,M1,_,s.go rh1 i1,h1,fun l M2 h2 H2 rh2 i2=>?_⟩;refine ⟨δ,M2,_,s.go rh2 (i1.trans i2),h2,fun w M3 h3 H3 rh3 i3=>?_⟩;exact ⟨x,M3,QQ,rh3,r1.mf rh1 (i2.trans i3),h3,u.go ((i1.trans i2).trans i3)⟩
abbrev sh:=List D->Mem->DK->Prop
inductive liftC(X:Cx)(r:sh)(xs:List V)(H:Hp)(Q:VK):Prop
 |mk (ds:List D) (M:Mem) (QQ:DK) (rh:RepH X.K H M) (rp:Rps X.K H ds xs) (h:r ds M QQ) (u:Up X.K M H QQ Q):liftC X r xs H Q
def bD(r:sh)(t:gl):bN:=fun δ M Q=>t δ M fun vs M1=>r vs M1 Q
theorem tT{r:sh}{σ:L2.St}{H:Hp}{Q:VK}(h:liftE X B (bD r t) σ H Q):tCB (liftC X r) (liftA X B t) σ H Q:=by
 obtain ⟨δ,M,QQ,s,h,u⟩:=h;refine ⟨δ,M,_,s,h,fun ds M1 h1 vs H1 rh1 i1 r1=>?_⟩;exact ⟨ds,M1,QQ,rh1,r1,h1,u.go i1⟩
theorem aJ{x:Str}{id:String}{r:sh}(hc:cA X (.builtin id) (liftC X r))(hg:Gl X x)(hm:X.mg x=none)(hv:bootBuiltins x=some (.builtin id))(ha:DA X B (e::es) t)(hn:x≠"__name__":=by decide)(hdb:(x==("__debug__":Str))=false:=by decide)
  (he:starEach (e::es) X.env=(false,eval e X.env)::starEach es X.env:=by rfl) (hpl:(backTo pos (starEach es X.env)).any (·.1)=false:=by rfl):DE X B (.Call (.Name x p) (e::es) [] pos) (bD r t):=
 bo (vh hc hg hm hv ha hn hdb he hpl) fun _ _ _ h=>tT h
theorem aI{x:Str}{T:String}{r:sh}(hc:cA X (.type T) (liftC X r))(hg:Gl X x)(hm:X.mg x=none)(hv:bootBuiltins x=some (.type T))(ha:DA X B (e::es) t)(hn:x≠"__name__":=by decide)(hdb:(x==("__debug__":Str))=false:=by decide)
  (he:starEach (e::es) X.env=(false,eval e X.env)::starEach es X.env:=by rfl) (hpl:(backTo pos (starEach es X.env)).any (·.1)=false:=by rfl):DE X B (.Call (.Name x p) (e::es) [] pos) (bD r t):=
 bo (uS hc hg hm hv ha hn hdb he hpl) fun _ _ _ h=>tT h
theorem gp{ds:List D}{vs:List V}{d:D}(r:Rps K H [d] vs):∃v,vs=[v]/\Rp K H d v:=by
 obtain ⟨v,w,rfl,a,b⟩:=r;cases b;exact ⟨v,rfl,a⟩
theorem zO{vs:List V}{d e:D}(r:Rps K H [d,e] vs):∃v w,vs=[v,w]/\Rp K H d v/\Rp K H e w:=by
 obtain ⟨v,w,rfl,a,b⟩:=r;obtain ⟨v',w',rfl,a',b⟩:=b;cases b;exact ⟨v,v',rfl,a,a'⟩
def bK:sh:=fun ds M Q=>match ds with
 |[d]=>match cm M d with
  |some xs=>Q (.int xs.length) M
  |none=>match d with
   |.str z=>z.length<=sizeLine/\Q (.int z.length) M
   |.ref a=>match M a with
    |some (.dK kvs)=>Q (.int kvs.length) M
    |_=>False
   |_=>False
 |_=>False
theorem aR:cA X (.builtin "len") (liftC X bK):=by
 intro pins s σ H xs us Q I r h;obtain ⟨ds,M,QQ,rh,rp,h,up⟩:=h;unfold bK at h
 split at h
 ·obtain ⟨v,rfl,rv⟩:=gp (ds:=[]) rp
  split at h
  ·rename_i ys e
   obtain ⟨q,vs,rfl,hq,rr⟩:=gT rh rv e;exact lK pins s σ H _ us Q I r ⟨q,vs,rfl,hq,by rw [<- rr.length];exact up _ M h _ H rh Frm.refl rfl⟩
  ·split at h
   ·cases rv
    exact l_ pins s σ H _ us Q I r ⟨_,rfl,h.1,up _ M h.2 _ H rh Frm.refl rfl⟩
   ·split at h
    ·rename_i kvs e
     cases rv;obtain ⟨ws,h1,h2⟩:=rh _ _ e;exact uY pins s σ H _ us Q I r ⟨_,ws,rfl,h1,by rw [<- h2.length];exact up _ M h _ H rh Frm.refl rfl⟩
    ·exact h.elim
   ·exact h.elim
 ·exact h.elim
def fj:sh:=fun ds M Q=>match ds with
 |[d]=>match cm M d with
  |some xs=>∀p,M p=none->Q (.ref p) (M.upd p (.lst xs))
  |none=>False
 |_=>False
theorem cy:cA X (.type "list") (liftC X fj):=by
 intro pins s σ H xs us Q I r h;obtain ⟨ds,M,QQ,rh,rp,h,up⟩:=h;unfold fj at h
 split at h
 ·obtain ⟨v,rfl,rv⟩:=gp (ds:=[]) rp
  split at h
  ·rename_i ys e
   obtain ⟨q,vs,rfl,hq,rr⟩:=gT rh rv e;refine mI pins s σ H _ us Q I r ⟨q,vs,rfl,hq,fun p hp=>?_⟩;exact up _ _ (h p (rh.fresh hp)) _ _ (rh.put (by rw [hp];trivial) ⟨_,upd_same,rr.mono (Imm.new hp)⟩) (Frm.put (.inl hp)) rfl
  ·exact h.elim
 ·exact h.elim
def cTuple:sh:=fun ds M Q=>match ds with
 |[.tup xs]=>Q (.tup xs) M
 |[d]=>match seqL M d with
  |some xs=>Q (.tup xs) M
  |none=>False
 |_=>False
theorem aQ:cA X (.type "tuple") (liftC X cTuple):=by
 intro pins s σ H xs us Q I r h;obtain ⟨ds,M,QQ,rh,rp,h,up⟩:=h;unfold cTuple at h
 split at h
 ·obtain ⟨v,rfl,rv⟩:=gp (ds:=[]) rp
  obtain ⟨q,vs,rfl,ht,rr⟩:=rv;exact fT pins s σ H _ us Q I r ⟨q,vs,rfl,.inr ⟨ht.sq,up _ M h _ H rh Frm.refl ⟨q,vs,rfl,ht,rr⟩⟩⟩
 ·obtain ⟨v,rfl,rv⟩:=gp (ds:=[]) rp
  split at h
  ·rename_i ys e
   obtain ⟨q,vs,rfl,hq,rr⟩:=gD rh rv e;refine fT pins s σ H _ us Q I r ⟨q,vs,rfl,.inl ⟨.inl hq,fun p hp=>?_⟩⟩;exact up _ M h _ _ (rh.new hp) (Frm.new hp) ⟨p,_,rfl,upd_same,rr.mono (Imm.new hp)⟩
  ·exact h.elim
 ·exact h.elim
def cO(M:Mem):D->Option String
 |.non=>some "NoneType"
 |.bl _=>some "bool"
 |.int _=>some "int"
 |.str _=>some "str"
 |.tup _=>some "tuple"
 |.lst _=>some "list"
 |.ref a=>match M a with
  |some (.lst _)=>some "list"
  |some (.dK _)=>some "dict"
  |some (.dT _)=>some "dict"
  |_=>none
 |_=>none
def lT(t T:String):Bool:=t==T||(t=="bool"&&T=="int")
def Ap(T:String):Bool:=T=="bool"||T=="int"||T=="str"||T=="tuple"||T=="list"||T=="dict"
theorem yD:(∀K:GH,∀t∈["NoneType","bool","int","str","tuple","list","dict"],∀T∈["bool","int","str","tuple","list","dict"],W.kitOne K (.type t) (.type T)=some (lT t T)):=by
 intro K t ht T hT;simp only [Hq,List.not_mem_nil,or_false] at ht hT;rcases ht with rfl|rfl|rfl|rfl|rfl|rfl|rfl<;>rcases hT with rfl|rfl|rfl|rfl|rfl|rfl<;>kernel_rfl
theorem Bf{d:D}{v:V}{t:String}(rh:RepH K H M)(r:Rp K H d v)(e:cO M d=some t):TyOf K H v (.type t)/\t∈["NoneType","bool","int","str","tuple","list","dict"]:=by
 cases d with
 |non=>cases r;cases e;exact ⟨.non,by simp⟩
 |bl b=>cases r;cases e;exact ⟨.bl b,by simp⟩
 |int i=>cases r;cases e;exact ⟨.int i,by simp⟩
 |str x=>cases r;cases e;exact ⟨.str x,by simp⟩
 |ty n=>cases e
 |mt n=>cases e
 |ml n=>cases e
 |tup xs=>
  cases e;obtain ⟨q,vs,rfl,ht,rr⟩:=r;exact ⟨.tup ht,by simp⟩
 |lst xs=>
  cases e;obtain ⟨q,vs,rfl,⟨o,ht⟩,rr⟩:=r;exact ⟨.frz ht,by simp⟩
 |ref a=>
  cases r;simp only [cO] at e
  split at e
  ·rename_i q;cases e;obtain ⟨ws,h1,h2⟩:=rh _ _ q;exact ⟨.lst h1,by simp⟩
  ·rename_i q;cases e;obtain ⟨ws,h1,h2⟩:=rh _ _ q;exact ⟨.dK h1,by simp⟩
  ·rename_i q;cases e;obtain ⟨ws,h1,h2⟩:=rh _ _ q;exact ⟨.dT h1,by simp⟩
  ·cases e
def fY:sh:=fun ds M Q=>match ds with
 |[d,.ty T]=>Ap T=true/\match cO M d with
  |some t=>Q (.bl (lT t T)) M
  |none=>False
 |_=>False
theorem cF:cA X (.builtin "isinstance") (liftC X fY):=by
 intro pins s σ H xs us Q I r h;obtain ⟨ds,M,QQ,rh,rp,h,up⟩:=h;unfold fY at h
 split at h
 ·rename_i d T
  obtain ⟨hT,h⟩:=h;obtain ⟨v,w,rfl,rv,rw'⟩:=zO rp;cases rw'
  split at h
  ·rename_i t e
   obtain ⟨ty,ht⟩:=Bf rh rv e;refine oo pins s σ H _ us Q I r ⟨v,T,.type t,_,rfl,ty,yD X.K t ht T ?_,up _ M h _ H rh Frm.refl rfl⟩;simp only [Ap,Bool.or_eq_true,beq_iff_eq] at hT;simp only [Hq,List.not_mem_nil,or_false];rcases hT with ((((h|h)|h)|h)|h)|h<;>simp [h]
  ·exact h.elim
 ·exact h.elim
def zu:sh:=fun ds M Q=>match ds with
 |[.int i,.int j]=>Q (.int (if j<i then j else i)) M
 |_=>False
theorem li(hc:X.calm=true):cA X (.builtin "min") (liftC X zu):=by
 intro pins s σ H xs us Q I r h;obtain ⟨ds,M,QQ,rh,rp,h,up⟩:=h;unfold zu at h
 split at h
 ·obtain ⟨v,w,rfl,rv,rw'⟩:=zO rp
  cases rv;cases rw';exact uv hc pins s σ H _ us Q I r ⟨_,_,rfl,up _ M h _ H rh Frm.refl rfl⟩
 ·exact h.elim
end
end L3
namespace L3
open PySem L2
mutual
def bc:D->D->Bool
 |.non,.non=>true
 |.bl a,.bl b=>a==b
 |.bl a,.int b=>(if a then 1 else 0)==b
 |.int a,.bl b=>a==(if b then 1 else 0)
 |.int a,.int b=>decide (a=b)
 |.str a,.str b=>decide (a=b)
 |.tup xs,.tup ys=>gK xs ys
 |.lst xs,.lst ys=>gK xs ys
 |_,_=>false
def gK:List D->List D->Bool
 |[],[]=>true
 |x::xs,y::ys=>bc x y&&gK xs ys
 |_,_=>false
end
mutual
def cj:Nat->D->Bool
 |_,.non=>true
 |_,.bl _=>true
 |_,.int _=>true
 |_,.str _=>true
 |n+1,.tup xs=>dI n xs
 |n+1,.lst xs=>dI n xs
 |_,_=>false
def dI:Nat->List D->Bool
 |_,[]=>true
 |n,x::xs=>cj n x&&dI n xs
end
mutual
def Hr(h:Heap):D->Value->Prop
 |.non,u=>u=.none
 |.bl b,u=>u=.bool b
 |.int i,u=>∃t,u=.int i t
 |.str x,u=>∃t,u=.str x t
 |.tup xs,u=>∃p its,u=.ref p/\h.IsTuple p (LH its)/\Hrs h xs its
 |.lst xs,u=>∃p its,u=.ref p/\h.IsList p (LH its)/\Hrs h xs its
 |_,_=>False
def Hrs(h:Heap):List D->List Value->Prop
 |[],us=>us=[]
 |x::xs,us=>∃u r,us=u::r/\Hr h x u/\Hrs h xs r
end
section
variable {h:Heap}
theorem Hrs.length:∀{ds:List D} {us:List Value},Hrs h ds us->ds.length=us.length
 |[],_,q=>by cases q;rfl
 |_::_,_,q=>by obtain ⟨v,r,rfl,_,b⟩:=q;simp [b.length]
theorem Hrs.get:∀{ds:List D} {us:List Value},Hrs h ds us->∀(i:Nat) (h1:i<ds.length) (h2:i<us.length),Hr h ds[i] us[i]
 |[],_,_,i,h1,_=>absurd h1 (IZ _)
 |x::xs,_,q,i,h1,h2=>by
  obtain ⟨v,r,rfl,a,b⟩:=q;cases i with
  |zero=>exact a
  |succ i=>exact b.get i (by simpa using h1) (by simpa using h2)
theorem tI{p:Addr}{a b:Array Value}(x:h.IsTuple p a)(y:h.IsTuple p b):a=b:=by
 obtain ⟨o,h1,_,n,h2⟩:=x;obtain ⟨o',h1',_,n',h2'⟩:=y;rw [h1] at h1';cases h1';rw [h2] at h2'
 injection h2' with e _
theorem sw{p:Addr}{a b:Array Value}(x:h.IsList p a)(y:h.IsList p b):a=b:=by
 obtain ⟨o,h1,_,n,h2⟩:=x;obtain ⟨o',h1',_,n',h2'⟩:=y;rw [h1] at h1';cases h1';rw [h2] at h2'
 injection h2' with e _
theorem Ff{p:Addr}{a b:Array Value}(x:h.IsList p a)(y:h.IsTuple p b):False:=by
 obtain ⟨o,h1,c,_⟩:=x;obtain ⟨o',h1',c',_⟩:=y;rw [h1] at h1';cases h1';rw [c] at c'
 injection c' with e
 exact absurd e (by decide)
mutual
theorem wz:∀{d e:D} {u:Value},Hr h d u->Hr h e u->d=e
 |.non,e,u,a,b=>by
  cases a;cases e with
  |non=>rfl
  |bl _=>cases b
  |int _=>obtain ⟨t,q⟩:=b;cases q
  |str _=>obtain ⟨t,q⟩:=b;cases q
  |tup _=>obtain ⟨p,i,q,_⟩:=b;cases q
  |lst _=>obtain ⟨p,i,q,_⟩:=b;cases q
  |_=>exact (show False from b).elim
 |.bl c,e,u,a,b=>by
  cases a;cases e with
  |non=>cases b
  |bl _=>cases b;rfl
  |int _=>obtain ⟨t,q⟩:=b;cases q
  |str _=>obtain ⟨t,q⟩:=b;cases q
  |tup _=>obtain ⟨p,i,q,_⟩:=b;cases q
  |lst _=>obtain ⟨p,i,q,_⟩:=b;cases q
  |_=>exact (show False from b).elim
 |.int c,e,u,a,b=>by
  obtain ⟨t,rfl⟩:=a;cases e with
  |non=>cases b
  |bl _=>cases b
  |int _=>obtain ⟨t,q⟩:=b;cases q;rfl
  |str _=>obtain ⟨t,q⟩:=b;cases q
  |tup _=>obtain ⟨p,i,q,_⟩:=b;cases q
  |lst _=>obtain ⟨p,i,q,_⟩:=b;cases q
  |_=>exact (show False from b).elim
 |.str c,e,u,a,b=>by
  obtain ⟨t,rfl⟩:=a;cases e with
  |non=>cases b
  |bl _=>cases b
  |int _=>obtain ⟨t,q⟩:=b;cases q
  |str _=>obtain ⟨t,q⟩:=b;cases q;rfl
  |tup _=>obtain ⟨p,i,q,_⟩:=b;cases q
  |lst _=>obtain ⟨p,i,q,_⟩:=b;cases q
  |_=>exact (show False from b).elim
 |.tup xs,e,u,a,b=>by
  obtain ⟨p,its,rfl,t1,r1⟩:=a;cases e with
  |non=>cases b
  |bl _=>cases b
  |int _=>obtain ⟨t,q⟩:=b;cases q
  |str _=>obtain ⟨t,q⟩:=b;cases q
  |tup ys=>
   obtain ⟨p',its',q,t2,r2⟩:=b;cases q;have e:=tI t1 t2;have e':its=its':=by simpa using congrArg Jm e
   subst e';rw [gP r1 r2]
  |lst ys=>obtain ⟨p',its',q,t2,r2⟩:=b;cases q;exact (Ff t2 t1).elim
  |_=>exact (show False from b).elim
 |.lst xs,e,u,a,b=>by
  obtain ⟨p,its,rfl,t1,r1⟩:=a;cases e with
  |non=>cases b
  |bl _=>cases b
  |int _=>obtain ⟨t,q⟩:=b;cases q
  |str _=>obtain ⟨t,q⟩:=b;cases q
  |lst ys=>
   obtain ⟨p',its',q,t2,r2⟩:=b;cases q;have e:=sw t1 t2;have e':its=its':=by simpa using congrArg Jm e
   subst e';rw [gP r1 r2]
  |tup ys=>obtain ⟨p',its',q,t2,r2⟩:=b;cases q;exact (Ff t1 t2).elim
  |_=>exact (show False from b).elim
 |.ty _,_,_,a,_=>(show False from a).elim
 |.ref _,_,_,a,_=>(show False from a).elim
 |.mt _,_,_,a,_=>(show False from a).elim
 |.ml _,_,_,a,_=>(show False from a).elim
theorem gP:∀{ds es:List D} {us:List Value},Hrs h ds us->Hrs h es us->ds=es
 |[],es,us,a,b=>by
  cases a;cases es with
  |nil=>rfl
  |cons _ _=>obtain ⟨v,r,q,_⟩:=b;cases q
 |d::ds,es,us,a,b=>by
  obtain ⟨v,r,rfl,a1,a2⟩:=a;cases es with
  |nil=>cases b
  |cons e es=>
   obtain ⟨v',r',q,b1,b2⟩:=b;cases q;rw [wz a1 b1,gP a2 b2]
end
mutual
theorem oh:∀{n:Nat} {d:D},cj n d=true->bc d d=true
 |_,.non,_=>by simp [bc]
 |_,.bl _,_=>by simp [bc]
 |_,.int _,_=>by simp [bc]
 |_,.str _,_=>by simp [bc]
 |0,.tup _,f=>by simp [cj] at f
 |0,.lst _,f=>by simp [cj] at f
 |n+1,.tup xs,f=>by rw [bc];exact eE (n:=n) f
 |n+1,.lst xs,f=>by rw [bc];exact eE (n:=n) f
 |_,.ty _,f=>by simp [cj] at f
 |_,.ref _,f=>by simp [cj] at f
 |_,.mt _,f=>by simp [cj] at f
 |_,.ml _,f=>by simp [cj] at f
theorem eE:∀{n:Nat} {ds:List D},dI n ds=true->gK ds ds=true
 |_,[],_=>by simp [gK]
 |n,x::xs,f=>by
  rw [dI,HP] at f;rw [gK,oh f.1,eE f.2];rfl
end
theorem dJ:∀{xs ys:List D},xs.length≠ys.length->gK xs ys=false
 |[],[],h=>absurd rfl h
 |[],_::_,_=>by simp [gK]
 |_::_,[],_=>by simp [gK]
 |x::xs,y::ys,h=>by rw [gK,dJ (by simpa using h),Jd]
theorem gZ:∀(xs ys:List D) (f:Nat->Bool),xs.length=ys.length->(∀j (h1:j<xs.length) (h2:j<ys.length),f j=bc xs[j] ys[j])->(HA xs.length).all f=gK xs ys
 |[],[],f,_,_=>by simp [gK]
 |[],_::_,_,h,_=>by simp at h
 |_::_,[],_,h,_=>by simp at h
 |x::xs,y::ys,f,h,hf=>by
  have h0:=hf 0 (by simp) (by simp)
  have ht:=gZ xs ys (fun j=>f (j+1)) (by simpa using h) (fun j h1 h2=>hf (j+1) (by simpa using h1) (by simpa using h2))
  rw [GI,JP,List.all_cons,List.all_map,gK,<- ht];simp only [List.getElem_cons_zero] at h0;rw [h0];rfl
theorem dG:∀{n:Nat} {xs:List D},dI n xs=true->∀(j:Nat) (h1:j<xs.length),cj n xs[j]=true
 |_,[],_,j,h1=>absurd h1 (IZ _)
 |n,x::xs,f,j,h1=>by
  rw [dI,HP] at f;cases j with
  |zero=>exact f.1
  |succ j=>exact dG f.2 j (by simpa using h1)
def jV:D->Option V
 |.non=>some .non
 |.bl b=>some (.bl b)
 |.int i=>some (.int i)
 |.str x=>some (.str x)
 |_=>none
theorem iN{d:D}{v:V}{u:Value}(e:jV d=some v)(r:Hr h d u):RelV v u/\wI v=true:=by
 cases d with
 |non=>cases e;exact ⟨r,rfl⟩
 |bl b=>cases e;exact ⟨r,rfl⟩
 |int b=>cases e;exact ⟨r,rfl⟩
 |str b=>cases e;exact ⟨r,rfl⟩
 |_=>cases e
theorem oi{d e:D}{v w:V}(h1:jV d=some v)(h2:jV e=some w):nk v w=bc d e:=by
 cases d with
 |non=>cases h1;cases e with|non=>cases h2;simp [nk,bc]|bl b=>cases h2;simp [nk,bc]|int b=>cases h2;simp [nk,bc]|str b=>cases h2;simp [nk,bc]|_=>cases h2
 |bl a=>cases h1;cases e with|non=>cases h2;simp [nk,bc]|bl b=>cases h2;simp [nk,bc]|int b=>cases h2;simp [nk,bc]|str b=>cases h2;simp [nk,bc]|_=>cases h2
 |int a=>cases h1;cases e with|non=>cases h2;simp [nk,bc]|bl b=>cases h2;simp [nk,bc]|int b=>cases h2;simp [nk,bc];rfl|str b=>cases h2;simp [nk,bc]|_=>cases h2
 |str a=>cases h1;cases e with|non=>cases h2;simp [nk,bc]|bl b=>cases h2;simp [nk,bc]|int b=>cases h2;simp [nk,bc]|str b=>cases h2;simp [nk,bc];rfl|_=>cases h2
 |_=>cases h1
end
theorem Bo:∀(n:Nat) {A:Around} {s:Shared} {d e:D} {u w:Value},Hr s.heap d u->Hr s.heap e w->cj n d=true->cj n e=true->A.units+n<cLine->JM A s u w (bc d e):=by
 intro n
 induction n with
 |zero=>
  intro A s d e u w rd re fd fe hu;have f1:∃v,jV d=some v:=by cases d<;>first|exact ⟨_,rfl⟩|(simp [cj] at fd)
  have f2:∃v,jV e=some v:=by cases e<;>first|exact ⟨_,rfl⟩|(simp [cj] at fe)
  obtain ⟨v1,e1⟩:=f1;obtain ⟨v2,e2⟩:=f2;obtain ⟨a1,b1⟩:=iN e1 rd;obtain ⟨a2,b2⟩:=iN e2 re;rw [<- oi e1 e2];exact xi a1 a2 b1 b2
 |succ n ih=>
  intro A s d e u w rd re fd fe hu;have hu0:A.units<cLine:=by lia
  have hu1:A.in1.units+n<cLine:=by show A.units+1+n<cLine;lia
  by_cases f1:∃v,jV d=some v
  ·obtain ⟨v1,e1⟩:=f1
   obtain ⟨a1,b1⟩:=iN e1 rd
   by_cases f2:∃v,jV e=some v
   ·obtain ⟨v2,e2⟩:=f2
    obtain ⟨a2,b2⟩:=iN e2 re;rw [<- oi e1 e2];exact xi a1 a2 b1 b2
   ·cases e with
    |tup ys=>
     obtain ⟨p,its,rfl,t,_⟩:=re;cases d with
     |non=>cases rd;simp only [bc];exact .none_tuple t hu0
     |bl b=>cases rd;simp only [bc];exact .bool_tuple b t hu0
     |int b=>obtain ⟨tk,rfl⟩:=rd;simp only [bc];exact .int_tuple b tk t hu0
     |str b=>obtain ⟨tk,rfl⟩:=rd;simp only [bc];exact .str_tuple b tk t hu0
     |_=>cases e1
    |lst ys=>
     obtain ⟨p,its,rfl,t,_⟩:=re;cases d with
     |non=>cases rd;simp only [bc];exact .none_list t hu0
     |bl b=>cases rd;simp only [bc];exact .bool_list b t hu0
     |int b=>obtain ⟨tk,rfl⟩:=rd;simp only [bc];exact .int_list b tk t hu0
     |str b=>obtain ⟨tk,rfl⟩:=rd;simp only [bc];exact .str_list b tk t hu0
     |_=>cases e1
    |ty _=>exact (show False from re).elim
    |ref _=>exact (show False from re).elim
    |mt _=>exact (show False from re).elim
    |ml _=>exact (show False from re).elim
    |_=>exact absurd ⟨_,rfl⟩ f2
  ·cases d with
   |tup xs=>
    obtain ⟨p,its,rfl,t1,r1⟩:=rd;cases e with
    |non=>cases re;simp only [bc];exact .tuple_none t1 hu0
    |bl b=>cases re;simp only [bc];exact .tuple_bool b t1 hu0
    |int b=>obtain ⟨tk,rfl⟩:=re;simp only [bc];exact .tuple_int b tk t1 hu0
    |str b=>obtain ⟨tk,rfl⟩:=re;simp only [bc];exact .tuple_str b tk t1 hu0
    |tup ys=>
     obtain ⟨p',its',rfl,t2,r2⟩:=re;rw [bc]
     by_cases hp:p=p'
     ·subst hp
      have e':its=its':=by simpa using congrArg Jm (tI t1 t2)
      subst e';rw [gP r1 r2,eE (n:=n) fe];exact .same _
     ·refine .of_refs hp ?_
      have l1:=r1.length;have l2:=r2.length;have key:∀j (h1:j<its.toArray.size) (h2:j<its'.toArray.size),JM A.in1 s its.toArray[j] its'.toArray[j] (match xs[j]?,ys[j]? with|some x,some y=>bc x y|_,_=>false):=fun j h1 h2=>by
       have h1':j<xs.length:=by rw [l1];simpa using h1
       have h2':j<ys.length:=by rw [l2];simpa using h2
       rw [GG h1',GG h2'];exact ih (r1.get j h1' (by simpa using h1)) (r2.get j h2' (by simpa using h2)) (dG fd j h1') (dG fe j h2') hu1
      have:=Ls (e:=fun j=>match xs[j]?,ys[j]? with|some x,some y=>bc x y|_,_=>false) t1 t2 hu0 key
      by_cases hl:xs.length=ys.length
      ·have hsz:its.toArray.size=its'.toArray.size:=by simp;lia
       rw [hsz] at this;simp only [LQ,beq_self_eq_true,Ln] at this;have hxs:its'.toArray.size=xs.length:=by simp;lia
       rw [hxs,gZ xs ys _ hl (fun j h1 h2=>by rw [GG h1,GG h2])] at this
       exact this
      ·have hsz:(its.toArray.size==its'.toArray.size)=false:=by simp;lia
       rw [hsz,Jd] at this;rw [dJ hl];exact this
    |lst ys=>obtain ⟨p',its',rfl,t2,r2⟩:=re;simp only [bc];exact .tuple_list t1 t2 hu0
    |_=>exact (show False from re).elim
   |lst xs=>
    obtain ⟨p,its,rfl,t1,r1⟩:=rd;cases e with
    |non=>cases re;simp only [bc];exact .list_none t1 hu0
    |bl b=>cases re;simp only [bc];exact .list_bool b t1 hu0
    |int b=>obtain ⟨tk,rfl⟩:=re;simp only [bc];exact .list_int b tk t1 hu0
    |str b=>obtain ⟨tk,rfl⟩:=re;simp only [bc];exact .list_str b tk t1 hu0
    |lst ys=>
     obtain ⟨p',its',rfl,t2,r2⟩:=re;rw [bc]
     by_cases hp:p=p'
     ·subst hp
      have e':its=its':=by simpa using congrArg Jm (sw t1 t2)
      subst e';rw [gP r1 r2,eE (n:=n) fe];exact .same _
     ·refine .of_refs hp ?_
      have l1:=r1.length;have l2:=r2.length
      by_cases hl:xs.length=ys.length
      ·have key:∀j (h1:j<its.toArray.size) (h2:j<its'.toArray.size),JM A.in1 s its.toArray[j] its'.toArray[j] (match xs[j]?,ys[j]? with|some x,some y=>bc x y|_,_=>false):=fun j h1 h2=>by
        have h1':j<xs.length:=by rw [l1];simpa using h1
        have h2':j<ys.length:=by rw [l2];simpa using h2
        rw [GG h1',GG h2'];exact ih (r1.get j h1' (by simpa using h1)) (r2.get j h2' (by simpa using h2)) (dG fd j h1') (dG fe j h2') hu1
       have:=LA (e:=fun j=>match xs[j]?,ys[j]? with|some x,some y=>bc x y|_,_=>false) t1 t2 (by simp;lia) hu0 key
       have hxs:its.toArray.size=xs.length:=by simp;lia
       rw [hxs,gZ xs ys _ hl (fun j h1 h2=>by rw [GG h1,GG h2])] at this
       exact this
      ·rw [dJ hl]
       exact Jn t1 t2 (by simp;lia) hu0
    |tup ys=>obtain ⟨p',its',rfl,t2,r2⟩:=re;simp only [bc];exact .list_tuple t1 t2 hu0
    |_=>exact (show False from re).elim
   |ty _=>exact (show False from rd).elim
   |ref _=>exact (show False from rd).elim
   |mt _=>exact (show False from rd).elim
   |ml _=>exact (show False from rd).elim
   |_=>exact absurd ⟨_,rfl⟩ f1
end L3
namespace L3
open PySem L2
theorem iX{n:Nat}{A:Around}{s:Shared}{xs ys:List D}{its its':List Value}(r1:Hrs s.heap xs its)(r2:Hrs s.heap ys its')(fd:dI n xs=true)(fe:dI n ys=true)(hu:A.units+n<cLine):
  ∀j (h1:j<its.toArray.size) (h2:j<its'.toArray.size),JM A s its.toArray[j] its'.toArray[j] (match xs[j]?,ys[j]? with|some x,some y=>bc x y|_,_=>false):=fun j h1 h2=>by
 have h1':j<xs.length:=by rw [r1.length];simpa using h1
 have h2':j<ys.length:=by rw [r2.length];simpa using h2
 rw [GG h1',GG h2'];exact Bo n (r1.get j h1' (by simpa using h1)) (r2.get j h2' (by simpa using h2)) (dG fd j h1') (dG fe j h2') hu
theorem jb{xs ys:List D}(hl:xs.length=ys.length):(HA xs.length).all (fun j=>match xs[j]?,ys[j]? with|some x,some y=>bc x y|_,_=>false)=gK xs ys:=
 gZ xs ys _ hl (fun j h1 h2=>by rw [GG h1,GG h2])
theorem Ct{n:Nat}{A:Around}{s:Shared}{xs ys:List D}{p p':Addr}{its its':List Value}(t1:s.heap.IsTuple p its.toArray)(t2:s.heap.IsTuple p' its'.toArray)(r1:Hrs s.heap xs its)(r2:Hrs s.heap ys its')(fd:cj n (.tup xs)=true)(fe:cj n (.tup ys)=true)(hu:A.units+n<cLine):
  Ma A s (.ref p) (.ref p') (bc (.tup xs) (.tup ys)):=by
 cases n with
 |zero=>simp [cj] at fd
 |succ n=>
  have l1:=r1.length;have l2:=r2.length;have:=Ls (A:=A) t1 t2 (by lia) (iX (n:=n) r1 r2 fd fe (by show A.units+1+n<cLine;lia))
  rw [bc]
  by_cases hl:xs.length=ys.length
  ·have hsz:its.toArray.size=its'.toArray.size:=by simp;lia
   rw [hsz] at this;simp only [LQ,beq_self_eq_true,Ln] at this;have hxs:its'.toArray.size=xs.length:=by simp;lia
   rw [hxs,jb hl] at this;exact this
  ·have hsz:(its.toArray.size==its'.toArray.size)=false:=by simp;lia
   rw [hsz,Jd] at this;rw [dJ hl];exact this
theorem E5{n:Nat}{A:Around}{s:Shared}{xs ys:List D}{p p':Addr}{its its':List Value}(t1:s.heap.IsList p its.toArray)(t2:s.heap.IsList p' its'.toArray)(r1:Hrs s.heap xs its)(r2:Hrs s.heap ys its')(fd:cj n (.lst xs)=true)(fe:cj n (.lst ys)=true)(hu:A.units+n<cLine):
  Ma A s (.ref p) (.ref p') (bc (.lst xs) (.lst ys)):=by
 cases n with
 |zero=>simp [cj] at fd
 |succ n=>
  have l1:=r1.length;have l2:=r2.length;rw [bc]
  by_cases hl:xs.length=ys.length
  ·have:=LA (A:=A) t1 t2 (by simp;lia) (by lia) (iX (n:=n) r1 r2 fd fe (by show A.units+1+n<cLine;lia))
   have hxs:its.toArray.size=xs.length:=by simp;lia
   rw [hxs,jb hl] at this;exact this
  ·rw [dJ hl]
   exact Jn t1 t2 (by simp;lia) (by lia)
theorem vL{n:Nat}{A:Around}{s:Shared}{xs ys:List D}{p p':Addr}{its its':List Value}(t1:s.heap.IsTuple p its.toArray)(t2:s.heap.IsTuple p' its'.toArray)(r1:Hrs s.heap xs its)(r2:Hrs s.heap ys its')(fd:cj n (.tup xs)=true)(fe:cj n (.tup ys)=true)(hu:A.units+n<cLine):
  Lr A s (.ref p) (.ref p') (!bc (.tup xs) (.tup ys)):=by
 cases n with
 |zero=>simp [cj] at fd
 |succ n=>
  have l1:=r1.length;have l2:=r2.length;have:=SeqAt.RcNeAt.tuples (A:=A) t1 t2 (by lia) (iX (n:=n) r1 r2 fd fe (by show A.units+1+n<cLine;lia))
  rw [bc]
  by_cases hl:xs.length=ys.length
  ·have hsz:its.toArray.size=its'.toArray.size:=by simp;lia
   rw [hsz] at this;simp only [LQ,beq_self_eq_true,Ln] at this;have hxs:its'.toArray.size=xs.length:=by simp;lia
   rw [hxs,jb hl] at this;exact this
  ·have hsz:(its.toArray.size==its'.toArray.size)=false:=by simp;lia
   rw [hsz,Jd] at this;rw [dJ hl];exact this
theorem wO{n:Nat}{A:Around}{s:Shared}{xs ys:List D}{p p':Addr}{its its':List Value}(t1:s.heap.IsList p its.toArray)(t2:s.heap.IsList p' its'.toArray)(r1:Hrs s.heap xs its)(r2:Hrs s.heap ys its')(fd:cj n (.lst xs)=true)(fe:cj n (.lst ys)=true)(hu:A.units+n<cLine):
  Lr A s (.ref p) (.ref p') (!bc (.lst xs) (.lst ys)):=by
 cases n with
 |zero=>simp [cj] at fd
 |succ n=>
  have l1:=r1.length;have l2:=r2.length;rw [bc]
  by_cases hl:xs.length=ys.length
  ·have:=SeqAt.RcNeAt.lists (A:=A) t1 t2 (by simp;lia) (by lia) (iX (n:=n) r1 r2 fd fe (by show A.units+1+n<cLine;lia))
   have hxs:its.toArray.size=xs.length:=by simp;lia
   rw [hxs,jb hl] at this;exact this
  ·rw [dJ hl]
   exact SeqAt.RcNeAt.lists_lengths t1 t2 (by simp;lia) (by lia)
theorem Fz{n:Nat}{A:Around}{s:Shared}{d e:D}{u w:Value}(rd:Hr s.heap d u)(re:Hr s.heap e w)(fd:cj n d=true)(fe:cj n e=true)(hu:A.units+n<cLine):Ma A s u w (bc d e):=by
 have hu0:A.units<cLine:=by lia
 cases d with
 |non=>
  cases rd;cases e with
  |non=>
   cases re;simpa [bc,Hl] using SeqAt.RcAt.none_none
  |bl y=>
   cases re;simpa [bc] using SeqAt.RcAt.none_bool y
  |int y=>
   obtain ⟨tky,rfl⟩:=re;simpa [bc] using SeqAt.RcAt.none_int y tky
  |str y=>
   obtain ⟨tky,rfl⟩:=re;simpa [bc] using SeqAt.RcAt.none_str y tky
  |tup y=>
   obtain ⟨py,itsy,rfl,ty,ry⟩:=re;simpa [bc] using SeqAt.RcAt.none_tuple ty hu0
  |lst y=>
   obtain ⟨py,itsy,rfl,ty,ry⟩:=re;simpa [bc] using SeqAt.RcAt.none_list ty hu0
  |_=>exact (show False from re).elim
 |bl x=>
  cases rd;cases e with
  |non=>
   cases re;simpa [bc] using SeqAt.RcAt.bool_none x
  |bl y=>
   cases re;simpa [bc,Hl] using SeqAt.RcAt.bool_bool x y
  |int y=>
   obtain ⟨tky,rfl⟩:=re;simpa [bc,Hl] using SeqAt.RcAt.bool_int x y tky
  |str y=>
   obtain ⟨tky,rfl⟩:=re;simpa [bc] using SeqAt.RcAt.bool_str x y tky
  |tup y=>
   obtain ⟨py,itsy,rfl,ty,ry⟩:=re;simpa [bc] using SeqAt.RcAt.bool_tuple x ty hu0
  |lst y=>
   obtain ⟨py,itsy,rfl,ty,ry⟩:=re;simpa [bc] using SeqAt.RcAt.bool_list x ty hu0
  |_=>exact (show False from re).elim
 |int x=>
  obtain ⟨tkx,rfl⟩:=rd;cases e with
  |non=>
   cases re;simpa [bc] using SeqAt.RcAt.int_none x tkx
  |bl y=>
   cases re;simpa [bc,Hl] using SeqAt.RcAt.int_bool x tkx y
  |int y=>
   obtain ⟨tky,rfl⟩:=re;simpa [bc,Hl] using SeqAt.RcAt.int_int x tkx y tky
  |str y=>
   obtain ⟨tky,rfl⟩:=re;simpa [bc] using SeqAt.RcAt.int_str x tkx y tky
  |tup y=>
   obtain ⟨py,itsy,rfl,ty,ry⟩:=re;simpa [bc] using SeqAt.RcAt.int_tuple x tkx ty hu0
  |lst y=>
   obtain ⟨py,itsy,rfl,ty,ry⟩:=re;simpa [bc] using SeqAt.RcAt.int_list x tkx ty hu0
  |_=>exact (show False from re).elim
 |str x=>
  obtain ⟨tkx,rfl⟩:=rd;cases e with
  |non=>
   cases re;simpa [bc] using SeqAt.RcAt.str_none x tkx
  |bl y=>
   cases re;simpa [bc] using SeqAt.RcAt.str_bool x tkx y
  |int y=>
   obtain ⟨tky,rfl⟩:=re;simpa [bc] using SeqAt.RcAt.str_int x tkx y tky
  |str y=>
   obtain ⟨tky,rfl⟩:=re;simpa [bc,Hl] using SeqAt.RcAt.str_str x tkx y tky
  |tup y=>
   obtain ⟨py,itsy,rfl,ty,ry⟩:=re;simpa [bc] using SeqAt.RcAt.str_tuple x tkx ty hu0
  |lst y=>
   obtain ⟨py,itsy,rfl,ty,ry⟩:=re;simpa [bc] using SeqAt.RcAt.str_list x tkx ty hu0
  |_=>exact (show False from re).elim
 |tup x=>
  obtain ⟨px,itsx,rfl,tx,rx⟩:=rd;cases e with
  |non=>
   cases re;simpa [bc] using SeqAt.RcAt.tuple_none tx hu0
  |bl y=>
   cases re;simpa [bc] using SeqAt.RcAt.tuple_bool y tx hu0
  |int y=>
   obtain ⟨tky,rfl⟩:=re;simpa [bc] using SeqAt.RcAt.tuple_int y tky tx hu0
  |str y=>
   obtain ⟨tky,rfl⟩:=re;simpa [bc] using SeqAt.RcAt.tuple_str y tky tx hu0
  |tup y=>
   obtain ⟨py,itsy,rfl,ty,ry⟩:=re;exact Ct tx ty rx ry fd fe hu
  |lst y=>
   obtain ⟨py,itsy,rfl,ty,ry⟩:=re;simpa [bc] using SeqAt.RcAt.tuple_list tx ty hu0
  |_=>exact (show False from re).elim
 |lst x=>
  obtain ⟨px,itsx,rfl,tx,rx⟩:=rd;cases e with
  |non=>
   cases re;simpa [bc] using SeqAt.RcAt.list_none tx hu0
  |bl y=>
   cases re;simpa [bc] using SeqAt.RcAt.list_bool y tx hu0
  |int y=>
   obtain ⟨tky,rfl⟩:=re;simpa [bc] using SeqAt.RcAt.list_int y tky tx hu0
  |str y=>
   obtain ⟨tky,rfl⟩:=re;simpa [bc] using SeqAt.RcAt.list_str y tky tx hu0
  |tup y=>
   obtain ⟨py,itsy,rfl,ty,ry⟩:=re;simpa [bc] using SeqAt.RcAt.list_tuple tx ty hu0
  |lst y=>
   obtain ⟨py,itsy,rfl,ty,ry⟩:=re;exact E5 tx ty rx ry fd fe hu
  |_=>exact (show False from re).elim
 |_=>exact (show False from rd).elim
theorem B1{n:Nat}{A:Around}{s:Shared}{d e:D}{u w:Value}(rd:Hr s.heap d u)(re:Hr s.heap e w)(fd:cj n d=true)(fe:cj n e=true)(hu:A.units+n<cLine):Lr A s u w (!bc d e):=by
 have hu0:A.units<cLine:=by lia
 cases d with
 |non=>
  cases rd;cases e with
  |non=>
   cases re;simpa [bc,Hl] using SeqAt.RcNeAt.none_none
  |bl y=>
   cases re;simpa [bc] using SeqAt.RcNeAt.none_bool y
  |int y=>
   obtain ⟨tky,rfl⟩:=re;simpa [bc] using SeqAt.RcNeAt.none_int y tky
  |str y=>
   obtain ⟨tky,rfl⟩:=re;simpa [bc] using SeqAt.RcNeAt.none_str y tky
  |tup y=>
   obtain ⟨py,itsy,rfl,ty,ry⟩:=re;simpa [bc] using SeqAt.RcNeAt.none_tuple ty hu0
  |lst y=>
   obtain ⟨py,itsy,rfl,ty,ry⟩:=re;simpa [bc] using SeqAt.RcNeAt.none_list ty hu0
  |_=>exact (show False from re).elim
 |bl x=>
  cases rd;cases e with
  |non=>
   cases re;simpa [bc] using SeqAt.RcNeAt.bool_none x
  |bl y=>
   cases re;simpa [bc,Hl] using SeqAt.RcNeAt.bool_bool x y
  |int y=>
   obtain ⟨tky,rfl⟩:=re;simpa [bc,Hl] using SeqAt.RcNeAt.bool_int x y tky
  |str y=>
   obtain ⟨tky,rfl⟩:=re;simpa [bc] using SeqAt.RcNeAt.bool_str x y tky
  |tup y=>
   obtain ⟨py,itsy,rfl,ty,ry⟩:=re;simpa [bc] using SeqAt.RcNeAt.bool_tuple x ty hu0
  |lst y=>
   obtain ⟨py,itsy,rfl,ty,ry⟩:=re;simpa [bc] using SeqAt.RcNeAt.bool_list x ty hu0
  |_=>exact (show False from re).elim
 |int x=>
  obtain ⟨tkx,rfl⟩:=rd;cases e with
  |non=>
   cases re;simpa [bc] using SeqAt.RcNeAt.int_none x tkx
  |bl y=>
   cases re;simpa [bc,Hl] using SeqAt.RcNeAt.int_bool x tkx y
  |int y=>
   obtain ⟨tky,rfl⟩:=re;simpa [bc,Hl] using SeqAt.RcNeAt.int_int x tkx y tky
  |str y=>
   obtain ⟨tky,rfl⟩:=re;simpa [bc] using SeqAt.RcNeAt.int_str x tkx y tky
  |tup y=>
   obtain ⟨py,itsy,rfl,ty,ry⟩:=re;simpa [bc] using SeqAt.RcNeAt.int_tuple x tkx ty hu0
  |lst y=>
   obtain ⟨py,itsy,rfl,ty,ry⟩:=re;simpa [bc] using SeqAt.RcNeAt.int_list x tkx ty hu0
  |_=>exact (show False from re).elim
 |str x=>
  obtain ⟨tkx,rfl⟩:=rd;cases e with
  |non=>
   cases re;simpa [bc] using SeqAt.RcNeAt.str_none x tkx
  |bl y=>
   cases re;simpa [bc] using SeqAt.RcNeAt.str_bool x tkx y
  |int y=>
   obtain ⟨tky,rfl⟩:=re;simpa [bc] using SeqAt.RcNeAt.str_int x tkx y tky
  |str y=>
   obtain ⟨tky,rfl⟩:=re;simpa [bc,Hl] using SeqAt.RcNeAt.str_str x tkx y tky
  |tup y=>
   obtain ⟨py,itsy,rfl,ty,ry⟩:=re;simpa [bc] using SeqAt.RcNeAt.str_tuple x tkx ty hu0
  |lst y=>
   obtain ⟨py,itsy,rfl,ty,ry⟩:=re;simpa [bc] using SeqAt.RcNeAt.str_list x tkx ty hu0
  |_=>exact (show False from re).elim
 |tup x=>
  obtain ⟨px,itsx,rfl,tx,rx⟩:=rd;cases e with
  |non=>
   cases re;simpa [bc] using SeqAt.RcNeAt.tuple_none tx hu0
  |bl y=>
   cases re;simpa [bc] using SeqAt.RcNeAt.tuple_bool y tx hu0
  |int y=>
   obtain ⟨tky,rfl⟩:=re;simpa [bc] using SeqAt.RcNeAt.tuple_int y tky tx hu0
  |str y=>
   obtain ⟨tky,rfl⟩:=re;simpa [bc] using SeqAt.RcNeAt.tuple_str y tky tx hu0
  |tup y=>
   obtain ⟨py,itsy,rfl,ty,ry⟩:=re;exact vL tx ty rx ry fd fe hu
  |lst y=>
   obtain ⟨py,itsy,rfl,ty,ry⟩:=re;simpa [bc] using SeqAt.RcNeAt.tuple_list tx ty hu0
  |_=>exact (show False from re).elim
 |lst x=>
  obtain ⟨px,itsx,rfl,tx,rx⟩:=rd;cases e with
  |non=>
   cases re;simpa [bc] using SeqAt.RcNeAt.list_none tx hu0
  |bl y=>
   cases re;simpa [bc] using SeqAt.RcNeAt.list_bool y tx hu0
  |int y=>
   obtain ⟨tky,rfl⟩:=re;simpa [bc] using SeqAt.RcNeAt.list_int y tky tx hu0
  |str y=>
   obtain ⟨tky,rfl⟩:=re;simpa [bc] using SeqAt.RcNeAt.list_str y tky tx hu0
  |tup y=>
   obtain ⟨py,itsy,rfl,ty,ry⟩:=re;simpa [bc] using SeqAt.RcNeAt.list_tuple tx ty hu0
  |lst y=>
   obtain ⟨py,itsy,rfl,ty,ry⟩:=re;exact wO tx ty rx ry fd fe hu
  |_=>exact (show False from re).elim
 |_=>exact (show False from rd).elim
section
variable {X:Cx}{B:Bd}{pins:List (Addr×Obj)}{σ:L2.St}{H:Hp}{s:Shared}{M:Mem}
mutual
theorem xJ(I:Inv X pins σ H s):∀{n:Nat} {d:D} {v:V} {u:Value},cj n d=true->Rp X.K H d v->RelV v u->Hr s.heap d u
 |_,.non,v,u,_,r,q=>by cases r;exact q
 |_,.bl _,v,u,_,r,q=>by cases r;exact q
 |_,.int _,v,u,_,r,q=>by cases r;exact q
 |_,.str _,v,u,_,r,q=>by cases r;exact q
 |n+1,.tup xs,v,u,f,r,q=>by
  obtain ⟨p,vs,rfl,t,r⟩:=r;cases q;obtain ⟨its,rv,ht,_⟩:=I.tuple t.sq;exact ⟨p,its,rfl,ht,fw I (n:=n) f r rv⟩
 |n+1,.lst xs,v,u,f,r,q=>by
  obtain ⟨p,vs,rfl,t,r⟩:=r;cases q;obtain ⟨its,rv,ht,_⟩:=I.list t.sq;exact ⟨p,its,rfl,ht.isList,fw I (n:=n) f r rv⟩
 |0,.tup _,_,_,f,_,_=>by simp [cj] at f
 |0,.lst _,_,_,f,_,_=>by simp [cj] at f
 |_,.ty _,_,_,f,_,_=>by simp [cj] at f
 |_,.ref _,_,_,f,_,_=>by simp [cj] at f
 |_,.mt _,_,_,f,_,_=>by simp [cj] at f
 |_,.ml _,_,_,f,_,_=>by simp [cj] at f
theorem fw(I:Inv X pins σ H s):∀{n:Nat} {ds:List D} {vs:List V} {us:List Value},dI n ds=true->Rps X.K H ds vs->Vals vs us->Hrs s.heap ds us
 |_,[],vs,us,_,r,q=>by cases r;cases q;rfl
 |n,d::ds,vs,us,f,r,q=>by
  obtain ⟨v,r',rfl,a,b⟩:=r;rw [dI,HP] at f;cases q with
  |cons q1 q2=>exact ⟨_,_,rfl,xJ I f.1 a q1,fw I f.2 b q2⟩
end
def dv(M:Mem):D->D
 |.ref a=>match M a with
  |some (.lst xs)=>.lst xs
  |_=>.ref a
 |d=>d
theorem jR(I:Inv X pins σ H s){n:Nat}{d:D}{v:V}{u:Value}(rh:RepH X.K H M)(f:cj n (dv M d)=true)(r:Rp X.K H d v)(q:RelV v u):Hr s.heap (dv M d) u:=by
 cases d with
 |ref a=>
  cases r;simp only [dv] at f ⊢
  split at f
  ·rename_i xs e
   obtain ⟨vs,h1,h2⟩:=rh _ _ e;obtain ⟨its,rv,ht,_⟩:=I.list (gj h1);cases q;cases n with
   |zero=>simp [cj] at f
   |succ n=>exact ⟨a,its,rfl,ht.isList,fw I (n:=n) f h2 rv⟩
  ·simp [cj] at f
 |_=>exact xJ I f r q
def eJ:gk:=fun x y M Q=>cj 60 (dv M x)=true/\cj 60 (dv M y)=true/\Q (.bl (bc (dv M x) (dv M y))) M
def pW:gk:=fun x y M Q=>cj 60 (dv M x)=true/\cj 60 (dv M y)=true/\Q (.bl (!bc (dv M x) (dv M y))) M
theorem bj(hu:X.A.units+64<cLine):dm X (compareOp .Eq) (liftR2 X eJ):=by
 intro pins s σ H x y v u Q I rx ry h;obtain ⟨d1,d2,M,QQ,rh,r1,r2,⟨f1,f2,h⟩,up⟩:=h;exact Fz (jR I rh f1 r1 rx) (jR I rh f2 r2 ry) f1 f2 (by lia) _ _ _ _ ⟨.bl _,H,I,rfl,up _ M h _ H rh Frm.refl rfl⟩
theorem d9(hu:X.A.units+64<cLine):dm X (compareOp .NotEq) (liftR2 X pW):=by
 intro pins s σ H x y v u Q I rx ry h;obtain ⟨d1,d2,M,QQ,rh,r1,r2,⟨f1,f2,h⟩,up⟩:=h;exact B1 (jR I rh f1 r1 rx) (jR I rh f2 r2 ry) f1 f2 (by lia) _ _ _ _ ⟨.bl _,H,I,rfl,up _ M h _ H rh Frm.refl rfl⟩
open Classical in
noncomputable def pI(h:Heap)(x:D)(u:Value):Bool:=if q:∃d,Hr h d u then bc q.choose x else false
theorem ww{h:Heap}{x d:D}{u:Value}(r:Hr h d u):pI h x u=bc d x:=by
 have q:∃d,Hr h d u:=⟨d,r⟩;unfold pI;rw [dif_pos q,wz q.choose_spec r]
theorem gv{h:Heap}{x:D}:∀{ds:List D} {us:List Value},Hrs h ds us->us.any (pI h x)=ds.any fun d=>bc d x
 |[],_,r=>by cases r;rfl
 |d::ds,_,r=>by
  obtain ⟨v,r',rfl,a,b⟩:=r;rw [Iy,Iy,ww a,gv b]
theorem gQ{A:Around}{n:Nat}{x:D}{w:Value}(rx:Hr s.heap x w)(fx:cj n x=true)(hu:A.units+n<cLine):∀{ds:List D} {us:List Value},Hrs s.heap ds us->dI n ds=true->∀u∈us,JM A s u w (pI s.heap x u)
 |[],_,r,_,u,hu=>by cases r;cases hu
 |d::ds,_,r,f,u,h=>by
  obtain ⟨v,r',rfl,a,b⟩:=r;rw [dI,HP] at f;rcases Hq.mp h with rfl|h
  ·rw [ww a];exact Bo n a rx f.1 fx hu
  ·exact gQ rx fx hu b f.2 u h
def qx(M:Mem)(x y:D):Option Bool:=match cm M y with
 |some xs=>if cj 60 (dv M x)=true/\dI 60 xs=true then some (xs.any fun d=>bc d (dv M x)) else none
 |none=>match y with
  |.ref a=>match kh M a x with
   |some o=>some o.isSome
   |none=>none
  |_=>none
def BH:gk:=fun x y M Q=>match qx M x y with
 |some k=>Q (.bl k) M
 |none=>False
def jz:gk:=fun x y M Q=>match qx M x y with
 |some k=>Q (.bl (!k)) M
 |none=>False
theorem qA(hu:X.A.units+64<cLine):dm X (compareOp .In) (liftR2 X BH):=by
 intro pins s σ H x y v u Q I rx ry h;obtain ⟨d1,d2,M,QQ,rh,r1,r2,h,up⟩:=h;unfold BH at h
 split at h
 ·rename_i k e
  have fin:=up _ M h _ H rh Frm.refl rfl;unfold qx at e
  split at e
  ·rename_i xs ex
   split at e
   ·rename_i f
    cases e;obtain ⟨p,vs,rfl,hq,r⟩:=gT rh r2 ex;cases ry;have hx:=jR I rh f.1 r1 rx;rcases hq with hq|hq
    ·obtain ⟨its,rv,pl,_⟩:=I.list hq
     have hs:=fw I f.2 r rv;refine SeqAt.in_listAt (pI s.heap (dv M d1)) pl.isList (fun w hw=>gQ hx f.1 (by show X.A.units+1+60<cLine;lia) hs f.2 w (by simpa using hw)) ⟨.bl _,H,I,rfl,?_⟩
     rw [show its.toArray.any (pI s.heap (dv M d1))=its.any (pI s.heap (dv M d1)) by simp,gv hs]
     exact fin
    ·obtain ⟨its,rv,pl,_⟩:=I.tuple hq
     have hs:=fw I f.2 r rv;refine SeqAt.in_tupleAt (pI s.heap (dv M d1)) pl (fun w hw=>gQ hx f.1 (by show X.A.units+1+60<cLine;lia) hs f.2 w (by simpa using hw)) ⟨.bl _,H,I,rfl,?_⟩
     rw [show its.toArray.any (pI s.heap (dv M d1))=its.any (pI s.heap (dv M d1)) by simp,gv hs]
     exact fin
   ·cases e
  ·split at e
   ·split at e
    ·rename_i o eo
     cases e;cases r2;cases ry;rcases eK rh r1 eo with ⟨rfl,g⟩|⟨d,w,rfl,g,_⟩
     ·exact Gk (by lia) I g rx fun s' I'=>⟨.bl _,H,I',rfl,fin⟩
     ·exact Gk (by lia) I g rx fun s' I'=>⟨.bl _,H,I',rfl,fin⟩
    ·cases e
   ·cases e
 ·exact h.elim
theorem kX(hu:X.A.units+64<cLine):dm X (compareOp .NotIn) (liftR2 X jz):=by
 intro pins s σ H x y v u Q I rx ry h;obtain ⟨d1,d2,M,QQ,rh,r1,r2,h,up⟩:=h;unfold jz at h
 split at h
 ·rename_i k e
  have fin:=up _ M h _ H rh Frm.refl rfl;unfold qx at e
  split at e
  ·rename_i xs ex
   split at e
   ·rename_i f
    cases e;obtain ⟨p,vs,rfl,hq,r⟩:=gT rh r2 ex;cases ry;have hx:=jR I rh f.1 r1 rx;rcases hq with hq|hq
    ·obtain ⟨its,rv,pl,_⟩:=I.list hq
     have hs:=fw I f.2 r rv;refine SeqAt.notIn_listAt (pI s.heap (dv M d1)) pl.isList (fun w hw=>gQ hx f.1 (by show X.A.units+1+60<cLine;lia) hs f.2 w (by simpa using hw)) ⟨.bl _,H,I,rfl,?_⟩
     rw [show its.toArray.any (pI s.heap (dv M d1))=its.any (pI s.heap (dv M d1)) by simp,gv hs]
     exact fin
    ·obtain ⟨its,rv,pl,_⟩:=I.tuple hq
     have hs:=fw I f.2 r rv;refine SeqAt.notIn_tupleAt (pI s.heap (dv M d1)) pl (fun w hw=>gQ hx f.1 (by show X.A.units+1+60<cLine;lia) hs f.2 w (by simpa using hw)) ⟨.bl _,H,I,rfl,?_⟩
     rw [show its.toArray.any (pI s.heap (dv M d1))=its.any (pI s.heap (dv M d1)) by simp,gv hs]
     exact fin
   ·cases e
  ·split at e
   ·split at e
    ·rename_i o eo
     cases e;cases r2;cases ry;rcases eK rh r1 eo with ⟨rfl,g⟩|⟨d,w,rfl,g,_⟩
     ·exact rH (by lia) I g rx fun s' I'=>⟨.bl _,H,I',rfl,fin⟩
     ·exact rH (by lia) I g rx fun s' I'=>⟨.bl _,H,I',rfl,fin⟩
    ·cases e
   ·cases e
 ·exact h.elim
end
end L3
namespace L3
open PySem L2
structure DEnds where
 nx:Dl->Mem->Prop
 rt:DK
 bk:Dl->Mem->Prop:=fun _ _=>False
 ct:Dl->Mem->Prop:=fun _ _=>False
abbrev aG:=DEnds->Dl->Mem->Prop
def UpN(X:Cx)(B:Bd)(M:Mem)(H:Hp)(QQ:Dl->Mem->Prop)(Q:L2.St->Hp->Prop):Prop:=∀δ M',QQ δ M'->∀σ H',Frm M H M' H'->SR X B δ M' σ H'->Q σ H'
theorem UpN.go{X:Cx}{B:Bd}{M M1:Mem}{H H1:Hp}{QQ:Dl->Mem->Prop}{Q:L2.St->Hp->Prop}(u:UpN X B M H QQ Q)(i:Frm M H M1 H1):UpN X B M1 H1 QQ Q:=fun δ M q σ H' a b=>u δ M q σ H' (i.trans a) b
structure UpD(X:Cx)(B:Bd)(M:Mem)(H:Hp)(DD:DEnds)(D:Ends):Prop where
 nx:UpN X B M H DD.nx D.nx
 rt:Up X.K M H DD.rt D.rt
 bk:UpN X B M H DD.bk D.bk
 ct:UpN X B M H DD.ct D.ct
theorem UpD.go{X:Cx}{B:Bd}{M M1:Mem}{H H1:Hp}{DD:DEnds}{D:Ends}(u:UpD X B M H DD D)(i:Frm M H M1 H1):UpD X B M1 H1 DD D:=⟨u.nx.go i,u.rt.go i,u.bk.go i,u.ct.go i⟩
inductive liftS(X:Cx)(B:Bd)(T:aG)(D:Ends)(σ:St)(H:Hp):Prop
 |mk (δ:Dl) (M:Mem) (DD:DEnds) (s:SR X B δ M σ H) (h:T DD δ M) (u:UpD X B M H DD D):liftS X B T D σ H
def DS(X:Cx)(B:Bd)(st:Stmt)(T:aG):Prop:=PS X st (liftS X B T)
def yu(X:Cx)(B:Bd)(st:List Stmt)(T:aG):Prop:=rm X st (liftS X B T)
section
variable {X:Cx}{B:Bd}{st:Stmt}{rest:List Stmt}{t u:aG}{e:Expr}{te:bN}{pos:Pos}
def bn:aG:=fun D δ M=>D.nx δ M
def aw(t u:aG):aG:=fun D δ M=>t { D with nx:=u D } δ M
theorem aT:yu X B [] bn:=k9 Az fun D σ H ⟨δ,M,DD,s,h,up⟩=>up.nx δ M h σ H Frm.refl s
theorem af(h1:DS X B st t)(h2:yu X B rest u):yu X B (st::rest) (aw t u):=by
 refine k9 (vK h1 h2) ?_
 rintro D σ H ⟨δ,M,DD,s,h,up⟩
 exact ⟨δ,M,{ DD with nx:=u DD },s,h,⟨fun δ' M' q σ' H' i s'=>⟨δ',M',DD,s',q,up.go i⟩,up.rt,up.bk,up.ct⟩⟩
theorem ah(h1:DS X B st t):yu X B [st] t:=AA h1
def vW:aG:=fun D δ M=>D.bk δ M
theorem yg:DS X B (.Break pos) vW:=cu vU fun D σ H ⟨δ,M,DD,s,h,up⟩=>up.bk δ M h σ H Frm.refl s
def bZ(te:bN):aG:=fun D δ M=>te δ M fun _ M1=>D.nx δ M1
theorem bL(he:DE X B e te)(hs:swapsWith e none pos.line X.env=pure false:=by rfl):DS X B (.Expr e pos) (bZ te):=by
 refine cu (B8 he hs) ?_
 rintro D σ H ⟨δ,M,DD,s,h,up⟩
 exact ⟨δ,M,_,s,h,fun d M' q v H' rh i r=>up.nx δ M' q σ H' i (s.go rh i)⟩
def aZ(te:bN):aG:=fun D δ M=>te δ M D.rt
theorem aC(he:DE X B e te):DS X B (.Return (some e) pos) (aZ te):=by
 refine cu (C9 he) ?_
 rintro D σ H ⟨δ,M,DD,s,h,up⟩
 exact ⟨δ,M,_,s,h,up.rt⟩
def bp(c:fb)(t u:aG):aG:=fun D δ M=>c δ M fun b M1=>if b=true then t D δ M1 else u D δ M1
theorem b0{c:Expr}{a b:List Stmt}{tc:fb}(hc:DT X B c tc)(ha:yu X B a t)(hb:yu X B b u):DS X B (.If c a b pos) (bp tc t u):=by
 refine cu (EV hc ha hb) ?_
 rintro D σ H ⟨δ,M,DD,s,h,up⟩
 refine ⟨δ,M,_,s,h,fun c M' q H' rh i=>?_⟩;cases c with
 |true=>rw [if_pos rfl] at q ⊢;exact ⟨δ,M',DD,s.go rh i,q,up.go i⟩
 |false=>rw [if_neg GY] at q ⊢;exact ⟨δ,M',DD,s.go rh i,q,up.go i⟩
abbrev jh:=D->Dl->Mem->(Dl->Mem->Prop)->Prop
abbrev kC:=List D->Dl->Mem->(Dl->Mem->Prop)->Prop
inductive liftG(X:Cx)(B:Bd)(g:jh)(v:V)(σ:St)(H:Hp)(Q:St->Hp->Prop):Prop
 |mk (d:L3.D) (δ:Dl) (M:Mem) (QQ:Dl->Mem->Prop) (s:SR X B δ M σ H) (r:Rp X.K H d v) (h:g d δ M QQ) (u:UpN X B M H QQ Q):liftG X B g v σ H Q
inductive liftGs(X:Cx)(B:Bd)(g:kC)(vs:List V)(σ:St)(H:Hp)(Q:St->Hp->Prop):Prop
 |mk (ds:List L3.D) (δ:Dl) (M:Mem) (QQ:Dl->Mem->Prop) (s:SR X B δ M σ H) (r:Rps X.K H ds vs) (h:g ds δ M QQ) (u:UpN X B M H QQ Q):liftGs X B g vs σ H Q
def DG(X:Cx)(B:Bd)(tg:Expr)(g:jh):Prop:=PG X tg (liftG X B g)
def Fo(X:Cx)(B:Bd)(tgs:List Expr)(g:kC):Prop:=Dv X tgs (liftGs X B g)
theorem iO{tg:Expr}{t t':TG}(h:PG X tg t)(w:∀v σ H Q,t' v σ H Q->t v σ H Q):PG X tg t':=fun pins s σ H v u Q I r q=>h pins s σ H v u Q I r (w v σ H Q q)
theorem oG{tg:List Expr}{t t':Bk}(h:Dv X tg t)(w:∀v σ H Q,t' v σ H Q->t v σ H Q):Dv X tg t':=fun pins s σ H v u Q I r q=>h pins s σ H v u Q I r (w v σ H Q q)
theorem SR.set{δ:Dl}{M:Mem}{σ:L2.St}{H:Hp}{i:Nat}{d:D}{v:V}(s:SR X B δ M σ H)(r:Rp X.K H d v):SR X B (δ.set i (some d)) M (σ.set i (some v)) H:=⟨s.i0,s.rh,s.rs.set r⟩
def ap(i:Nat):jh:=fun d δ M Q=>Q (δ.set i (some d)) M
theorem aS{i:Nat}{x:Str}(hN:X.N.Nodup)(hi:X.N[i]?=some x)(hx:BI X.env.scope x)(hf:X.fn x=true\/X.env.scope.names.lookup x=some .local:=by first|exact .inl rfl|exact .inr rfl|assumption):DG X B (.Name x pos) (ap i):=by
 refine iO (yU hN hi hx hf) ?_
 rintro v σ H Q ⟨d,δ,M,QQ,s,r,h,u⟩
 exact u _ M h _ H Frm.refl (s.set r)
def eM:kC:=fun ds δ M Q=>match ds with
 |[]=>Q δ M
 |_=>False
def bB(t:jh)(u:kC):kC:=fun ds δ M Q=>match ds with
 |d::r=>t d δ M fun δ' M'=>u r δ' M' Q
 |[]=>False
theorem cR:Fo X B [] eM:=by
 refine oG zm ?_
 rintro v σ H Q ⟨ds,δ,M,QQ,s,r,h,u⟩
 cases ds with
 |nil=>exact ⟨r,u δ M h σ H Frm.refl s⟩
 |cons _ _=>exact (show False from h).elim
theorem bf{e:Expr}{es:List Expr}{t:jh}{u:kC}(h1:DG X B e t)(h2:Fo X B es u)
  (hs:(assignEach (e::es) X.env).map (·.2)=assign e X.env::(assignEach es X.env).map (·.2):=by rfl):Fo X B (e::es) (bB t u):=by
 refine oG (xk h1 h2 hs) ?_
 rintro v σ H Q ⟨ds,δ,M,QQ,s,r,h,up⟩
 cases ds with
 |nil=>exact (show False from h).elim
 |cons d ds=>
  obtain ⟨v1,vr,rfl,r1,r2⟩:=r;refine ⟨v1,vr,rfl,d,δ,M,_,s,r1,h,fun δ' M' q σ' H' i s'=>?_⟩;exact ⟨ds,δ',M',QQ,s',r2.mf s.rh i,q,up.go i⟩
def fM(n:Nat)(t:kC):jh:=fun d δ M Q=>match d with
 |.tup xs=>xs.length=n/\t xs δ M Q
 |_=>False
theorem gf{es:List Expr}{k:Nat}{t:kC}{n:Nat}(hc:X.calm=true)(h:Fo X B es t)
  (hn:(assignEach es X.env).length=n:=by rfl) (hst:(assignEach es X.env).findIdx? (·.1)=none:=by rfl):DG X B (.Tuple es k pos) (fM n t):=by
 refine iO (Eu hc h hn hst) ?_
 rintro v σ H Q ⟨d,δ,M,QQ,s,r,h,up⟩
 cases d with
 |tup xs=>
  obtain ⟨p,vs,rfl,ht,r⟩:=r;exact ⟨p,vs,rfl,ht.sq,by rw [<- r.length];exact h.1,xs,δ,M,QQ,s,r,h.2,up⟩
 |_=>exact (show False from h).elim
def aE(te:bN)(g:jh):aG:=fun D δ M=>te δ M fun x M1=>g x δ M1 D.nx
theorem bU{tg e:Expr}{te:bN}{g:jh}(he:DE X B e te)(hg:DG X B tg g)(hs:swapsWithSole [tg] e pos.line X.env=pure false:=by rfl)(hw:swappedStores [tg] e X.env=pure none:=by rfl)
  (h1:(assignEach [tg] X.env).map (·.2)=[assign tg X.env]:=by rfl):DS X B (.Assign [tg] e pos) (aE te g):=by
 refine cu (Eo he hg hs hw h1) ?_
 rintro D σ H ⟨δ,M,DD,s,h,up⟩
 refine ⟨δ,M,_,s,h,fun d M' q v H' rh i r=>?_⟩;exact ⟨d,δ,M',DD.nx,s.go rh i,r,q,up.nx.go i⟩
theorem ax{i:Nat}{x:Str}{e:Expr}{te:bN}{pos':Pos}(hN:X.N.Nodup)(hi:X.N[i]?=some x)(hx:BI X.env.scope x)(he:DE X B e te)(hs:swapsWith e (some (.Name x pos')) pos.line X.env=pure false:=by rfl)(hf:X.fn x=true\/X.env.scope.names.lookup x=some .local:=by first|exact .inl rfl|exact .inr rfl|assumption):
  DS X B (.Assign [.Name x pos'] e pos) (aE te (ap i)):=by
 refine cu (Ca hN hi hx he hs hf) ?_
 rintro D σ H ⟨δ,M,DD,s,h,up⟩
 refine ⟨δ,M,_,s,h,fun d M' q v H' rh i r=>?_⟩;exact up.nx _ M' q _ H' i ((s.go rh i).set r)
def uk(i:Nat)(te:bN)(r:gk):aG:=fun D δ M=>match δ[i]? with
 |some (some x)=>te δ M fun y M1=>r x y M1 fun z M2=>D.nx (δ.set i (some z)) M2
 |_=>False
theorem pQ{i:Nat}{x:Str}{e:Expr}{te:bN}{op:Operator}{r:gk}{pos':Pos}(hN:X.N.Nodup)(hi:X.N[i]?=some x)(hx:BI X.env.scope x)(he:DE X B e te)(ho:EJ X op (liftR2 X r))(hf:X.fn x=true\/X.env.scope.names.lookup x=some .local:=by first|exact .inl rfl|exact .inr rfl|assumption):
  DS X B (.AugAssign (.Name x pos') op e pos) (uk i te r):=by
 refine cu (CM hN hi hx he ho hf) ?_
 rintro D σ H ⟨δ,M,DD,s,h,up⟩
 unfold uk at h
 split at h
 ·rename_i x' ex
  obtain ⟨v,hv,rv⟩:=s.rs.get i x' ex;refine ⟨v,hv,δ,M,_,s,h,fun y M1 h1 w H1 rh1 i1 r1=>?_⟩;refine ⟨x',y,M1,_,rh1,rv.mf s.rh i1,r1,h1,fun z M2 h2 w2 H2 rh2 i2 r2=>?_⟩;exact up.nx _ M2 h2 _ H2 (i1.trans i2) ((s.go rh2 (i1.trans i2)).set r2)
 ·exact h.elim
theorem Fu{op:Operator}{g:Int->Int->Int}(h:EJ X op (ipI g)):EJ X op (liftR2 X (yr fun i j=>.int (g i j))):=by
 intro pins s σ H x y v u Q I rx ry hq;obtain ⟨d1,d2,M,QQ,rh,r1,r2,hq,up⟩:=hq;unfold yr at hq
 split at hq
 ·cases r1;cases r2
  exact h pins s σ H _ _ v u Q I rx ry ⟨_,_,rfl,rfl,up _ M hq _ H rh Frm.refl rfl⟩
 ·exact hq.elim
abbrev nL:gk:=yr fun i j=>.int (i+j)
theorem lO:EJ X .Add (liftR2 X nL):=Fu CZ
def wB(o i v:D)(M:Mem)(Q:Mem->Prop):Prop:=match o with
 |.ref a=>match M a,i with
  |some (.lst xs),.int k=>match tN xs.length k with
   |some j=>Q (M.upd a (.lst (xs.set j v)))
   |none=>False
  |some (.dK kvs),y=>match dA y with
   |some k=>kvs.length<sizeLine/\Q (M.upd a (.dK (cX kvs k v)))
   |none=>False
  |some (.dT kvs),y=>match oq y with
   |some k=>kvs.length<sizeLine/\Q (M.upd a (.dT (cX kvs k v)))
   |none=>False
  |_,_=>False
 |_=>False
inductive liftSet(X:Cx)(o i v:V)(H:Hp)(Q:Hp->Prop):Prop
 |mk (d1 d2 d3:L3.D) (M:Mem) (QQ:Mem->Prop) (rh:RepH X.K H M) (r1:Rp X.K H d1 o) (r2:Rp X.K H d2 i) (r3:Rp X.K H d3 v) (h:wB d1 d2 d3 M QQ) (u:∀M',QQ M'->∀H',RepH X.K H' M'->Frm M H M' H'->Q H'):liftSet X o i v H Q
theorem zR(hu:X.A.units+1<cLine):E8 X (liftSet X):=by
 intro pins s σ H o i v ov iv u Q I ro ri rv h;obtain ⟨d1,d2,d3,M,QQ,rh,r1,r2,r3,h,up⟩:=h;unfold wB at h
 split at h
 ·rename_i a
  cases r1;cases ro
  split at h
  ·rename_i xs k hM
   cases r2;obtain ⟨vs,h1,h2⟩:=rh _ _ hM
   split at h
   ·rename_i j ej
    refine xb pins s σ H (.ref a) _ v _ iv u Q I rfl ri rv ⟨a,vs,k,j,rfl,rfl,h1,by rw [<- h2.length];exact ej,?_⟩
    have i2:Imm H (upd H a (.lst (vs.set j v))):=Imm.upd (by rw [h1];trivial)
    exact up _ h _ (rh.put (by rw [h1];trivial) ⟨_,upd_same,(h2.set r3 j).mono i2⟩) (Frm.put (.inr ⟨_,hM⟩))
   ·exact h.elim
  ·rename_i kvs hM
   obtain ⟨ws,h1,h2⟩:=rh _ _ hM
   split at h
   ·rename_i k ek
    have ev:=lQ r2 ek;subst ev;have i2:Imm H (upd H a (.dK (cM ws k v))):=Imm.upd (by rw [h1];trivial)
    refine kI hu I (EB h1 (by rw [<- h2.length];exact h.1)) ri rv fun s' I'=>⟨_,I',?_⟩
    exact up _ h.2 _ (rh.put (by rw [h1];trivial) ⟨_,upd_same,(h2.put k r3).mono i2⟩) (Frm.put (.inr ⟨_,hM⟩))
   ·exact h.elim
  ·rename_i kvs hM
   obtain ⟨ws,h1,h2⟩:=rh _ _ hM
   split at h
   ·rename_i k ek
    obtain ⟨b,rfl,hb⟩:=o9 r2 ek;have i2:Imm H (upd H a (.dT (cM ws k v))):=Imm.upd (by rw [h1];trivial)
    refine kI hu I (DPut.t h1 hb (by rw [<- h2.length];exact h.1)) ri rv fun s' I'=>⟨_,I',?_⟩
    exact up _ h.2 _ (rh.put (by rw [h1];trivial) ⟨_,upd_same,(h2.put k r3).mono i2⟩) (Frm.put (.inr ⟨_,hM⟩))
   ·exact h.elim
  ·exact h.elim
 ·exact h.elim
def fc(to ti:bN):jh:=fun v δ M Q=>to δ M fun o M1=>ti δ M1 fun i M2=>wB o i v M2 fun M3=>Q δ M3
theorem cK{o i:Expr}{to ti:bN}(hu:X.A.units+1<cLine)(ho:DE X B o to)(hi:DE X B i ti)
  (ha:∀v,assign (.Subscript o i pos) X.env v=(do
   let ov <- holding [v] (eval o X.env)
   let iv <- holding [v,ov] (eval i X.env)
   standAt pos
   holding [v,ov,iv] (setItem ov iv v)
   release [v,ov,iv] []):=by intro _;rfl):DG X B (.Subscript o i pos) (fc to ti):=by
 refine iO (DM ho hi (zR hu) ha) ?_
 rintro v σ H Q ⟨d,δ,M,QQ,s,r,h,up⟩
 refine ⟨δ,M,_,s,h,fun x M1 h1 v1 H1 rh1 i1 r1=>?_⟩;refine ⟨δ,M1,_,s.go rh1 i1,h1,fun y M2 h2 v2 H2 rh2 i2 r2=>?_⟩;exact ⟨x,y,d,M2,_,rh2,r1.mf rh1 i2,r2,r.mf s.rh (i1.trans i2),h2,fun M3 h3 H3 rh3 i3=>up δ M3 h3 σ H3 ((i1.trans i2).trans i3) (s.go rh3 ((i1.trans i2).trans i3))⟩
end
end L3
namespace L3
open PySem L2
section
variable {X:Cx}{B:Bd}{o e value:Expr}{f:Str}{pos pos' tpos:Pos}{ta tv te:bN}{C:Addr}
def eA(f:Str)(v:D):List (Str×D)->List (Str×D)
 |[]=>[(f,v)]
 |(g,w)::r=>if g=f then (g,v)::r else (g,w)::eA f v r
theorem Rkv.lookup{K:GH}{H:Hp}{fs:List (Str×D)}{ws:List (Str×V)}(h:Rkv K H fs ws)(f:Str):(fs.lookup f=none/\ws.lookup f=none)\/∃d v,fs.lookup f=some d/\ws.lookup f=some v/\Rp K H d v:=by
 induction h with
 |nil=>exact .inl ⟨rfl,rfl⟩
 |@cons p q ps qs r t ih=>
  obtain ⟨k1,d⟩:=p;obtain ⟨k2,v⟩:=q;obtain ⟨e,r⟩:=r;dsimp only at e r;subst e;rw [Kz,Kz];cases hk:f==k1 with
  |true=>exact .inr ⟨d,v,rfl,rfl,r⟩
  |false=>exact ih
theorem zU(f:Str)(v:V):∀ws:List (Str×V),dN f v ws=(match ws with|[]=>[(f,v)]|(g,w)::r=>if g=f then (g,v)::r else (g,w)::dN f v r)
 |[]=>rfl
 |(g,w)::r=>by rw [dN]
theorem pG{K:GH}{H:Hp}{f:Str}{d:D}{v:V}(rd:Rp K H d v):∀{fs:List (Str×D)} {ws:List (Str×V)},Rkv K H fs ws->Rkv K H (eA f d fs) (L2.dN f v ws)
 |_,_,.nil=>.cons ⟨rfl,rd⟩ .nil
 |(k1,d1)::fs,(k2,v1)::ws,.cons r t=>by
  obtain ⟨e,r⟩:=r;dsimp only at e r;subst e;rw [zU];show Rkv K H (if k1=f then (k1,d)::fs else (k1,d1)::eA f d fs) (if k1=f then (k1,v)::ws else (k1,v1)::L2.dN f v ws)
  split
  ·exact .cons ⟨rfl,rd⟩ t
  ·exact .cons ⟨rfl,r⟩ (pG rd t)
def dl(C:Addr)(ta:bN)(f:Str):bN:=fun δ M Q=>ta δ M fun x M1=>match x with
 |.ref a=>match M1 a with
  |some (.ins C' fs)=>C'=C/\match fs.lookup f with
   |some d=>Q d M1
   |none=>False
  |_=>False
 |_=>False
theorem bX(c:Cls X.K C)(n:NoAttr X.K C f)(he:DE X B e ta)(hb:attributeBase e f X.env (eval e X.env)=eval e X.env:=by rfl):DE X B (.Attribute e f pos) (dl C ta f):=by
 refine bo (Ew he hb) ?_
 rintro σ H Q ⟨δ,M,QQ,s,h,u⟩
 refine ⟨δ,M,_,s,h,fun x M1 h1 v1 H1 rh1 i1 r1=>?_⟩
 split at h1
 ·rename_i a
  cases r1
  split at h1
  ·rename_i C' fs hM
   obtain ⟨rfl,h1⟩:=h1;obtain ⟨dx,ws,e1,e2⟩:=rh1 _ _ hM
   split at h1
   ·rename_i d ed
    rcases e2.lookup f with ⟨z,_⟩|⟨d',v,z1,z2,z3⟩
    ·rw [ed] at z;cases z
    ·rw [ed] at z1;cases z1
     exact ⟨a,_,dx,ws,v,rfl,e1,c,n,z2,u _ M1 h1 _ H1 rh1 i1 z3⟩
   ·exact h1.elim
  ·exact h1.elim
 ·exact h1.elim
def gB(C:Addr)(ta tv:bN)(f:Str):aG:=fun D δ M=>tv δ M fun y M1=>ta δ M1 fun x M2=>match x with
 |.ref a=>match M2 a with
  |some (.ins C' fs)=>C'=C/\fs.length<1000/\D.nx δ (M2.upd a (.ins C (eA f y fs)))
  |_=>False
 |_=>False
theorem ff(c:Cls X.K C)(n:NoAttr X.K C f)(ha:DE X B o ta)(hv:DE X B value tv)(hs:swapsWith value (some (.Attribute o f pos')) pos.line X.env=pure false:=by rfl):DS X B (.Assign [.Attribute o f pos'] value pos) (gB C ta tv f):=by
 refine cu (CU ha hv hs) ?_
 rintro D σ H ⟨δ,M,DD,s,h,up⟩
 refine ⟨δ,M,_,s,h,fun y M1 h1 v1 H1 rh1 i1 r1=>?_⟩;refine ⟨δ,M1,_,s.go rh1 i1,h1,fun x M2 h2 v2 H2 rh2 i2 r2=>?_⟩
 split at h2
 ·rename_i a
  cases r2
  split at h2
  ·rename_i C' fs hM
   obtain ⟨rfl,hl,h2⟩:=h2;obtain ⟨dx,ws,e1,e2⟩:=rh2 _ _ hM;have i3:Frm M2 H2 (M2.upd a (.ins C' (eA f y fs))) (upd H2 a (.ins C' dx (L2.dN f v1 ws))):=Frm.put (.inr ⟨_,hM⟩);refine ⟨a,C',dx,ws,rfl,e1,c,n,by rw [<- e2.length];exact hl,up.nx _ _ h2 σ _ ((i1.trans i2).trans i3) (s.go (rh2.put (by rw [e1];trivial) ⟨dx,_,upd_same,?_⟩) ((i1.trans i2).trans i3))⟩
   exact (pG (r1.mf rh1 i2) e2).mono (i3.imm rh2)
  ·exact h2.elim
 ·exact h2.elim
structure BxW(c:fb)(tb:aG)(D:DEnds):Type
structure BxF(g:jh)(tb:aG)(D:DEnds)(ok:Mem->Prop):Type
def whileD(c:fb)(tb:aG)(D:DEnds)(bx:BxW c tb D):Nat->Dl->Mem->Prop
 |0,_,_=>False
 |n+1,δ,M=>c δ M fun b M1=>if b=true then tb { D with nx:=whileD c tb D bx n,ct:=whileD c tb D bx n,bk:=D.nx } δ M1 else D.nx δ M1
def dWhile(c:fb)(tb:aG):aG:=fun D δ M=>∃n,whileD c tb D ⟨⟩ n δ M
theorem gY{c:Expr}{body:List Stmt}{tc:fb}{tb:aG}(hp:PassesOwn (model X.prog X.w) X.A X.env X.xe)(hc:DT X B c tc)(hb:yu X B body tb):DS X B (.While c body [] pos) (dWhile tc tb):=by
 refine cu (yh hp hc hb) ?_
 rintro D σ H ⟨δ,M,DD,s,⟨n,h⟩,up⟩
 refine ⟨fun m σ' H'=>∃δ' M',SR X B δ' M' σ' H'/\Frm M H M' H'/\whileD tc tb DD ⟨⟩ m δ' M',⟨n,δ,M,s,Frm.refl,h⟩,?_⟩
 rintro m σ1 H1 ⟨δ1,M1,s1,i1,h1⟩
 cases m with
 |zero=>exact (show False from h1).elim
 |succ m=>
  refine ⟨δ1,M1,_,s1,h1,fun b M2 q H2 rh2 i2=>?_⟩;cases b with
  |false=>rw [if_neg GY] at q ⊢;exact up.nx _ _ q σ1 H2 (i1.trans i2) (s1.go rh2 i2)
  |true=>
   rw [if_pos rfl] at q ⊢;refine ⟨fun σ' H'=>∃δ' M',SR X B δ' M' σ' H'/\Frm M H M' H'/\whileD tc tb DD ⟨⟩ m δ' M',fun σ' H' z=>⟨m,KG _,z⟩,?_⟩;refine ⟨δ1,M2,_,s1.go rh2 i2,q,⟨?_,(up.go (i1.trans i2)).rt,(up.go (i1.trans i2)).nx,?_⟩⟩
   ·exact fun δ3 M3 q3 σ3 H3 i3 s3=>⟨δ3,M3,s3,(i1.trans i2).trans i3,q3⟩
   ·exact fun δ3 M3 q3 σ3 H3 i3 s3=>⟨δ3,M3,s3,(i1.trans i2).trans i3,q3⟩
structure DIt where
 items:List D
 src:List (Addr×List D)
def DIt.ok(I:DIt)(M:Mem):Prop:=∀p∈I.src,M p.1=some (.lst p.2)
abbrev v4:=Dl->Mem->(DIt->Mem->Prop)->Prop
def Gh(K:GH)(H0:Hp)(it:DIt)(J:It):Prop:=∀(i:Nat) (H:Hp) (M:Mem),Imm H0 H->RepH K H M->it.ok M->
 (∀d,it.items[i]?=some d->J.go i H/\∀x H',J.yld i H x H'->Frm M H M H'/\RepH K H' M/\Rp K H' d x)/\(it.items.length<=i->J.stop i H)
inductive liftI(X:Cx)(B:Bd)(T:v4)(σ:St)(H:Hp)(R:It->Hp->Prop):Prop
 |mk (δ:Dl) (M:Mem) (RR:DIt->Mem->Prop) (s:SR X B δ M σ H) (h:T δ M RR) (u:∀it M',RR it M'->∀J H',RepH X.K H' M'->Frm M H M' H'->Gh X.K H' it J->R J H'):liftI X B T σ H R
def DI(X:Cx)(B:Bd)(tg iter:Expr)(T:v4):Prop:=PI X tg iter (liftI X B T)
theorem gG{tg iter:Expr}{t t':TI}(h:PI X tg iter t)(w:∀σ H Q,t' σ H Q->t σ H Q):PI X tg iter t':=fun pins s σ H Q I q=>h pins s σ H Q I (w σ H Q q)
def qE(g:jh)(tb:aG)(DD:DEnds)(ok:Mem->Prop)(b:BxF g tb DD ok):List D->Dl->Mem->Prop
 |[],δ,M=>ok M/\DD.nx δ M
 |x::xs,δ,M=>ok M/\g x δ M fun δ2 M2=>tb { DD with nx:=qE g tb DD ok b xs,ct:=qE g tb DD ok b xs,bk:=DD.nx } δ2 M2
def dFor(wi:v4)(g:jh)(tb:aG):aG:=fun D δ M=>wi δ M fun it M1=>qE g tb D it.ok ⟨⟩ it.items δ M1
theorem yX{g:jh}{tb:aG}{DD:DEnds}{ok:Mem->Prop}{b:BxF g tb DD ok}{xs:List D}{δ:Dl}{M:Mem}(h:qE g tb DD ok b xs δ M):ok M:=by
 cases xs with
 |nil=>exact h.1
 |cons _ _=>exact h.1
theorem dE{tg iter:Expr}{body:List Stmt}{wi:v4}{g:jh}{tb:aG}(hp:PassesOwn (model X.prog X.w) X.A X.env X.xe)(hc:X.calm=true)(hi:DI X B tg iter wi)(hg:DG X B tg g)(hb:yu X B body tb)
  (hs:∀x,foldedSetIterable iter X.env x=pure x:=by intro _;rfl):DS X B (.For tg iter body [] pos) (dFor wi g tb):=by
 refine cu (Cb hp hc hi hg hb hs) ?_
 rintro D σ H ⟨δ,M,DD,s,h,up⟩
 refine ⟨δ,M,_,s,h,fun it M1 h1 J H1 rh1 i1 hJ=>?_⟩;refine ⟨fun i m σ' H'=>m=it.items.length-i/\i<=it.items.length/\∃δ' M',SR X B δ' M' σ' H'/\Frm M1 H1 M' H'/\qE g tb DD it.ok ⟨⟩ (it.items.drop i) δ' M',⟨_,rfl,Hn _,δ,M1,s.go rh1 i1,Frm.refl,h1⟩,?_⟩
 rintro i m σ2 H2 ⟨rfl,hi',δ2,M2,s2,i2,h2⟩
 have hok:=yX h2;obtain ⟨hgo,hstop⟩:=hJ i H2 M2 (i2.imm rh1) s2.rh hok
 by_cases hlt:i<it.items.length
 ·rw [IU hlt] at h2
  obtain ⟨go,hy⟩:=hgo _ (GG hlt);refine .inr ⟨go,fun σ' H'=>∃δ' M',SR X B δ' M' σ' H'/\Frm M1 H1 M' H'/\qE g tb DD it.ok ⟨⟩ (it.items.drop (i+1)) δ' M',fun σ' H' z=>⟨it.items.length-(i+1),by omega,rfl,hlt,z⟩,fun x H3 hx=>?_⟩
  obtain ⟨i3,rh3,rx⟩:=hy x H3 hx;refine ⟨_,δ2,M2,_,s2.go rh3 i3,rx,h2.2,fun δ4 M4 h4 σ4 H4 i4 s4=>?_⟩;have i14:=(i2.trans i3).trans i4;refine ⟨δ4,M4,_,s4,h4,⟨?_,(up.go (i1.trans i14)).rt,(up.go (i1.trans i14)).nx,?_⟩⟩
  ·exact fun δ5 M5 q5 σ5 H5 i5 s5=>⟨δ5,M5,s5,i14.trans i5,q5⟩
  ·exact fun δ5 M5 q5 σ5 H5 i5 s5=>⟨δ5,M5,s5,i14.trans i5,q5⟩
 ·rw [JQ (by omega)] at h2
  exact .inl ⟨hstop (by omega),up.nx _ _ h2.2 σ2 H2 (i1.trans i2) s2⟩
end
end L3
namespace L2
open PySem PySem.Spec PyProof.Rows
section
variable {X:Cx}{B:Bd}{tg:Expr}
def Fd(K:GH)(tl:TE):TI:=fun σ H R=>tl σ H fun x H1=>∃a b xs,x=.ref a/\kY K b H1 a xs/\R (if b=true then Itl K a else Itt K a) H1
theorem yO{l:Expr}{tl:TE}(hl:PE X l tl):PI X tg l (Fd X.K tl):=by
 intro pins s σ H R I h;refine thn (hl pins s σ H _ I h) fun v s1 ⟨x,H1,I1,r1,q1⟩=>?_;obtain ⟨a,b,xs,e,hq,q⟩:=q1;subst e;cases r1;cases b with
 |true=>
  obtain ⟨its,rv,p,hz⟩:=I1.list (show SqL X.K H1 a xs from hq);refine wpAny_pyIter_list p.isList ?_;refine ⟨s1.heap.objs.size,[s1.heap.objs.size],_,_,H1,rfl,I1.kept (t':=s1.toks) fun b o e=>GC _ e,uM a _,⟨_,GN _ rfl,rfl,rfl⟩,fun b hb=>?_,q⟩;have e:b=s1.heap.objs.size:=by simpa using hb
  subst e;exact I1.fpOk (GO _) (I1.hok.fresh (GO _))
 |false=>
  obtain ⟨its,rv,p,hz⟩:=I1.tuple (show ic X.K H1 a xs from hq);refine wpAny_pyIter_tuple (show s1.heap.IsTuple a its.toArray from p) ?_;refine ⟨s1.heap.objs.size,[s1.heap.objs.size],_,_,H1,rfl,I1.kept (t':=s1.toks) fun b o e=>GC _ e,qz a _,⟨_,GN _ rfl,rfl,rfl⟩,fun b hb=>?_,q⟩;have e:b=s1.heap.objs.size:=by simpa using hb
  subst e;exact I1.fpOk (GO _) (I1.hok.fresh (GO _))
def EN(K:GH)(t:TA):TI:=fun σ H R=>t σ H fun vs H1=>∃b1 b2 l1 l2 xs ys,vs=[.ref l1,.ref l2]/\kY K b1 H1 l1 xs/\kY K b2 H1 l2 ys/\R (Itz K b1 b2 l1 l2) H1
theorem A4{a b:Expr}{elts:List Expr}{x1:Nat}{tp:Pos}{ta:TA}{p pos:Pos}(hg:Gl X "zip")(hm:X.mg "zip"=none)(ha:PA X [a,b] ta)
  (hs:starEach [a,b] X.env=[(false,eval a X.env),(false,eval b X.env)]:=by rfl) (hs2:starEach [b] X.env=[(false,eval b X.env)]:=by rfl):
  PI X (.Tuple elts x1 tp) (.Call (.Name "zip" p) [a,b] [] pos) (EN X.K ta):=by
 intro pins s σ H R I h;refine Call_ (ld_blt I hg hm (by decide +kernel:bootBuiltins "zip"=some (.type "zip")) (Ht (thn (ha pos pins s σ H _ I h) fun us s1 ⟨vs,H1,I1,r1,q1⟩=>?_) (by rw [hs,hs2]) (by rw [hs2];rfl)))
 obtain ⟨b1,b2,l1,l2,xs,ys,e,q1,q2,q⟩:=q1;subst e;obtain ⟨u1,u2,rfl,ru1,ru2⟩:=r1.two;cases ru1;cases ru2;obtain ⟨its1,rv1,sq1,z1⟩:=I1.src q1;obtain ⟨its2,rv2,sq2,z2⟩:=I1.src q2;refine oa sq1 sq2 fun h' hz hTI hTO h1 h2 hsz hk=>?_;have I2:Inv X pins σ H1 { s1 with heap:=h' }:=I1.kept (t':=s1.toks) hk;refine wpAny_pyIter_zip (s:={ s1 with heap:=h' }) hz ?_;have D:ZApart (s1.heap.objs.size+4) (s1.heap.objs.size+2) (s1.heap.objs.size+3) s1.heap.objs.size (s1.heap.objs.size+1):=by constructor<;>exact (show (_:Nat)≠(_:Nat) by lia)
 refine ⟨s1.heap.objs.size+4,[s1.heap.objs.size+4,s1.heap.objs.size+2,s1.heap.objs.size+3,s1.heap.objs.size,s1.heap.objs.size+1],_,_,H1,rfl,I2,wY b1 b2 l1 l2 _ _ _ _ _ D,⟨hz,hTI,⟨_,_,hTO⟩,h1,h2⟩,fun b hb=>?_,q⟩;have hb':s1.heap.objs.size<=b:=by
  have hb2:b=s1.heap.objs.size+4\/b=s1.heap.objs.size+2\/b=s1.heap.objs.size+3\/b=s1.heap.objs.size\/b=s1.heap.objs.size+1:=by simpa using hb
  rcases hb2 with e|e|e|e|e<;>rw [e]<;>first|exact HX _ _|exact GO _
 exact I1.fpOk (H':=H1) hb' (I1.hok.fresh hb')
def Dd(K:GH)(t:TA):TI:=fun σ H R=>t σ H fun vs H1=>∃b l xs,vs=[.ref l]/\kY K b H1 l xs/\R (Ite K b l) H1
theorem v8{a:Expr}{elts:List Expr}{x1:Nat}{tp:Pos}{ta:TA}{p pos:Pos}(hg:Gl X "enumerate")(hm:X.mg "enumerate"=none)(ha:PA X [a] ta)(hs:starEach [a] X.env=[(false,eval a X.env)]:=by rfl):
  PI X (.Tuple elts x1 tp) (.Call (.Name "enumerate" p) [a] [] pos) (Dd X.K ta):=by
 intro pins s σ H R I h;refine Call_ (ld_blt I hg hm (by decide +kernel:bootBuiltins "enumerate"=some (.type "enumerate")) (Ht (thn (ha pos pins s σ H _ I h) fun us s1 ⟨vs,H1,I1,r1,q1⟩=>?_) hs rfl))
 obtain ⟨b,l,xs,e,q1,q⟩:=q1;subst e;obtain ⟨u1,rfl,ru1⟩:=r1.one;cases ru1;obtain ⟨its,rv,sq,z⟩:=I1.src q1;refine ud sq fun h' he h1 hsz hk=>?_;have I2:Inv X pins σ H1 { s1 with heap:=h' }:=I1.kept (t':=s1.toks) hk;refine wpAny_pyIter_enum (s:={ s1 with heap:=h' }) he ?_;refine ⟨s1.heap.objs.size+1,[s1.heap.objs.size+1,s1.heap.objs.size],_,_,H1,rfl,I2,u8 b l _ _ (show (_:Nat)≠(_:Nat) by lia),⟨⟨_,he⟩,h1⟩,fun c hc=>?_,q⟩
 have hc':s1.heap.objs.size<=c:=by
  have hc2:c=s1.heap.objs.size+1\/c=s1.heap.objs.size:=by simpa using hc
  rcases hc2 with e|e<;>rw [e]<;>first|exact HX _ _|exact GO _
 exact I1.fpOk (H':=H1) hc' (I1.hok.fresh hc')
end
end L2
namespace L3
open PySem L2
section
variable {X:Cx}{B:Bd}{tg:Expr}{K:GH}{H:Hp}{M:Mem}
def srcOf(d:D)(xs:List D):List (Addr×List D):=match d with
 |.ref a=>[(a,xs)]
 |_=>[]
theorem nb{d:D}{v:V}{xs:List D}(rh:RepH K H M)(r:Rp K H d v)(e:cm M d=some xs):∃p b,v=.ref p/\∀H' M',Imm H H'->RepH K H' M'->(∀q∈srcOf d xs,M' q.1=some (.lst q.2))->∃vs,kY K b H' p vs/\Rps K H' xs vs:=by
 cases d with
 |tup ys=>
  cases e;obtain ⟨p,vs,rfl,h,r⟩:=r;exact ⟨p,false,rfl,fun H' M' i _ _=>⟨vs,(h.mono i).sq,r.mono i⟩⟩
 |lst ys=>
  cases e;obtain ⟨p,vs,rfl,h,r⟩:=r;exact ⟨p,true,rfl,fun H' M' i _ _=>⟨vs,(h.mono i).sq,r.mono i⟩⟩
 |mt ys=>
  cases e;obtain ⟨p,vs,rfl,h,r⟩:=r;exact ⟨p,false,rfl,fun H' M' i _ _=>⟨vs,h.sq,r.mono i⟩⟩
 |ml ys=>
  cases e;obtain ⟨p,vs,rfl,h,r⟩:=r;exact ⟨p,true,rfl,fun H' M' i _ _=>⟨vs,(h.mono i).sq,r.mono i⟩⟩
 |ref a=>
  refine ⟨a,true,r,fun H' M' i rh' hs=>?_⟩;obtain ⟨vs,h1,h2⟩:=rh' _ _ (hs (a,xs) (by simp [srcOf]))
  exact ⟨vs,gj h1,h2⟩
 |_=>cases e
theorem lx{d:D}{xs:List D}(e:cm M d=some xs):∀q∈srcOf d xs,M q.1=some (.lst q.2):=by
 cases d with
 |ref a=>
  intro q hq;have:q=(a,xs):=by simpa [srcOf] using hq
  subst this;simp only [cm] at e
  split at e
  ·rename_i ys h;cases e;exact h
  ·cases e
 |_=>intro q hq;simp [srcOf] at hq
def i6(te:bN):v4:=fun δ M R=>te δ M fun d M1=>match cm M1 d with
 |some xs=>R ⟨xs,srcOf d xs⟩ M1
 |none=>False
theorem fi{l:Expr}{tl:bN}(hl:DE X B l tl):DI X B tg l (i6 tl):=by
 refine gG (yO hl) ?_
 rintro σ H R ⟨δ,M,RR,s,h,up⟩
 refine ⟨δ,M,_,s,h,fun d M1 h1 v H1 rh1 i1 r1=>?_⟩
 split at h1
 ·rename_i xs e
  obtain ⟨p,b,rfl,hsrc⟩:=nb rh1 r1 e;obtain ⟨vs,hq,_⟩:=hsrc H1 M1 Imm.refl rh1 (lx e);refine ⟨p,b,vs,rfl,hq,up _ M1 h1 _ H1 rh1 i1 fun i H2 M2 i2 rh2 ok2=>?_⟩;obtain ⟨vs2,hq2,r2⟩:=hsrc H2 M2 i2 rh2 ok2;have hl:=r2.length;cases b with
  |true=>
   refine ⟨fun d hd=>?_,fun hle=>⟨vs2,hq2,by rw [<- hl];exact hle⟩⟩
   obtain ⟨w,hw,rw'⟩:=r2.get hd;refine ⟨⟨vs2,w,hq2,hw⟩,?_⟩
   rintro x H3 ⟨rfl,hx⟩
   have:=hx vs2 hq2;rw [hw] at this;cases this;exact ⟨Frm.refl,rh2,rw'⟩
  |false=>
   refine ⟨fun d hd=>?_,fun hle=>⟨vs2,hq2,by rw [<- hl];exact hle⟩⟩
   obtain ⟨w,hw,rw'⟩:=r2.get hd;refine ⟨⟨vs2,w,hq2,hw⟩,?_⟩
   rintro x H3 ⟨rfl,hx⟩
   have:=hx vs2 hq2;rw [hw] at this;cases this;exact ⟨Frm.refl,rh2,rw'⟩
 ·exact h1.elim
def b_(lo:Int)(n:Nat):List D:=(HA n).map fun (i:Nat)=>D.int (lo+i)
def cU(t:gl):v4:=fun δ M R=>t δ M fun ds M1=>match ds with
 |[.int j]=>-(2 ^ 62)<=j/\j<2 ^ 62/\R ⟨b_ 0 j.toNat,[]⟩ M1
 |_=>False
theorem CL{lo:Int}{n:Nat}:Gh K H ⟨b_ lo n,[]⟩ (Itr lo n):=fun i H2 M2 i2 rh2 _=>by
 have hlen:(b_ lo n).length=n:=by simp [b_]
 refine ⟨fun d hd=>?_,fun hle=>by rw [hlen] at hle;exact hle⟩
 have hi:i<n:=by
  rcases Kt i n with h|h
  ·exact h
  ·rw [HG (by rw [hlen];exact h)] at hd;cases hd
 have ed:d=.int (lo+i):=by
  simp only [b_,GU,J7 hi] at hd;exact (HC hd).symm
 subst ed;refine ⟨hi,?_⟩
 rintro x H3 ⟨rfl,rfl⟩
 exact ⟨Frm.refl,rh2,rfl⟩
theorem bS{a:Expr}{ta:gl}{p pos:Pos}(hg:Gl X "range")(hm:X.mg "range"=none)(ha:DA X B [a] ta)(hs:starEach [a] X.env=[(false,eval a X.env)]:=by rfl):DI X B tg (.Call (.Name "range" p) [a] [] pos) (cU ta):=by
 refine gG (uW hg hm ha hs) ?_
 rintro σ H R ⟨δ,M,RR,s,h,up⟩
 refine ⟨δ,M,_,s,h,fun ds M1 h1 vs H1 rh1 i1 r1=>?_⟩
 split at h1
 ·obtain ⟨v,rfl,rv⟩:=gp (ds:=[]) r1
  cases rv;exact ⟨_,rfl,h1.1,h1.2.1,up _ M1 h1.2.2 _ H1 rh1 i1 CL⟩
 ·exact h1.elim
def oZ(xs:List D):List D:=(xs.zipIdx).map fun p=>D.tup [.int (p.2:Nat),p.1]
theorem uE{xs:List D}{i:Nat}:(oZ xs)[i]?=(xs[i]?).map fun d=>D.tup [.int (i:Nat),d]:=by
 simp [oZ,GU,List.getElem?_zipIdx];cases xs[i]?<;>simp
def BC(t:gl):v4:=fun δ M R=>t δ M fun ds M1=>match ds with
 |[d]=>match cm M1 d with
  |some xs=>R ⟨oZ xs,srcOf d xs⟩ M1
  |none=>False
 |_=>False
theorem yI{a:Expr}{elts:List Expr}{x1:Nat}{tp:Pos}{ta:gl}{p pos:Pos}(hg:Gl X "enumerate")(hm:X.mg "enumerate"=none)(ha:DA X B [a] ta)(hs:starEach [a] X.env=[(false,eval a X.env)]:=by rfl):
  DI X B (.Tuple elts x1 tp) (.Call (.Name "enumerate" p) [a] [] pos) (BC ta):=by
 refine gG (v8 hg hm ha hs) ?_
 rintro σ H R ⟨δ,M,RR,s,h,up⟩
 refine ⟨δ,M,_,s,h,fun ds M1 h1 vs H1 rh1 i1 r1=>?_⟩
 split at h1
 ·obtain ⟨v,rfl,rv⟩:=gp (ds:=[]) r1
  split at h1
  ·rename_i xs e
   obtain ⟨p,b,rfl,hsrc⟩:=nb rh1 rv e;obtain ⟨vs,hq,_⟩:=hsrc H1 M1 Imm.refl rh1 (lx e);refine ⟨b,p,vs,rfl,hq,up _ M1 h1 _ H1 rh1 i1 fun i H2 M2 i2 rh2 ok2=>?_⟩;obtain ⟨vs2,hq2,r2⟩:=hsrc H2 M2 i2 rh2 ok2;have hl:=r2.length;refine ⟨fun d hd=>?_,fun hle=>⟨vs2,hq2,by rw [<- hl];simpa [oZ] using hle⟩⟩
   rw [uE] at hd;obtain ⟨d0,hd0,rfl⟩:=IC.mp hd;obtain ⟨w,hw,rw'⟩:=r2.get hd0;refine ⟨⟨vs2,w,hq2,hw⟩,?_⟩
   rintro x H3 ⟨T,x',hT,rfl,rfl,hx⟩
   have:=hx vs2 hq2;rw [hw] at this;cases this;have i3:Imm H2 (upd H2 T (.tup [.int i,w])):=Imm.new hT;exact ⟨Frm.new hT,rh2.new hT,T,_,rfl,upd_same,.cons rfl (.cons (rw'.mono i3) .nil)⟩
  ·exact h1.elim
 ·exact h1.elim
def km(xs ys:List D):List D:=(xs.zip ys).map fun p=>D.tup [p.1,p.2]
theorem vf{xs ys:List D}{i:Nat}{d:D}(h:(km xs ys)[i]?=some d):∃x y,xs[i]?=some x/\ys[i]?=some y/\d=.tup [x,y]:=by
 simp only [km,GU,IC] at h;obtain ⟨⟨x,y⟩,h1,rfl⟩:=h;rw [List.getElem?_zip_eq_some] at h1;exact ⟨x,y,h1.1,h1.2,rfl⟩
def x8(t:gl):v4:=fun δ M R=>t δ M fun ds M1=>match ds with
 |[d,e]=>match cm M1 d,cm M1 e with
  |some xs,some ys=>R ⟨km xs ys,srcOf d xs++srcOf e ys⟩ M1
  |_,_=>False
 |_=>False
theorem vw{a b:Expr}{elts:List Expr}{x1:Nat}{tp:Pos}{ta:gl}{p pos:Pos}(hg:Gl X "zip")(hm:X.mg "zip"=none)(ha:DA X B [a,b] ta)
  (hs:starEach [a,b] X.env=[(false,eval a X.env),(false,eval b X.env)]:=by rfl) (hs2:starEach [b] X.env=[(false,eval b X.env)]:=by rfl):
  DI X B (.Tuple elts x1 tp) (.Call (.Name "zip" p) [a,b] [] pos) (x8 ta):=by
 refine gG (A4 hg hm ha hs hs2) ?_
 rintro σ H R ⟨δ,M,RR,s,h,up⟩
 refine ⟨δ,M,_,s,h,fun ds M1 h1 vs H1 rh1 i1 r1=>?_⟩
 split at h1
 ·obtain ⟨v,w,rfl,rv,rw'⟩:=zO r1
  split at h1
  ·rename_i xs ys e1 e2
   obtain ⟨p,b,rfl,hsrc⟩:=nb rh1 rv e1;obtain ⟨p',b',rfl,hsrc'⟩:=nb rh1 rw' e2;obtain ⟨vs,hq,_⟩:=hsrc H1 M1 Imm.refl rh1 (lx e1);obtain ⟨vs',hq',_⟩:=hsrc' H1 M1 Imm.refl rh1 (lx e2);refine ⟨b,b',p,p',vs,vs',rfl,hq,hq',up _ M1 h1 _ H1 rh1 i1 fun i H2 M2 i2 rh2 ok2=>?_⟩;obtain ⟨vs2,hq2,r2⟩:=hsrc H2 M2 i2 rh2 fun q hq=>ok2 q (Ji _ hq);obtain ⟨vs2',hq2',r2'⟩:=hsrc' H2 M2 i2 rh2 fun q hq=>ok2 q (Ho _ hq);have hl:=r2.length;have hl':=r2'.length;refine ⟨fun d hd=>?_,fun hle=>⟨vs2,vs2',hq2,hq2',?_⟩⟩
   ·obtain ⟨x,y,hx,hy,rfl⟩:=vf hd
    obtain ⟨w1,hw1,rw1⟩:=r2.get hx;obtain ⟨w2,hw2,rw2⟩:=r2'.get hy;refine ⟨⟨vs2,vs2',w1,w2,hq2,hq2',hw1,hw2⟩,?_⟩
    rintro x H3 ⟨T,x',y',hT,rfl,rfl,hx1,hx2⟩
    have q1:=hx1 vs2 hq2;have q2:=hx2 vs2' hq2';rw [hw1] at q1;rw [hw2] at q2;cases q1;cases q2;have i3:Imm H2 (upd H2 T (.tup [w1,w2])):=Imm.new hT;exact ⟨Frm.new hT,rh2.new hT,T,_,rfl,upd_same,.cons (rw1.mono i3) (.cons (rw2.mono i3) .nil)⟩
   ·have:(km xs ys).length=min xs.length ys.length:=by simp [km]
    rw [this] at hle;lia
  ·exact h1.elim
 ·exact h1.elim
end
end L3
namespace L3
open PySem L2
def EG:Bd:=⟨fun _ _=>True,fun _ _=>trivial⟩
section
variable {X:Cx}{B:Bd}{K:GH}{H H':Hp}{M M':Mem}
inductive liftE0(K:GH)(T:bN)(σ:L2.St)(H:Hp)(Q:VK):Prop
 |mk (δ:Dl) (M:Mem) (QQ:DK) (rh:RepH K H M) (rs:RepS K H δ σ) (h:T δ M QQ) (u:Up K M H QQ Q):liftE0 K T σ H Q
inductive liftT0(K:GH)(T:fb)(σ:L2.St)(H:Hp)(Q:Bool->Hp->Prop):Prop
 |mk (δ:Dl) (M:Mem) (QQ:Bool->Mem->Prop) (rh:RepH K H M) (rs:RepS K H δ σ) (h:T δ M QQ) (u:UpT K M H QQ Q):liftT0 K T σ H Q
inductive liftG0(K:GH)(g:jh)(v:V)(σ:L2.St)(H:Hp)(Q:L2.St->Hp->Prop):Prop
 |mk (d:D) (δ:Dl) (M:Mem) (QQ:Dl->Mem->Prop) (rh:RepH K H M) (rs:RepS K H δ σ) (r:Rp K H d v) (h:g d δ M QQ) (u:∀δ' M',QQ δ' M'->∀σ' H',Frm M H M' H'->RepH K H' M'->RepS K H' δ' σ'->Q σ' H'):liftG0 K g v σ H Q
theorem CW{e:Expr}{T:bN}(h:DE X EG e T):PE X e (liftE0 X.K T):=bo h fun σ H Q ⟨δ,M,QQ,rh,rs,h,u⟩=>⟨δ,M,QQ,⟨trivial,rh,rs⟩,h,u⟩
theorem CH{e:Expr}{g:jh}(h:DG X EG e g):PG X e (liftG0 X.K g):=iO h fun v σ H Q ⟨d,δ,M,QQ,rh,rs,r,h,u⟩=>⟨d,δ,M,QQ,⟨trivial,rh,rs⟩,r,h,fun δ' M' q σ' H' f s=>u δ' M' q σ' H' f s.rh s.rs⟩
theorem RepH.add{a:Addr}{o:MO}(r:RepH K H M)(n:RepO K H a o):RepH K H (M.upd a o):=fun b p e=>by
 by_cases hb:b=a
 ·subst hb;rw [Mem.upd_same] at e;cases e;exact n
 ·rw [ai hb] at e;exact r b p e
def eO(ls:List Str)(js:List Nat)(δ:Dl):Dl:=ls.map (fun _=>none)++js.map fun j=>(δ[j]?).join
theorem RepS.start{δ:Dl}{σ:L2.St}(r:RepS K H δ σ)(ls:List Str)(js:List Nat):RepS K H (eO ls js δ) (cZ ls js σ):=by
 refine ⟨by simp [eO,cZ],fun i d e=>?_⟩
 unfold eO at e;unfold cZ
 by_cases hi:i<ls.length
 ·rw [HV (by simpa using hi),GU,GG hi] at e
  cases e
 ·rw [HR (by simpa using hi),GF,GU] at e
  rw [HR (by simpa using hi),GF,GU]
  cases hj:js[i-ls.length]? with
  |none=>rw [hj] at e;cases e
  |some j=>
   rw [hj] at e;have q:(δ[j]?).join=some d:=by simpa using e
   have q2:δ[j]?=some (some d):=by
    cases z:δ[j]? with
    |none=>rw [z] at q;cases q
    |some o=>rw [z] at q;have q':o=some d:=q;rw [q']
   obtain ⟨v,h1,h2⟩:=r.get j d q2;exact ⟨v,by simp [h1],h2⟩
structure BxC(g:jh)(tt:fb)(te:bN)(ok:Mem->Prop)(Q:List D->Mem->Prop):Type
def cW(g:jh)(tt:fb)(te:bN)(ok:Mem->Prop)(Q:List D->Mem->Prop)(b:BxC g tt te ok Q):List D->List D->Dl->Mem->Prop
 |[],acc,_,M=>ok M/\Q acc M
 |x::xs,acc,δ,M=>ok M/\g x δ M fun δ2 M2=>tt δ2 M2 fun c M3=>if c=true then te δ2 M3 fun y M4=>acc.length<sizeLine/\cW g tt te ok Q b xs (acc++[y]) δ2 M4 else cW g tt te ok Q b xs acc δ2 M3
def bV(wi:v4)(ls:List Str)(js:List Nat)(g:jh)(tt:fb)(te:bN):bN:=fun δ M Q=>wi δ M fun it M1=>cW g tt te it.ok (fun acc M'=>∀p,M' p=none->Q (.ref p) (M'.upd p (.lst acc))) ⟨⟩ it.items [] (eO ls js δ) M1
theorem wg{g:jh}{tt:fb}{te:bN}{ok:Mem->Prop}{xs acc:List D}{δ:Dl}{Q:List D->Mem->Prop}{b:BxC g tt te ok Q}(h:cW g tt te ok Q b xs acc δ M):ok M:=by
 cases xs with
 |nil=>exact h.1
 |cons _ _=>exact h.1
variable {tg iter elt:Expr}{ifs:List Expr}{scope:Scope}{cl:List (Str×Addr)}{pos:Pos}{ls fs:List Str}{js:List Nat}{wi:v4}{g:jh}{tt:fb}{te:bN}
theorem uG{σ:L2.St}{Q:VK}(h:liftE X B (bV wi ls js g tt te) σ H Q):Bl (liftI X B wi) ls js (liftG0 X.K g) (liftT0 X.K tt) (liftE0 X.K te) σ H Q:=by
 obtain ⟨δ,M,QQ,s,h,u⟩:=h;refine ⟨δ,M,_,s,h,fun it M1 h1 J H1 rh1 f1 hJ p hp=>?_⟩;have hMp:M1 p=none:=rh1.fresh hp
 refine ⟨fun i m σ' H'=>m=it.items.length-i/\i<=it.items.length/\∃δ' M' acc ys,RepH X.K H' M'/\RepS X.K H' δ' σ'/\H' p=some (.lst ys)/\Rps X.K H' acc ys/\M' p=none/\Frm M1 H1 M' H'/\
   cW g tt te it.ok (fun acc M'=>∀p,M' p=none->QQ (.ref p) (M'.upd p (.lst acc))) ⟨⟩ (it.items.drop i) acc δ' M',
  ⟨_,rfl,Hn _,eO ls js δ,M1,[],[],rh1.new hp,((s.rs.mono (f1.imm s.rh)).mono (Imm.new hp)).start ls js,upd_same,.nil,hMp,Frm.new hp,h1⟩,?_⟩
 rintro i m σ2 H2 ⟨rfl,hi,δ2,M2,acc,ys,rh2,rs2,hp2,ra2,hm2,f2,h2⟩
 have hok:=wg h2;obtain ⟨hgo,hstop⟩:=hJ i H2 M2 (f2.imm rh1) rh2 hok
 by_cases hlt:i<it.items.length
 ·rw [IU hlt] at h2
  obtain ⟨go,hy⟩:=hgo _ (GG hlt)
  refine .inr ⟨go,fun σ' H'=>∃δ' M' acc ys,RepH X.K H' M'/\RepS X.K H' δ' σ'/\H' p=some (.lst ys)/\Rps X.K H' acc ys/\M' p=none/\Frm M1 H1 M' H'/\
   cW g tt te it.ok (fun acc M'=>∀p,M' p=none->QQ (.ref p) (M'.upd p (.lst acc))) ⟨⟩ (it.items.drop (i+1)) acc δ' M',fun σ' H' z=>⟨it.items.length-(i+1),by omega,rfl,hlt,z⟩,fun x H3 hx=>?_⟩
  obtain ⟨f3,rh3,rx⟩:=hy x H3 hx;refine ⟨_,δ2,M2,_,rh3,rs2.mono (f3.imm rh2),rx,h2.2,fun δ4 M4 h4 σ4 H4 f4 rh4 rs4=>?_⟩;refine ⟨δ4,M4,_,rh4,rs4,h4,fun c M5 h5 H5 rh5 f5=>?_⟩;have f35:=(f3.trans f4).trans f5;obtain ⟨hp5,hm5⟩:=f35.keep p _ hp2 hm2;cases c with
  |false=>
   try dsimp only
   rw [if_neg GY] at h5 ⊢;exact ⟨δ4,M5,acc,ys,rh5,rs4.mono (f5.imm rh4),hp5,ra2.mf rh2 f35,hm5,f2.trans f35,h5⟩
  |true=>
   try dsimp only
   rw [if_pos rfl] at h5 ⊢;refine ⟨δ4,M5,_,rh5,rs4.mono (f5.imm rh4),h5,fun y M6 h6 v6 H6 rh6 f6 r6=>?_⟩;obtain ⟨hp6,hm6⟩:=f6.keep p _ hp5 hm5;have f26:=f35.trans f6;have ra6:=ra2.mf rh2 f26;refine ⟨ys,hp6,by rw [<- ra6.length];exact h6.1,?_⟩
   have im:Imm H6 (upd H6 p (.lst (ys++[v6]))):=Imm.upd (by rw [hp6];trivial)
   refine ⟨δ4,M6,acc++[y],ys++[v6],rh6.keep im fun b o hb=>upd_ne (Mem.ne hb hm6),((rs4.mono (f5.imm rh4)).mono (f6.imm rh5)).mono im,upd_same,(ra6.append (.cons r6 .nil)).mono im,hm6,?_,h6.2⟩;refine ⟨fun b w e n=>?_⟩;obtain ⟨e2,n2⟩:=(f2.trans f26).keep b w e n;exact ⟨by rw [upd_ne (bz e hp)];exact e2,n2⟩
 ·rw [JQ (by omega)] at h2
  refine .inl ⟨hstop (by omega),u _ _ (h2.2 p hm2) _ H2 (rh2.add ⟨ys,hp2,ra2⟩) ?_ rfl⟩
  refine ⟨fun b w e n=>?_⟩;obtain ⟨e1,n1⟩:=f1.keep b w e n;obtain ⟨e2,n2⟩:=f2.keep b w e1 n1;exact ⟨e2,by rw [ai (bz e1 hp)];exact n2⟩
def DTs(X:Cx)(B:Bd)(ifs:List Expr)(T:fb):Prop:=EF X ifs (liftT X B T)
def dO:fb:=fun _ M Q=>Q true M
theorem di:DTs X B [] dO:=fun pins s σ H Q I zz=>by obtain ⟨δ,M,QQ,sr,h,u⟩:=zz;exact Ar pins s σ H Q I (u true M h H sr.rh Frm.refl)
theorem my{c:Expr}{t:fb}(h:DT X B c t):DTs X B [c] t:=zQ h
theorem Ah{es:List Expr}{T:fb}(h:DTs X EG es T):EF X es (liftT0 X.K T):=fun pins s σ H Q I zz=>by obtain ⟨δ,M,QQ,rh,rs,hT,u⟩:=zz;exact h pins s σ H Q I ⟨δ,M,QQ,⟨trivial,rh,rs⟩,hT,u⟩
theorem cv(hc:X.calm=true)(co:CompOk X scope cl ls fs js)(hi:DI X B tg iter wi)
  (hY:∀(C:Addr) (s₀:Shared) (H₀:Hp) (fp:List Addr) (pl:List (Addr×Obj)),DG (cq X (ls++fs) scope cl C s₀ H₀ fp pl) EG tg g/\DTs (cq X (ls++fs) scope cl C s₀ H₀ fp pl) EG ifs tt/\DE (cq X (ls++fs) scope cl C s₀ H₀ fp pl) EG elt te)
  (hs:∀x,foldedSetIterable iter X.env x=pure x:=by intro _;rfl):DE X B (.ListComp elt [⟨tg,iter,ifs,0⟩] scope pos) (bV wi ls js g tt te):=
 bo (zI (g:=liftG0 X.K g) (tt:=liftT0 X.K tt) (te:=liftE0 X.K te) hc co hi (fun C s₀ H₀ fp pl=>⟨CH (hY C s₀ H₀ fp pl).1,Ah (hY C s₀ H₀ fp pl).2.1,CW (hY C s₀ H₀ fp pl).2.2⟩) hs) fun _ _ _ h=>uG h
end
end L3
namespace L3
open PySem L2
abbrev DX:=Addr->Mem->Prop
abbrev Sd:=List D->Mem->DK->DX->Prop
def bM(P:Program)(w:World):pf:=fun outer H s E e s'=>∃C,pJ P w C outer H s E e s'
def UpX(K:GH)(M:Mem)(H:Hp)(EE:DX)(E:XK):Prop:=∀C M',EE C M'->∀H',RepH K H' M'->Frm M H M' H'->E (.ref C) none H'
def Ea(K:GH)(B:Bd)(EE:DX)(E:XK):Prop:=∀C M',EE C M'->∀H',RepH K H' M'->B.p M' H'->E (.ref C) none H'
theorem UpX.go{K:GH}{M M1:Mem}{H H1:Hp}{EE:DX}{E:XK}(u:UpX K M H EE E)(i:Frm M H M1 H1):UpX K M1 H1 EE E:=fun C M' q H' a b=>u C M' q H' a (i.trans b)
def ay(K:GH)(n:Nat)(T:Sd):Sp:=fun vs H Q E=>vs.length=n/\∃ds M QQ EE,RepH K H M/\Rps K H ds vs/\T ds M QQ EE/\Up K M H QQ Q/\UpX K M H EE E
def startN(N:List Str)(ds:List D):Dl:=ds.map some++GK (N.length-ds.length) none
theorem RepS.startN{K:GH}{H:Hp}{ds:List D}{vs:List V}(N:List Str)(r:Rps K H ds vs):RepS K H (L3.startN N ds) (L2.start N vs):=by
 have hl:=r.length;refine ⟨by simp [L3.startN,L2.start,hl],fun i d e=>?_⟩
 unfold L3.startN at e;unfold L2.start
 by_cases hi:i<ds.length
 ·rw [HV (by simpa using hi),GU,GG hi] at e
  have e':ds[i]=d:=by simpa using e
  obtain ⟨v,h1,h2⟩:=r.get (i:=i) (d:=d) (by rw [GG hi,e'])
  refine ⟨v,?_,h2⟩;rw [HV (by simp;lia),GU,h1]
  rfl
 ·rw [HR (by simpa using hi),Lx] at e
  split at e<;>cases e
section
variable {P:Program}{w:World}{K:GH}{mg:Str->Option Value}{base:Heap}{f:Addr}{fd:FuncData}
def drp(Q:DK)(d:D)(M':Mem):Prop:=∃M'',(∀b o,M'' b=some o->M' b=some o)/\Q d M''
def aU(EE:DX)(C:Addr)(M':Mem):Prop:=∃M'',(∀b o,M'' b=some o->M' b=some o)/\EE C M''
theorem drp_id{Q:DK}{d:D}{M':Mem}(h:Q d M'):drp Q d M':=⟨M',fun _ _ e=>e,h⟩
theorem dU{EE:DX}{C:Addr}{M':Mem}(h:EE C M'):aU EE C M':=⟨M',fun _ _ e=>e,h⟩
theorem Frm.less{M M' M'':Mem}{H H':Hp}(f:Frm M H M' H')(s:∀b o,M'' b=some o->M' b=some o):Frm M H M'' H':=⟨fun b u e n=>by
 obtain ⟨e',n'⟩:=f.keep b u e n;refine ⟨e',?_⟩;cases q:M'' b with
 |none=>rfl
 |some o=>rw [s b o q] at n';cases n'⟩
theorem Up.drp{M:Mem}{H:Hp}{Q:DK}{QV:VK}(u:Up K M H Q QV):Up K M H (L3.drp Q) QV:=fun d M' ⟨M'',s,q⟩ v H' rh f r=>u d M'' q v H' (fun b o e=>rh b o (s b o e)) (f.less s) r
theorem UpX.drp{M:Mem}{H:Hp}{EE:DX}{E:XK}(u:UpX K M H EE E):UpX K M H (aU EE) E:=fun C M' ⟨M'',s,q⟩ H' rh f=>u C M'' q H' (fun b o e=>rh b o (s b o e)) (f.less s)
def bh(N:List Str)(T:DX->aG):Sd:=fun ds M Q EE=>T (aU EE) { nx:=fun _ M'=>drp Q .non M',rt:=drp Q } (startN N ds) M
theorem dg{x qual:Str}{st:Stmt}{N ps:List Str}{k:Nat}{T:DX->aG}(F:Fun K x qual st f fd)(S:FnScope N ps (az st))
  (hb:∀(cdv:Value) (A:Around) (outer:List Env) (s:Shared) (H:Hp) (E:XK) (B:Bd) (EE:DX),Room k (A.deeper (PyProof.Rows.envOfC qual (az st) s.heap.objs.size f cdv))->Ea K B EE E->
   yu (eI (bM P w) P w K mg base N qual (az st) f cdv A outer s H E) B (eW st) (T EE)):
  FnOk P w K mg base (bM P w) (k+1) f fd ps (ay K ps.length (bh N T)):=by
 obtain ⟨oc,od,kV,doc,pm,an,cdv,ct,osl,rfl,lk,hcd⟩:=F.ex;refine Gx lk hcd S (fun vs H Q E h=>h.1) fun A outer s H vs Q E hr hsp=>?_;obtain ⟨hl,ds,M,QQ,EE,rh,r,hT,u,ux⟩:=hsp;refine ⟨_,hb cdv A outer s H E (GA M H) (aU EE) hr ux.drp,startN N ds,M,{ nx:=fun _ M'=>drp QQ .non M',rt:=drp QQ },⟨Frm.refl,rh,.startN N r⟩,hT,⟨?_,u.drp,?_,?_⟩⟩
 ·exact fun δ M' q σ H' f s'=>u.drp _ M' q _ H' s'.rh f rfl
 ·exact fun δ M' q=>(show False from q).elim
 ·exact fun δ M' q=>(show False from q).elim
theorem gc{ps:List Str}{k n:Nat}{CX:pf}:FnOk P w K mg base CX k f fd ps (ay K n fun _ _ _ _=>False):=
 ⟨fun vs H Q E h=>(by obtain ⟨_,_,_,_,_,_,_,h,_⟩:=h;exact h.elim),fun A outer s H args us vs Q E _ _ _ _ h=>(by obtain ⟨_,_,_,_,_,_,_,h,_⟩:=h;exact h.elim)⟩
theorem aF{N:List Str}{qual:Str}{scope:Scope}{cd:Value}{A:Around}{outer:List Env}{s0:Shared}{H0:Hp}{E:XK}:dy (bM P w) (eI (bM P w) P w K mg base N qual scope f cd A outer s0 H0 E) E:=by
 intro pins σ H s e s' I ⟨C,hx⟩;have I':Inv (eI (pJ P w C) P w K mg base N qual scope f cd A outer s0 H0 E) pins σ H s:=I.wish _;have:=FW pins σ H s e s' I' hx;exact wpAny_mono this (fun _ _ z=>⟨C,z⟩) fun _ _ z=>⟨C,z⟩
theorem fB{X:Cx}:dy (bM P w) X E0:=fun pins σ H s e s' I ⟨C,hx⟩=>by
 obtain ⟨_,_,_,_,_,_,_,_,_,_,_,_,hE⟩:=hx;exact (show False from hE).elim
end
def Sub(M1 M:Mem):Prop:=∀b o,M1 b=some o->M b=some o
def Dis(M1 M M':Mem):Prop:=∀b o,M b=some o->M1 b=none->M' b=none
def plus(M' M1 M:Mem):Mem:=fun b=>match M' b with
 |some o=>some o
 |none=>match M1 b with
  |some _=>none
  |none=>M b
theorem kL{M' M:Mem}:plus M' M M=M':=by
 funext b;simp only [plus];cases h:M' b with
 |some o=>rfl
 |none=>cases h2:M b<;>rfl
structure BxQ(EE:DX)(Q:DK):Type
structure calls(T:Sd)(EE:DX)(ds:List D)(M:Mem)(Q:DK)(_:BxQ EE Q):Prop where
 go:∃M1,Sub M1 M/\T ds M1 (fun d M'=>Dis M1 M M'->Q d (plus M' M1 M)) (fun C M'=>Dis M1 M M'->EE C (plus M' M1 M))
section
variable {X:Cx}{B:Bd}{K:GH}{H H':Hp}{M M1 M':Mem}
theorem RepH.sub(r:RepH K H M)(s:Sub M1 M):RepH K H M1:=fun b o e=>r b o (s b o e)
theorem RepH.dis(r:RepH K H M)(f:Frm M1 H M' H'):Dis M1 M M':=fun b o e n=>by
 obtain ⟨u,q⟩:=(r b o e).obj;exact (f.keep b u q n).2
theorem RepH.plus(r:RepH K H M)(s:Sub M1 M)(r':RepH K H' M')(f:Frm M1 H M' H'):RepH K H' (plus M' M1 M):=fun b o e=>by
 simp only [L3.plus] at e
 split at e
 ·rename_i o' q;cases e;exact r' b _ q
 ·split at e
  ·cases e
  ·rename_i q n
   obtain ⟨u,hu⟩:=(r b o e).obj;exact (r b o e).keep (f.imm (r.sub s)) ((f.keep b u hu n).1.trans hu.symm)
theorem Frm.plus(s:Sub M1 M)(f:Frm M1 H M' H'):Frm M H (plus M' M1 M) H':=⟨fun b u e n=>by
 have n1:M1 b=none:=by
  cases q:M1 b with
  |none=>rfl
  |some o=>rw [s b o q] at n;cases n
 obtain ⟨e',n'⟩:=f.keep b u e n1;exact ⟨e',by simp only [L3.plus,n',n1,n]⟩⟩
theorem eR{T:Sd}{EE:DX}{ds:List D}{vs:List V}{Q:DK}{n:Nat}{QV:VK}{E:XK}{b:BxQ EE Q}(h:calls T EE ds M Q b)(rh:RepH K H M)(r:Rps K H ds vs)(hl:vs.length=n)(u:Up K M H Q QV)(ux:UpX K M H EE E):ay K n T vs H QV E:=by
 obtain ⟨M1,s,h⟩:=h.go;refine ⟨hl,ds,M1,_,_,rh.sub s,r,h,fun d M' q v H' rh' f r'=>?_,fun C M' q H' rh' f=>?_⟩
 ·exact u d _ (q (rh.dis f)) v H' (rh.plus s rh' f) (f.plus s) r'
 ·exact ux C _ (q (rh.dis f)) H' (rh.plus s rh' f) (f.plus s)
theorem calls_of{T:Sd}{EE:DX}{ds:List D}{Q:DK}{b:BxQ EE Q}(hm:∀Q' E',(∀d M,Q d M->Q' d M)->(∀C M,EE C M->E' C M)->T ds M Q' E'):calls T EE ds M Q b:=
 ⟨M,fun _ _ e=>e,hm _ _ (fun d M' q _=>by rw [kL];exact q) fun C M' q _=>by rw [kL];exact q⟩
variable {CX:pf}{k n:Nat}{f C:Addr}{fd:FuncData}{ps:List Str}{T:Sd}{EE:DX}{E:XK}{x m:Str}{p pos apos:Pos}{e o:Expr}{es:List Expr}{ta:bN}{t:gl}
def aA(T:Sd)(EE:DX)(n:Nat)(t:gl):bN:=fun δ M Q=>t δ M fun ds M1=>ds.length=n/\calls T EE ds M1 Q ⟨⟩
theorem SR.ux{δ:Dl}{σ:L2.St}(s:SR X B δ M σ H)(ux:Ea X.K B EE E):UpX X.K M H EE E:=fun C M' q H' a b=>ux C M' q H' a (B.go s.i0 b)
theorem ar(F:FnOk X.prog X.w X.K X.mg X.base CX k f fd ps (ay X.K n T))(hr:Room k X.A)(hg:Gl X x)(hm:X.mg x=some (.ref f))(hk:GV X.K (.ref f)=true)(hb:Binds X.K fd ps [])(hx:dy CX X E)(ux:Ea X.K B EE E)
  (ha:DA X B (e::es) t) (hdb:(x==("__debug__":Str))=false:=by decide) (he:starEach (e::es) X.env=(false,eval e X.env)::starEach es X.env:=by rfl) (hpl:(backTo pos (starEach es X.env)).any (·.1)=false:=by rfl):
  DE X B (.Call (.Name x p) (e::es) [] pos) (aA T EE n t):=by
 refine bo (yL F hr hg hm hk hb .nil hx ha hdb he hpl) ?_
 rintro σ H Q ⟨δ,M,QQ,s,h,u⟩
 refine ⟨δ,M,_,s,h,fun ds M1 h1 vs H1 rh1 i1 r1=>?_⟩
 try dsimp only
 rw [HD];exact eR h1.2 rh1 r1 (by rw [<- r1.length];exact h1.1) (u.go i1) ((s.ux ux).go i1)
def dY(C:Addr)(m:Str)(T:Sd)(EE:DX)(n:Nat)(ta:bN)(t:gl):bN:=fun δ M Q=>ta δ M fun x M1=>match x with
 |.ref a=>match M1 a with
  |some (.ins C' fs)=>C'=C/\fs.lookup m=none/\t δ M1 fun ds M2=>ds.length+1=n/\calls T EE (.ref a::ds) M2 Q ⟨⟩
  |_=>False
 |_=>False
theorem dk{pl:Sem Bool}(he:DE X B o ta)(c:Cls X.K C)(hm:Meth X.K C m f)(F:FnOk X.prog X.w X.K X.mg X.base CX k f fd ps (ay X.K n T))(hr:Room k X.A)(hb:Binds X.K fd ps [])(hx:dy CX X E)(ux:Ea X.K B EE E)(ha:DA X B (e::es) t)
  (hst:starEach (e::es) X.env=(false,eval e X.env)::starEach es X.env:=by rfl) (hpl:(backTo pos (starEach es X.env)).any (·.1)=false:=by rfl)
  (ht:eval (.Call (.Attribute o m apos) (e::es) [] pos) X.env=(do
   let ov <- eval o X.env
   standAt apos.atName
   let (f,first) <- holding [ov] (getMethod ov m pl)
   callWith pos f first (backTo pos (starEach (e::es) X.env)) (backToKw pos (keywordEach [] X.env))):=by rfl):
  DE X B (.Call (.Attribute o m apos) (e::es) [] pos) (dY C m T EE n ta t):=by
 refine bo (zS he c hm F hr hb .nil hx ha hst hpl ht) ?_
 rintro σ H Q ⟨δ,M,QQ,s,h,u⟩
 refine ⟨δ,M,_,s,h,fun x M1 h1 v H1 rh1 i1 r1=>?_⟩
 split at h1
 ·rename_i a
  cases r1
  split at h1
  ·rename_i C' fs hM
   obtain ⟨rfl,hl,h1⟩:=h1;obtain ⟨dx,ws,e1,e2⟩:=rh1 _ _ hM;have hl':ws.lookup m=none:=by
    rcases e2.lookup m with ⟨_,z⟩|⟨d,v,z,_⟩
    ·exact z
    ·rw [hl] at z;cases z
   refine ⟨a,dx,ws,rfl,e1,hl',δ,M1,_,s.go rh1 i1,h1,fun ds M2 h2 vs H2 rh2 i2 r2=>?_⟩
   try dsimp only
   rw [HD];exact eR (ds:=.ref a::ds) h2.2 rh2 (.cons rfl r2) (by rw [GI,<- r2.length];exact h2.1) (u.go (i1.trans i2)) ((s.ux ux).go (i1.trans i2))
  ·exact h1.elim
 ·exact h1.elim
def w_(C:Addr)(T:Sd)(EE:DX)(n:Nat)(t:gl):bN:=fun δ M Q=>t δ M fun ds M1=>ds.length+1=n/\∀a,M1 a=none->calls T EE (.ref a::ds) (M1.upd a (.ins C [])) (fun d M2=>match d with
 |.non=>Q (.ref a) M2
 |_=>False) ⟨⟩
theorem rC(Mk':Mk X.K C f)(F:FnOk X.prog X.w X.K X.mg X.base CX k f fd ps (ay X.K n T))(hr:Room (k+1) X.A)(hg:Gl X x)(hm:X.mg x=some (.ref C))(hb:Binds X.K fd ps [])(hx:dy CX X E)(ux:Ea X.K B EE E)
  (ha:DA X B (e::es) t) (hdb:(x==("__debug__":Str))=false:=by decide) (he:starEach (e::es) X.env=(false,eval e X.env)::starEach es X.env:=by rfl) (hpl:(backTo pos (starEach es X.env)).any (·.1)=false:=by rfl):
  DE X B (.Call (.Name x p) (e::es) [] pos) (w_ C T EE n t):=by
 refine bo (An Mk' F hr hg hm hb .nil hx ha hdb he hpl) ?_
 rintro σ H Q ⟨δ,M,QQ,s,h,u⟩
 refine ⟨δ,M,_,s,h,fun ds M1 h1 vs H1 rh1 i1 r1 a dx na ndx nex=>?_⟩;rw [HD];have nx1:upd H1 dx (.own a) a=none:=by rw [upd_ne (Hw nex)];exact na
 have im1:Imm H1 (upd H1 dx (.own a)):=Imm.new ndx;have im2:Imm (upd H1 dx (.own a)) (upd (upd H1 dx (.own a)) a (.ins C dx [])):=Imm.new nx1;have rh2:RepH X.K (upd (upd H1 dx (.own a)) a (.ins C dx [])) (M1.upd a (.ins C [])):=(rh1.new ndx).put (by rw [nx1];trivial) ⟨dx,[],upd_same,.nil⟩
 have f2:Frm M1 H1 (M1.upd a (.ins C [])) (upd (upd H1 dx (.own a)) a (.ins C dx [])):=(Frm.new ndx).trans (Frm.put (.inl nx1));refine eR (h1.2 a (rh1.fresh na)) rh2 (.cons rfl ((r1.mono im1).mono im2)) (by rw [GI,<- r1.length];exact h1.1) (fun d M2 h2 v H2 rh f r=>?_) ((s.ux ux).go (i1.trans f2))
 cases d with
 |non=>exact ⟨r,u _ M2 h2 _ H2 rh ((i1.trans f2).trans f) rfl⟩
 |_=>exact (show False from h2).elim
end
end L3
namespace L3
open PySem L2
section
variable {X:Cx}{B:Bd}{K:GH}{H H':Hp}{M M1 M':Mem}{o e:Expr}{es:List Expr}{to:bN}{t:gl}{name:Str}{apos cpos:Pos}{Ty id:String}
abbrev yq:=D->List D->Mem->DK->Prop
inductive liftM(X:Cx)(r:yq)(x:V)(xs:List V)(H:Hp)(Q:VK):Prop
 |mk (d:D) (ds:List D) (M:Mem) (QQ:DK) (rh:RepH X.K H M) (rx:Rp X.K H d x) (rs:Rps X.K H ds xs) (h:r d ds M QQ) (u:Up X.K M H QQ Q):liftM X r x xs H Q
def rf(Ty:String)(r:yq)(to:bN)(t:gl):bN:=fun δ M Q=>to δ M fun x M1=>cO M1 x=some Ty/\t δ M1 fun ds M2=>r x ds M2 Q
theorem vN{d:D}{v:V}(rh:RepH K H M)(r:Rp K H d v)(e:cO M d=some Ty)(h:Ty="list"\/Ty="str"\/Ty="int"\/Ty="dict"):tyV K Ty v H:=by
 cases d with
 |non=>cases e;rcases h with h|h|h|h<;>exact absurd h (by decide)
 |bl b=>cases e;rcases h with h|h|h|h<;>exact absurd h (by decide)
 |int i=>cases r;cases e;rfl
 |str x=>cases r;cases e;rfl
 |tup xs=>cases e;rcases h with h|h|h|h<;>exact absurd h (by decide)
 |lst xs=>
  cases e;obtain ⟨p,vs,rfl,hf,r⟩:=r;exact .inl ⟨rfl,vs,hf.sq⟩
 |ref a=>
  cases r;simp only [cO] at e
  split at e
  ·rename_i q;cases e;obtain ⟨ws,h1,h2⟩:=rh _ _ q;exact .inl ⟨rfl,ws,gj h1⟩
  ·rename_i q;cases e;obtain ⟨ws,h1,h2⟩:=rh _ _ q;exact .inr (.inr (.inl ⟨rfl,.inl ⟨ws,h1⟩⟩))
  ·rename_i q;cases e;obtain ⟨ws,h1,h2⟩:=rh _ _ q;exact .inr (.inr (.inl ⟨rfl,.inr ⟨ws,h1⟩⟩))
  ·cases e
 |_=>cases e
theorem io{r:yq}(hT:Ty="list"\/Ty="str"\/Ty="int"\/Ty="dict")(pa:PlainAttrs Ty)(slot:Slot Ty name id)(hty:typeOf (.builtin id)=pure (.type "method_descriptor"))(hm:wk X id (liftM X r))(ho:DE X B o to)(ha:DA X B (e::es) t)
  (hbase:attributeBase o name X.env (eval o X.env)=eval o X.env:=by rfl)
  (hfew:((backTo cpos (starEach (e::es) X.env)).all (fun x=>!x.1)&&(backToKw cpos (keywordEach [] X.env)).all (fun x=>x.1.isSome)
   && decide ((e::es).length+([]:List Keyword).length+(if ([]:List Keyword).isEmpty then 0 else 1)<30))=true:=by rfl)
  (hline:(apos.endLine==cpos.line)=true:=by rfl) (hs:starEach (e::es) X.env=(false,eval e X.env)::starEach es X.env:=by rfl) (hplain:(backTo cpos (starEach es X.env)).any (·.1)=false:=by rfl):
  DE X B (.Call (.Attribute o name apos) (e::es) [] cpos) (rf Ty r to t):=by
 refine bo (Gm pa slot hty hm ho ha hbase hfew hline hs hplain) ?_
 rintro σ H Q ⟨δ,M,QQ,s,h,u⟩
 refine ⟨δ,M,_,s,h,fun x M1 h1 v H1 rh1 i1 r1=>⟨vN rh1 r1 h1.1 hT,δ,M1,_,s.go rh1 i1,h1.2,fun ds M2 h2 vs H2 rh2 i2 r2=>?_⟩⟩;exact ⟨x,ds,M2,QQ,rh2,r1.mf rh1 i2,r2,h2,u.go (i1.trans i2)⟩
theorem C5{r:yq}(hT:Ty="list"\/Ty="str"\/Ty="int"\/Ty="dict")(pa:PlainAttrs Ty)(slot:Slot Ty name id)(hty:typeOf (.builtin id)=pure (.type "method_descriptor"))(hm:wk X id (liftM X r))(ho:DE X B o to)
  (hbase:attributeBase o name X.env (eval o X.env)=eval o X.env:=by rfl) (hline:(apos.endLine==cpos.line)=true:=by rfl):DE X B (.Call (.Attribute o name apos) [] [] cpos) (rf Ty r to dNil):=by
 refine bo (CJ pa slot hty hm ho hbase hline) ?_
 rintro σ H Q ⟨δ,M,QQ,s,h,u⟩
 refine ⟨δ,M,_,s,h,fun x M1 h1 v H1 rh1 i1 r1=>⟨vN rh1 r1 h1.1 hT,?_⟩⟩;exact ⟨x,[],M1,QQ,rh1,r1,.nil,h1.2,u.go i1⟩
def cH:yq:=fun x ds M Q=>match x,ds with
 |.ref a,[y]=>match M a with
  |some (.lst xs)=>xs.length<sizeLine/\Q .non (M.upd a (.lst (xs++[y])))
  |_=>False
 |_,_=>False
theorem cw:wk X "list.append" (liftM X cH):=by
 intro pins s σ H x vs v us Q I rx rv h;obtain ⟨d,ds,M,QQ,rh,r,rs,h,up⟩:=h;unfold cH at h
 split at h
 ·rename_i a y
  cases r;obtain ⟨w,rfl,rw'⟩:=gp (ds:=[]) rs
  split at h
  ·rename_i xs hM
   obtain ⟨ws,h1,h2⟩:=rh _ _ hM;have im:Imm H (upd H a (.lst (ws++[w]))):=Imm.upd (by rw [h1];trivial)
   exact uw pins s σ H _ _ v us Q I rx rv ⟨a,ws,w,rfl,rfl,h1,by rw [<- h2.length];exact h.1,up _ _ h.2 _ _ (rh.put (by rw [h1];trivial) ⟨_,upd_same,(h2.append (.cons rw' .nil)).mono im⟩) (Frm.put (.inr ⟨_,hM⟩)) rfl⟩
  ·exact h.elim
 ·exact h.elim
def wj:V->List V->Hp->VK->Prop:=fun x vs H Q=>∃l b xs zs,x=.ref l/\vs=[.ref b]/\H l=some (.lst xs)/\Rd H b (.lst zs)/\xs.length+zs.length<=sizeLine/\Q .non (upd H l (.lst (xs++zs)))
theorem qF:MtM X "list.extend" wj:=by
 intro pins s σ H x vs v us Q I rx rv h;obtain ⟨l,b,xs,zs,rfl,rfl,hH,hB,hz,q⟩:=h;cases rx;obtain ⟨u,rfl,ru⟩:=rv.one;cases ru;obtain ⟨z,its,n,r,hl,e⟩:=I.lstM hH;obtain ⟨z2,its2,n2,r2,e2⟩:=hB.ok I.hok;have hl2:=r2.length;have hsz:its.toArray.size+its2.toArray.size<=sizeLine:=by rw [GJ,GJ];lia
 have hlong:¬(!its.toArray.isEmpty&&IL (its.toArray.size+its2.toArray.size))=true:=by
  rw [ou hsz,Jd];exact GY
 refine call_meets LO ⟨_,e,rfl⟩ F.entry_list_extend (F.args_list_extend_2 _ _)
  (AutoSeq1.list_extend_list_list_0 l its.toArray n b its2.toArray n2 hlong (by rw [GJ];lia) (by lia)) ⟨e,e2,?_⟩
 refine ⟨.non,_,I.lset (its':=its++its2) hH e (by simp) (r.append r2) ?_,rfl,q⟩
 rw [GP];lia
def mj:yq:=fun x ds M Q=>match x,ds with
 |.ref a,[y]=>match M a,seqL M y with
  |some (.lst xs),some ys=>xs.length+ys.length<=sizeLine/\Q .non (M.upd a (.lst (xs++ys)))
  |_,_=>False
 |_,_=>False
theorem pP:wk X "list.extend" (liftM X mj):=by
 intro pins s σ H x vs v us Q I rx rv h;obtain ⟨d,ds,M,QQ,rh,r,rs,h,up⟩:=h;unfold mj at h
 split at h
 ·rename_i a y
  cases r;obtain ⟨w,rfl,rw'⟩:=gp (ds:=[]) rs
  split at h
  ·rename_i xs ys hM hy
   obtain ⟨ws,h1,h2⟩:=rh _ _ hM;obtain ⟨p,zs,rfl,hq,r2⟩:=gD rh rw' hy;have l1:=h2.length;have l2:=r2.length;have im:Imm H (upd H a (.lst (ws++zs))):=Imm.upd (by rw [h1];trivial)
   exact qF pins s σ H _ _ v us Q I rx rv ⟨a,p,ws,zs,rfl,rfl,h1,hq,by lia,up _ _ h.2 _ _ (rh.put (by rw [h1];trivial) ⟨_,upd_same,(h2.append r2).mono im⟩) (Frm.put (.inr ⟨_,hM⟩)) rfl⟩
  ·exact h.elim
 ·exact h.elim
def i9:List D->Option (List Str)
 |[]=>some []
 |.str x::ds=>match i9 ds with
  |some xs=>some (x::xs)
  |none=>none
 |_=>none
theorem pv:∀{ds:List D} {vs:List V} {xs:List Str},Rps K H ds vs->i9 ds=some xs->vs=xs.map V.str
 |[],vs,xs,r,e=>by cases e;exact r
 |d::ds,vs,xs,r,e=>by
  obtain ⟨v,r',rfl,a,b⟩:=r;cases d with
  |str c=>
   simp only [i9] at e
   split at e
   ·rename_i xs' e2
    cases e;cases a;rw [pv b e2];rfl
   ·cases e
  |_=>cases e
def lE:yq:=fun x ds M Q=>match x,ds with
 |.tup xs,[.str z]=>match i9 xs with
  |some names=>names.length<=1000/\match names.findIdx? (fun y=>decide (y=z)) with
   |some j=>Q (.int (j:Nat)) M
   |none=>False
  |none=>False
 |_,_=>False
theorem jE:wk X "tuple.index" (liftM X lE):=by
 intro pins s σ H x vs v us Q I rx rv h;obtain ⟨d,ds,M,QQ,rh,r,rs,h,up⟩:=h;unfold lE at h
 split at h
 ·rename_i xs z
  obtain ⟨p,ws,rfl,ht,r⟩:=r;obtain ⟨w,rfl,rw'⟩:=gp (ds:=[]) rs;cases rw'
  split at h
  ·rename_i names en
   obtain ⟨hl,h⟩:=h
   split at h
   ·rename_i j ej
    have:=pv r en;subst this;rw [List.findIdx?_eq_some_iff_getElem] at ej;obtain ⟨hj,e1,e2⟩:=ej;refine uK pins s σ H _ _ v us Q I rx rv ⟨p,names,z,j,rfl,rfl,ht,hl,?_,fun m hm=>?_,up _ M h _ H rh Frm.refl rfl⟩
    ·rw [GG hj];simpa using e1
    ·have:=e2 m hm
     rw [GG (by lia)]
     simpa using this
   ·exact h.elim
  ·exact h.elim
 ·exact h.elim
def dTM(r:yq)(to:bN)(t:gl):bN:=fun δ M Q=>to δ M fun x M1=>match x with
 |.tup xs=>t δ M1 fun ds M2=>r (.tup xs) ds M2 Q
 |_=>False
theorem Bn{r:yq}(slot:Slot "tuple" name id)(hty:typeOf (.builtin id)=pure (.type "method_descriptor"))(hm:wk X id (liftM X r))(ho:DE X B o to)(ha:DA X B (e::es) t)
  (hbase:attributeBase o name X.env (eval o X.env)=eval o X.env:=by rfl)
  (hfew:((backTo cpos (starEach (e::es) X.env)).all (fun x=>!x.1)&&(backToKw cpos (keywordEach [] X.env)).all (fun x=>x.1.isSome)
   && decide ((e::es).length+([]:List Keyword).length+(if ([]:List Keyword).isEmpty then 0 else 1)<30))=true:=by rfl)
  (hline:(apos.endLine==cpos.line)=true:=by rfl) (hs:starEach (e::es) X.env=(false,eval e X.env)::starEach es X.env:=by rfl) (hplain:(backTo cpos (starEach es X.env)).any (·.1)=false:=by rfl):
  DE X B (.Call (.Attribute o name apos) (e::es) [] cpos) (dTM r to t):=by
 refine bo (Gj slot hty hm ho ha hbase hfew hline hs hplain) ?_
 rintro σ H Q ⟨δ,M,QQ,s,h,u⟩
 refine ⟨δ,M,_,s,h,fun x M1 h1 v H1 rh1 i1 r1=>?_⟩;cases x with
 |tup xs=>
  have r1':=r1;obtain ⟨p,vs,rfl,ht,rr⟩:=r1';refine ⟨⟨p,vs,rfl,ht⟩,δ,M1,_,s.go rh1 i1,h1,fun ds M2 h2 vs H2 rh2 i2 r2=>?_⟩;exact ⟨_,ds,M2,QQ,rh2,r1.mf rh1 i2,r2,h2,u.go (i1.trans i2)⟩
 |_=>exact (show False from h1).elim
def sS:bN:=fun _ M Q=>∀p,M p=none->Q (.ref p) (M.upd p (.dT []))
theorem tG{pos:Pos}:DE X B (.Dict [] [] pos) sS:=by
 refine bo vE ?_
 rintro σ H Q ⟨δ,M,QQ,s,h,u⟩ p hp
 exact u _ _ (h p (s.rh.fresh hp)) _ _ (s.rh.put (by rw [hp];trivial) ⟨[],upd_same,.nil⟩) (Frm.put (.inl hp)) rfl
def eY(ks:List aP)(ys:List D):List (aP×D):=(ks.zip ys).foldl (fun a p=>cX a p.1 p.2) []
theorem kg:∀{ks:List aP} {ds:List D} {vs:List V} {a:List (aP×D)} {b:List (aP×V)},Rps K H ds vs->Rkv K H a b->
  Rkv K H ((ks.zip ds).foldl (fun a p=>cX a p.1 p.2) a) ((ks.zip vs).foldl (fun a p=>cM a p.1 p.2) b)
 |[],_,_,_,_,_,r=>r
 |_::_,[],_,_,_,h,r=>by cases h;exact r
 |k::ks,d::ds,_,_,_,h,r=>by
  obtain ⟨v,vs,rfl,a,b⟩:=h;exact kg (ks:=ks) b (r.put k a)
def gC(t:gl):bN:=fun δ M Q=>t δ M fun ds M1=>match ds with
 |[.tup xs,.tup ys]=>match eN xs with
  |some ks=>ks.length=ys.length/\0<ks.length/\ks.length<=1000/\∀p,M1 p=none->Q (.ref p) (M1.upd p (.dK (eY ks ys)))
  |none=>False
 |_=>False
theorem jC{a b:Expr}{ta:gl}{p p2 pos pos2:Pos}(hc:X.calm=true)(hg:Gl X "zip")(hm:X.mg "zip"=none)(hg2:Gl X "dict")(hm2:X.mg "dict"=none)(ha:DA X B [a,b] ta)
  (hs:starEach [a,b] X.env=[(false,eval a X.env),(false,eval b X.env)]:=by rfl) (hs2:starEach [b] X.env=[(false,eval b X.env)]:=by rfl)
  (hs3:starEach [Lw (.Name "zip" p2) [a,b] [] pos2] X.env=[(false,eval (.Call (.Name "zip" p2) [a,b] [] pos2) X.env)]:=by rfl):
  DE X B (.Call (.Name "dict" p) [.Call (.Name "zip" p2) [a,b] [] pos2] [] pos) (gC ta):=by
 refine bo (r8 false false hc hg hm hg2 hm2 ha hs hs2 hs3) ?_
 rintro σ H Q ⟨δ,M,QQ,s,h,u⟩
 refine ⟨δ,M,_,s,h,fun ds M1 h1 vs H1 rh1 i1 r1=>?_⟩
 split at h1
 ·obtain ⟨v,w,rfl,rv,rw'⟩:=zO r1
  obtain ⟨l1,us,rfl,t1,ru⟩:=rv;obtain ⟨l2,ws,rfl,t2,rw2⟩:=rw'
  split at h1
  ·rename_i ks ek
   obtain ⟨e1,e2,e3,h1⟩:=h1;have hk:=jO ru ek;subst hk;refine ⟨l1,l2,ks,ws,rfl,t1.sq,t2.sq,by rw [<- rw2.length];exact e1,e2,e3,fun d hd=>?_⟩
   have im:Imm H1 (upd H1 d (.dK ((ks.zip ws).foldl (fun a p=>cM a p.1 p.2) []))):=Imm.new hd;exact u _ _ (h1 d (rh1.fresh hd)) _ _ (rh1.put (by rw [hd];trivial) ⟨_,upd_same,(kg rw2 .nil).mono im⟩) (i1.trans (Frm.put (.inl hd))) rfl
  ·exact h1.elim
 ·exact h1.elim
end
section
variable {P:Program}{w:World}{K:GH}{mg:Str->Option Value}{base:Heap}{N:List Str}{qual:Str}{scope:Scope}{f C:Addr}{cd:Value}{A:Around}{outer:List Env}{s0:Shared}{H0:Hp}{E:XK}{B:Bd}
theorem yZ{X:Cx}{st:Stmt}{t:TS}{E':Value->Shared->Prop}(h:PS X st t)(k:∀e s,X.xe e s->E' e s):PS (X.wish E') st t:=fun pins s σ H D I q=>
 wpAny_mono (h pins s σ H D (I.unwish) q) (fun f s' z=>by
  cases f with
  |next=>obtain ⟨σ',H',I,q⟩:=z;exact ⟨σ',H',I.wish _,q⟩
  |brk=>obtain ⟨σ',H',I,q⟩:=z;exact ⟨σ',H',I.wish _,q⟩
  |cont=>obtain ⟨σ',H',I,q⟩:=z;exact ⟨σ',H',I.wish _,q⟩
  |ret u=>obtain ⟨v,σ',H',I,r,q⟩:=z;exact ⟨v,σ',H',I.wish _,r,q⟩) k
def n4(C:Addr)(EE:DX):aG:=fun _ _ M=>EE C M
theorem jt{x msg:Str}{np cpos pos apos:Pos}{jj}{EE:DX}(X:ExcAt K C)(hm:mg x=some (.ref C))(ux:Ea K B EE E)(hg:Gl (eI (bM P w) P w K mg base N qual scope f cd A outer s0 H0 E) x)
  (hd:(x==("__debug__":Str))=false:=by decide)
  (hs:starEach [.Constant (.str msg) jj apos] (eI (bM P w) P w K mg base N qual scope f cd A outer s0 H0 E).env=[(false,eval (.Constant (.str msg) jj apos) (eI (bM P w) P w K mg base N qual scope f cd A outer s0 H0 E).env)]:=by rfl):
  DS (eI (bM P w) P w K mg base N qual scope f cd A outer s0 H0 E) B (.Raise (some (.Call (.Name x np) [.Constant (.str msg) jj apos] [] cpos)) none pos) (n4 C EE):=by
 have h1:PS (eI (pJ P w C) P w K mg base N qual scope f cd A outer s0 H0 E) (.Raise (some (.Call (.Name x np) [.Constant (.str msg) jj apos] [] cpos)) none pos) (qV E C):=vR X hm hg hd hs;have h2:PS (eI (bM P w) P w K mg base N qual scope f cd A outer s0 H0 E) (.Raise (some (.Call (.Name x np) [.Constant (.str msg) jj apos] [] cpos)) none pos) (qV E C):=
  yZ h1 fun e s h=>wpAny_mono h (fun _ _ z=>⟨C,z⟩) fun _ _ z=>⟨C,z⟩
 refine cu h2 ?_
 rintro D σ H ⟨δ,M,DD,s,h,up⟩
 exact ux C M h H s.rh s.i0
end
section
variable {X:Cx}{B:Bd}
def Fm(C:Addr)(T:Sd)(n:Nat)(ta:gl)(ts:aG):aG:=fun D δ M=>ta δ M fun ds M1=>ds.length=n/\calls T (fun C' M2=>C'=C/\ts D δ M2) ds M1 (fun _ M2=>D.nx δ M2) ⟨⟩
theorem SR.mark{δ:Dl}{M:Mem}{σ:L2.St}{H:Hp}{e:Value}(s:SR X B δ M σ H):SR (X.marked e) B δ M σ H:=⟨s.i0,s.rh,s.rs⟩
theorem SR.unmark{δ:Dl}{M:Mem}{σ:L2.St}{H:Hp}{e:Value}(s:SR (X.marked e) B δ M σ H):SR X B δ M σ H:=⟨s.i0,s.rh,s.rs⟩
theorem UpD.mark{M:Mem}{H:Hp}{DD:DEnds}{D:Ends}{e:Value}(u:UpD X B M H DD D):UpD (X.marked e) B M H DD D:=
 ⟨fun δ M q σ H' f s=>u.nx δ M q σ H' f s.unmark,u.rt,fun δ M q σ H' f s=>u.bk δ M q σ H' f s.unmark,fun δ M q σ H' f s=>u.ct δ M q σ H' f s.unmark⟩
theorem AG{P:Program}{w:World}{K:GH}{mg:Str->Option Value}{base:Heap}{k:Nat}{f C:Addr}{fd:FuncData}{ps:List Str}{sp:Sp}(F:FnOk P w K mg base (bM P w) k f fd ps sp):
  FnOk P w K mg base (pJ P w C) k f fd ps (fun vs H Q E=>sp vs H Q fun Cv a H'=>Cv=.ref C/\E Cv a H'):=
 ⟨fun vs H Q E h=>F.len _ _ _ _ h,fun A outer s H args us vs Q E hr he hb hv hs=>codeAny_mono (F.run A outer s H args us vs Q _ hr he hb hv hs) fun r s' h=>by
  cases r with
  |ok fl=>cases fl<;>exact h
  |error e=>
   obtain ⟨C',ea,H',B,a0,e1,e2,e3,e4,e5,e6,e7,e8,e9,e10⟩:=h;have eC:C'=C:=by injection e9
   subst eC;exact ⟨ea,H',B,a0,e1,e2,e3,e4,e5,e6,e7,e8,e10⟩⟩
theorem qY{C f:Addr}{k n:Nat}{fd:FuncData}{ps:List Str}{T:Sd}{x cx:Str}{p cp ep np hpos pos:Pos}{e:Expr}{es:List Expr}{ta:gl}{b₀:Stmt}{suite:List Stmt}{ts:aG}
  (hst:X.stack=X.env::X.outer) (hfL:X.env.frame=some X.env.locals) (F:FnOk X.prog X.w X.K X.mg X.base (bM X.prog X.w) k f fd ps (ay X.K n T)) (hr:Room k X.A) (hg:Gl X x) (hm:X.mg x=some (.ref f)) (hk:GV X.K (.ref f)=true) (hb:Binds X.K fd ps [])
  (ha:DA X.nox B (e::es) ta) (EX:ExcAt X.K C) (hgC:Gl X cx) (hmC:X.mg cx=some (.ref C)) (hsu:∀ea:Addr,yu (X.marked (.ref ea)) B (b₀::suite) ts)
  (hdb:(x==("__debug__":Str))=false:=by decide) (hdC:(cx==("__debug__":Str))=false:=by decide) (he:starEach (e::es) X.env=(false,eval e X.env)::starEach es X.env:=by rfl) (hpl:(backTo cp (starEach es X.env)).any (·.1)=false:=by rfl)
  (hsw:swapsWith (.Call (.Name x p) (e::es) [] cp) none ep.line X.env=pure false:=by rfl):
  DS X B (.Try [.Expr (.Call (.Name x p) (e::es) [] cp) ep] [.ExceptHandler (some (.Name cx np)) none (b₀::suite) hpos] [] [] pos) (Fm C T n ta ts):=by
 have hsu':∀ea:Addr,rm (X.marked (.ref ea)) (b₀::suite) (liftS X B ts):=fun ea=>k9 (hsu ea) fun D σ H ⟨δ,M,DD,s,h,u⟩=>⟨δ,M,DD,s.mark,h,u.mark⟩;refine cu (pU (C:=C) hst hfL (AG F) hr hg hm hk hb .nil ha EX hgC hmC hsu' hdb hdC he hpl hsw) ?_
 rintro D σ H ⟨δ,M,DD,s,h,up⟩
 refine ⟨δ,M,_,⟨s.i0,s.rh,s.rs⟩,h,fun ds M1 h1 vs H1 rh1 i1 r1=>?_⟩
 try dsimp only
 rw [HD];refine eR h1.2 rh1 r1 (by rw [<- r1.length];exact h1.1) (fun d M2 h2 v H2 rh2 i2 r2=>?_) fun C' M2 h2 H2 rh2 i2=>?_
 ·exact up.nx _ _ h2 σ H2 (i1.trans i2) (s.go rh2 (i1.trans i2))
 ·obtain ⟨rfl,h2⟩:=h2
  exact ⟨rfl,δ,M2,DD,s.go rh2 (i1.trans i2),h2,up.go (i1.trans i2)⟩
end
end L3
namespace L2
open PySem PySem.Spec PyProof.Rows
theorem cG{scope:Scope}{env:Env}{x:Str}{k:NameKind}(h:(relabel scope env).names.lookup x=some k):∃k',(x,k')∈scope.names/\(k=k'\/(k'=.free/\k=.cell)):=by
 have hm:=Ij h;obtain ⟨⟨n,kk⟩,h1,h2⟩:=Hc.mp hm
 by_cases hc:(kk==NameKind.free&&env.scope.kind==.function&&env.kindOf n==some .cell)=true
 ·have h2':(n,NameKind.cell)=(x,k):=by rw [<- h2];show _=(if _ then _ else _);rw [if_pos hc]
  cases h2';have hf:kk=.free:=by
   simp only [HP] at hc;exact beq_iff_eq.mp hc.1.1
  exact ⟨kk,h1,.inr ⟨hf,rfl⟩⟩
 ·have h2':(n,kk)=(x,k):=by rw [<- h2];show _=(if _ then _ else _);rw [if_neg hc]
  cases h2';exact ⟨_,h1,.inl rfl⟩
theorem iw{x:Str}:∀{fs:List Str} {cs:List Addr},fs.length=cs.length->x∈fs->∃c,(fs.zip cs).lookup x=some c
 |[],_,_,h=>by cases h
 |_::_,[],h,_=>by simp at h
 |y::fs,c::cs,hl,h=>by
  rw [Jr,Kz];cases e:x==y with
  |true=>exact ⟨c,rfl⟩
  |false=>
   have ne:¬x=y:=fun z=>by rw [z] at e;simp at e
   rcases Hq.mp h with z|z
   ·exact absurd z ne
   ·exact iw (by simpa using hl) z
theorem yQ{X:Cx}{scope:Scope}{ls:List Str}(hk:scope.kind=.function)(hn:∀y∈scope.names,y.2≠.cell/\y.2≠.free)(hl:∀x∈scope.names,x.2=.local->scope.names.lookup x.1=some .local):CompOk X scope [] ls [] [] where
 kind:=hk
 nocell:=fun y hy=>(hn y hy).1
 locs:=hl
 clos:=closureFor_none fun x hx=>(hn x hx).2
 cells:=fun x c h=>by cases h
 has:=fun x h=>by
  rcases h with h|h
  ·obtain ⟨k',h1,h2|⟨h2,_⟩⟩:=cG h
   ·exact absurd h2.symm (hn _ h1).1
   ·exact absurd h2 (hn _ h1).2
  ·obtain ⟨k',h1,h2|⟨h2,_⟩⟩:=cG h
   ·exact absurd h2.symm (hn _ h1).2
   ·exact absurd h2 (hn _ h1).2
 frees:=.nil
theorem cD{X:Cx}{scope:Scope}{ls fs:List Str}{cs:List Addr}{js:List Nat}(hk:scope.kind=.function)(hn:∀y∈scope.names,y.2≠.cell/\(y.2=.free->y.1∈fs))(hl:∀x∈scope.names,x.2=.local->scope.names.lookup x.1=some .local)
  (hlen:fs.length=cs.length) (hcl:closureFor scope X.env=pure (fs.zip cs)) (hc:∀p∈fs.zip cs,X.env.cells.lookup p.1=some p.2) (hf:Frees X scope fs js):CompOk X scope (fs.zip cs) ls fs js where
 kind:=hk
 nocell:=fun y hy=>(hn y hy).1
 locs:=hl
 clos:=hcl
 cells:=fun y d h=>hc (y,d) (Ij h)
 has:=fun y h=>by
  have hy:y∈fs:=by
   rcases h with h|h
   ·obtain ⟨k',h1,h2|⟨h2,_⟩⟩:=cG h
    ·exact absurd h2.symm (hn _ h1).1
    ·exact (hn _ h1).2 h2
   ·obtain ⟨k',h1,h2|⟨h2,_⟩⟩:=cG h
    ·exact (hn _ h1).2 h2.symm
    ·exact (hn _ h1).2 h2
  exact iw hlen hy
 frees:=hf
theorem jy{α:Type}{C:α->Prop}:∀p∈([]:List α),C p:=fun _ h=>by cases h
theorem eF{α:Type}{C:α->Prop}{a:α}{l:List α}(ha:C a)(hl:∀p∈l,C p):∀p∈a::l,C p:=fun p hp=>by
 rcases Hq.mp hp with rfl|z
 ·exact ha
 ·exact hl p z
end L2
namespace L3
open PySem L2
section
variable {X:Cx}{B:Bd}{pos:Pos}
theorem am(i:Nat){x:Str}{pos:Pos}(hN:X.N[i]?=some x:=by rfl)(hv:EH X.env.scope x:=by first|exact Or.inl rfl|exact Or.inr (Or.inl rfl)|exact Or.inr (Or.inr rfl))(hd:(x==("__debug__":Str))=false:=by decide)
  (hcd:(x==("__classdict__":Str))=false:=by decide):DE X B (.Name x pos) (aa i):=DN hN hv hd hcd
def ni:DX:=fun _ _=>False
theorem BA{K:GH}{E:XK}:Ea K B ni E:=fun _ _ z=>z.elim
theorem bt_list':bootBuiltins "list"=some (.type "list"):=by decide +kernel
theorem aW:bootBuiltins "tuple"=some (.type "tuple"):=by decide +kernel
theorem cc:bootBuiltins "isinstance"=some (.builtin "isinstance"):=by decide +kernel
theorem fE:bootBuiltins "int"=some (.type "int"):=by decide +kernel
theorem y_:bootBuiltins "str"=some (.type "str"):=by decide +kernel
theorem sV:bootBuiltins "min"=some (.builtin "min"):=by decide +kernel
theorem a_:bootBuiltins "len"=some (.builtin "len"):=by decide +kernel
theorem pF{x:Str}{T:String}(hg:Gl X x)(hm:X.mg x=none)(hv:bootBuiltins x=some (.type T))(hn:x≠"__name__":=by decide)(hd:(x==("__debug__":Str))=false:=by decide):DE X B (.Name x pos) (dC (.ty T)):=
 vB (yA (v:=.ty T) hg hm hv rfl hn hd) fun _=>rfl
def frzs:List D->Mem->(List D->Mem->Prop)->Prop
 |[],M,Q=>Q [] M
 |d::ds,M,Q=>match d with
  |.ref a=>match M a with
   |some (.lst xs)=>frzs ds (M.del a) fun es M'=>Q (.lst xs::es) M'
   |_=>frzs ds M fun es M'=>Q (d::es) M'
  |_=>frzs ds M fun es M'=>Q (d::es) M'
theorem gu{pins:List (Addr×Obj)}{σ:L2.St}{s:Shared}:∀{ds:List D} {vs:List V} {M:Mem} {H:Hp} {Q:List D->Mem->Prop},Inv X pins σ H s->RepH X.K H M->Rps X.K H ds vs->frzs ds M Q->
  ∃H' es M',Inv X pins σ H' s/\RepH X.K H' M'/\Frm M H M' H'/\Rps X.K H' es vs/\Q es M'
 |[],vs,M,H,Q,I,rh,r,h=>⟨H,[],M,I,rh,Frm.refl,r,h⟩
 |d::ds,vs,M,H,Q,I,rh,r,h=>by
  obtain ⟨v,vs',rfl,a,b⟩:=r;unfold frzs at h
  split at h
  ·rename_i a'
   cases a
   split at h
   ·rename_i xs e
    obtain ⟨ws,h1,h2⟩:=rh _ _ e;obtain ⟨o,I2⟩:=Inv.freeze I h1;have im:Imm H (upd H a' (.frz o (.lst ws))):=Imm.upd (by rw [h1];trivial)
    obtain ⟨H',es,M',I',rh',f,r',q⟩:=gu I2 (rh.freeze h1) (b.mono im) h;refine ⟨H',_,M',I',rh',(Frm.del ⟨_,e⟩).trans f,.cons ?_ r',q⟩;have z:Rp X.K (upd H a' (.frz o (.lst ws))) (.lst xs) (.ref a'):=⟨a',ws,rfl,⟨o,upd_same⟩,h2.mono im⟩;exact z.mf (rh.freeze h1) f
   ·obtain ⟨H',es,M',I',rh',f,r',q⟩:=gu I rh b h
    exact ⟨H',_,M',I',rh',f,.cons (d:=.ref a') rfl r',q⟩
  ·obtain ⟨H',es,M',I',rh',f,r',q⟩:=gu I rh b h
   exact ⟨H',_,M',I',rh',f,.cons (a.mf rh f) r',q⟩
def frzT(d:D)(M:Mem)(Q:DK):Prop:=match d with
 |.tup ds=>frzs ds M fun es M'=>Q (.tup es) M'
 |d=>Q d M
def Bm(t:bN):bN:=fun δ M Q=>t δ M fun d M'=>frzT d M' Q
theorem Au{e:Expr}{te:bN}(h:DE X B e te):DE X B e (Bm te):=by
 intro pins s σ H Q I hq;obtain ⟨δ,M,QQ,sr,hT,u⟩:=hq;refine thn (h pins s σ H (fun v H'=>∃d M',RepH X.K H' M'/\Frm M H M' H'/\Rp X.K H' d v/\frzT d M' QQ) I ⟨δ,M,_,sr,hT,fun d M' q v H' rh i r=>⟨d,M',rh,i,r,q⟩⟩) ?_
 rintro w s' ⟨v,H',I',rv,d,M',rh,i,r,q⟩
 unfold frzT at q
 split at q
 ·obtain ⟨p,vs,rfl,ht,r⟩:=r
  obtain ⟨H2,es,M2,I2,rh2,f2,r2,q2⟩:=gu I' rh r q;exact ⟨.ref p,H2,I2,rv,u _ _ q2 _ H2 rh2 (i.trans f2) ⟨p,vs,rfl,ht.mono (f2.imm rh),r2⟩⟩
 ·exact ⟨v,H',I',rv,u _ _ q v H' rh i r⟩
theorem Co{P:Program}{w:World}{K:GH}{mg:Str->Option Value}{base:Heap}{k n:Nat}{f:Addr}{fd:FuncData}{ps:List Str}{T:Sd}(F:FnOk P w K mg base (bM P w) k f fd ps (ay K n T)):
  FnOk P w K mg base CX0 k f fd ps (fun vs H Q _=>ay K n T vs H Q E0):=
 ⟨fun vs H Q E h=>F.len _ _ _ _ h,fun A outer s H args us vs Q E hr he hb hv hs=>codeAny_mono (F.run A outer s H args us vs Q E0 hr he hb hv hs) fun r s' h=>by
  cases r with
  |ok fl=>cases fl<;>exact h
  |error e=>
   obtain ⟨C',ea,H',B,a0,e1,e2,e3,e4,e5,e6,e7,e8,e9⟩:=h;exact (show False from e9).elim⟩
theorem Aj{K:GH}{T:Sd}{H:Hp}{a:Addr}{ns:List Int}{Q:VK}(hO:x_ H)(hS:SqL K H a (ns.map V.int))(h:T [.ml (ns.map D.int)] (fun _=>none) (fun d _=>d=.bl true) ni)(k:∀H',Q (.bl true) H'):ay K 1 T [.ref a] H Q E0:=by
 refine ⟨rfl,[.ml (ns.map D.int)],fun _=>none,_,_,fun b o e=>(by cases e),.cons ⟨a,_,rfl,?_,pH rfl⟩ .nil,h,fun d M' q v H' rh f r=>?_,fun _ _ z=>z.elim⟩
 ·rcases hS with (z|z)|z
  ·rcases hO a with e|⟨o,xs,e⟩
   ·rw [e] at z;cases z
   ·rw [e] at z;cases z
  ·exact .inl z
  ·exact .inr z
 ·subst q;cases r;exact k H'
end
theorem iF{K:GH}{h h':Heap}{N:Addr}(X:K.In h)(X':K.In h')(e:W.nsOkIn K N=true):h'.nsMap N=h.nsMap N:=by
 unfold W.nsOkIn at e
 split at e
 ·rename_i ho
  funext x;unfold Heap.nsMap;rw [X _ _ ho,X' _ _ ho]
 ·cases e
theorem jY{K:GH}{h:Heap}{C:Addr}(X:K.In h)(q:W.excIn K C [.type "ValueError",.type "Exception",.type "BaseException",.type "object"] "ValueError.__new__"=true):ExcAt K C:=by
 unfold W.excIn at q
 split at q
 ·rename_i dd cd sl ho
  split at q
  ·rename_i C' bm k0 k1 k2 k3 n k5 hm hs
   simp only [HP,beq_iff_eq,Bool.not_eq_true'] at q;obtain ⟨⟨⟨⟨⟨rfl,rfl⟩,hdel⟩,ht⟩,hok⟩,hni⟩:=q;obtain ⟨nm,bs,mro,ns,qn,hd,sn,sub,ab,col,del⟩:=cd;dsimp only at hm hdel hok hni;subst hm hdel;have hsl:sl=#[k0,k1,k2,k3,some (.builtin "ValueError.__new__"),k5]:=by
    obtain ⟨l⟩:=sl;simp only at hs;rw [hs]
   subst hsl;refine ⟨⟨nm,qn,ns,bs,bm,_,hd,sn,sub,ab,col,dd,k0,k1,k2,k3,k5,"ValueError.__new__","ValueError.__init__","ValueError",h.nsMap ns,fun h' X'=>⟨X' _ _ ho,?_,W.tail_of_in X' ht⟩,W.nsMap_none_of_in X hok hni,PySem.F.excBase_ValueError,by decide,(W.tail_of_in X ht).hasType (by decide)⟩⟩
   rw [<- iF X X' hok];exact .of_isNs (W.isNs_of_in X' hok)
  ·cases q
 ·cases q
end L3
namespace L2
open PySem
end L2
namespace L3
open PySem L2
def wx:Expr->Bool
 |.Starred ..=>false
 |_=>true
theorem uy{e:Expr}{es:List Expr}{env:Env}(h:wx e=true):starEach (e::es) env=(false,eval e env)::starEach es env:=by
 cases e<;>first|rfl|exact Bool.noConfusion h
section
variable {X:Cx}{B:Bd}
theorem fR{e:Expr}{es:List Expr}{te:bN}{t:gl}(ha:DE X B e te)(hr:DA X B es t)(hp:wx e=true:=by rfl):DA X B (e::es) (a9 te t):=a8 ha hr (uy hp)
def kx:sh:=fun ds M Q=>match ds with
 |[.bl b]=>Q (.int (if b=true then 1 else 0)) M
 |_=>False
theorem dq:cA X (.type "int") (liftC X kx):=by
 intro pins s σ H xs us Q I r h;obtain ⟨ds,M,QQ,rh,rp,h,up⟩:=h;unfold kx at h
 split at h
 ·rename_i b
  obtain ⟨v,rfl,rv⟩:=gp (ds:=[]) rp;cases rv;obtain ⟨u,rfl,ru⟩:=gn r;cases ru;exact call_int_bool ⟨.int _,H,I.tok _,⟨_,rfl⟩,up _ M h _ H rh Frm.refl rfl⟩
 ·exact h.elim
end
end L3
namespace L3
open PySem L2
section
variable {X:Cx}{B:Bd}
end
end L3
namespace L3
open PySem L2
section
variable {X:Cx}{B:Bd}
def wn(n:Nat)(t:kC):jh:=fun d δ M Q=>match d with
 |.lst xs=>xs.length=n/\t xs δ M Q
 |.ref a=>match M a with
  |some (.lst xs)=>xs.length=n/\t xs δ M Q
  |_=>False
 |_=>False
theorem qX{es:List Expr}{k:Nat}{t:kC}{n:Nat}{pos:Pos}(hc:X.calm=true)(h:Fo X B es t)
  (hn:(assignEach es X.env).length=n:=by rfl) (hst:(assignEach es X.env).findIdx? (·.1)=none:=by rfl):DG X B (.Tuple es k pos) (wn n t):=by
 intro pins s σ H v u Q I r hw;obtain ⟨d,δ,M,QQ,sr,rv,hd,up⟩:=hw;cases d with
 |lst xs=>
  obtain ⟨p,vs,rfl,ht,rr⟩:=rv;obtain ⟨hl,hd⟩:=hd;cases r;obtain ⟨its,rvv,pl,hz⟩:=I.list ht.sq;have hsz:(assignEach es X.env).length=its.toArray.size:=by have:=rvv.length;have:=rr.length;simp [hn];lia
  rw [Kk];refine wpAny_bind (wpAny_standAt ?_);unfold unpack;rw [hsz,hst];refine wpAny_bind (wpAny_holding (W.kun_itemsOf (I.ok.hd hc) pl.isList fun h' hx=>?_));have I1:Inv X pins σ H { s with heap:=h' }:=I.kept (t':=s.toks) fun b o e=>hx b o (GW (GL e)) e;exact h pins _ σ H vs _ Q I1 (by simpa using rvv) ⟨xs,δ,M,QQ,sr,rr,hd,up⟩
 |ref p=>
  cases rv;simp only [wn] at hd
  split at hd
  ·rename_i xs e
   obtain ⟨vs,h1,rr⟩:=sr.rh _ _ e;obtain ⟨hl,hd⟩:=hd;cases r;obtain ⟨its,rvv,pl,hz⟩:=I.list (gj h1);have hsz:(assignEach es X.env).length=its.toArray.size:=by have:=rvv.length;have:=rr.length;simp [hn];lia
   rw [Kk];refine wpAny_bind (wpAny_standAt ?_);unfold unpack;rw [hsz,hst];refine wpAny_bind (wpAny_holding (W.kun_itemsOf (I.ok.hd hc) pl.isList fun h' hx=>?_));have I1:Inv X pins σ H { s with heap:=h' }:=I.kept (t':=s.toks) fun b o e=>hx b o (GW (GL e)) e;exact h pins _ σ H vs _ Q I1 (by simpa using rvv) ⟨xs,δ,M,QQ,sr,rr,hd,up⟩
  ·exact hd.elim
 |_=>exact (show False from hd).elim
end
end L3
namespace L3
open PySem L2
mutual
def dM:D->PyData
 |.non=>.none
 |.bl b=>.bool b
 |.int i=>.int i
 |.str x=>.str x
 |.tup xs=>.tuple (fq xs)
 |.lst xs=>.list (fq xs)
 |_=>.none
def fq:List D->List PyData
 |[]=>[]
 |x::xs=>dM x::fq xs
end
mutual
theorem jN:∀d:D,(dM d).hasDict=false
 |.non=>by simp only [dM,HY]
 |.bl _=>by simp only [dM,HY]
 |.int _=>by simp only [dM,HY]
 |.str _=>by simp only [dM,HY]
 |.tup xs=>by simp only [dM,HY];exact lR xs
 |.lst xs=>by simp only [dM,HY];exact lR xs
 |.ty _=>by simp only [dM,HY]
 |.ref _=>by simp only [dM,HY]
 |.mt _=>by simp only [dM,HY]
 |.ml _=>by simp only [dM,HY]
theorem lR:∀xs:List D,Ke (fq xs)=false
 |[]=>by simp only [fq,Ke]
 |x::xs=>by simp only [fq,Ke,jN x,lR xs,Bool.or_self]
end
mutual
theorem jP:∀(n:Nat) (d:D),cj n d=true->(dM d).depth<=n
 |_,.non,_=>by simp [dM,Jj]
 |_,.bl _,_=>by simp [dM,Jj]
 |_,.int _,_=>by simp [dM,Jj]
 |_,.str _,_=>by simp [dM,Jj]
 |n+1,.tup xs,f=>by have:=hW n xs f;simp only [dM,Jj];lia
 |n+1,.lst xs,f=>by have:=hW n xs f;simp only [dM,Jj];lia
 |0,.tup _,f=>by simp [cj] at f
 |0,.lst _,f=>by simp [cj] at f
 |_,.ty _,f=>by simp [cj] at f
 |_,.ref _,f=>by simp [cj] at f
 |_,.mt _,f=>by simp [cj] at f
 |_,.ml _,f=>by simp [cj] at f
theorem hW:∀(n:Nat) (xs:List D),dI n xs=true->Kv (fq xs)<=n
 |_,[],_=>by simp [fq,Kv]
 |n,x::xs,f=>by
  rw [dI,HP] at f;have:=jP n x f.1;have:=hW n xs f.2;simp only [fq,Kv];lia
end
mutual
theorem jZ{h:Heap}:∀(d:D) (u:Value),Hr h d u->∃as,Reads h u (dM d) as
 |.non,u,q=>by cases q;exact ⟨_,.none⟩
 |.bl _,u,q=>by cases q;exact ⟨_,.bool _⟩
 |.int _,u,q=>by obtain ⟨t,rfl⟩:=q;exact ⟨_,.int _ _⟩
 |.str _,u,q=>by obtain ⟨t,rfl⟩:=q;exact ⟨_,.str _ _⟩
 |.tup xs,u,q=>by
  obtain ⟨p,its,rfl,⟨o,h1,h2,n,h3⟩,r⟩:=q;obtain ⟨as,ra⟩:=ii xs its r;exact ⟨_,.tuple h1 h2 h3 ra⟩
 |.lst xs,u,q=>by
  obtain ⟨p,its,rfl,⟨o,h1,h2,n,h3⟩,r⟩:=q;obtain ⟨as,ra⟩:=ii xs its r;exact ⟨_,.list h1 h2 h3 ra⟩
 |.ty _,_,q=>q.elim
 |.ref _,_,q=>q.elim
 |.mt _,_,q=>q.elim
 |.ml _,_,q=>q.elim
theorem ii{h:Heap}:∀(xs:List D) (us:List Value),Hrs h xs us->∃as,ReadsAll h us (fq xs) as
 |[],_,q=>by cases q;exact ⟨_,.nil⟩
 |x::xs,_,q=>by
  obtain ⟨u,r,rfl,a,b⟩:=q;obtain ⟨a1,r1⟩:=jZ x u a;obtain ⟨a2,r2⟩:=ii xs r b;exact ⟨_,.cons r1 r2⟩
end
section
variable {X:Cx}{B:Bd}
end
theorem gm:bootBuiltins "repr"=some (.builtin "repr"):=by decide +kernel
end L3
namespace LS
open PySem
end LS
namespace LS
open PySem
section
variable {prog:Program}{w:World}{K:Type}[DecidableEq K]{A:Around}{E:Value->Shared->Prop}{s:Shared}
variable {knd:KeyKind prog w K}
end
end LS
namespace LS
open PySem
section
variable {prog:Program}{w:World}{K:Type}[DecidableEq K]{A:Around}{E:Value->Shared->Prop}{s:Shared}{knd:KeyKind prog w K}
end
end LS
namespace LS
open PySem
section
variable {M:Model}{A:Around}{E:Value->Shared->Prop}
end
end LS
namespace LS
open PySem
section
variable {prog:Program}{w:World}{A:Around}{E:Value->Shared->Prop}{s:Shared}{I a:Addr}{f:Value}{i n ep:Nat}{es:Array (Int×Value)}{t:SetTable}
end
end LS
namespace LS
open PySem
section
variable {prog:Program}{w:World}{A:Around}{E:Value->Shared->Prop}{s:Shared}{I a:Addr}{ep:Nat}{es:Array (Int×Value)}{t:SetTable}
end
end LS
namespace LS
open PySem PySem.W PySem.Calls PyProof.Rows PyProof.V PySem.Spec
section
variable {prog:Program}{w:World}{A:Around}{E:Value->Shared->Prop}{s:Shared}{a:Addr}{ep:Nat}{es:Array (Int×Value)}{t:SetTable}
end
end LS
namespace LS
open PySem
section
variable {prog:Program}{w:World}{A:Around}{E:Value->Shared->Prop}{s:Shared}{a:Addr}
end
end LS
namespace LS
open PySem
section
variable {K:Type}[DecidableEq K](o:Ord K)
end
end LS
namespace L3
open PySem L2 LS
section
variable {X:Cx}{B:Bd}
end
end L3
namespace LS
open PySem
section
variable {prog:Program}{w:World}{A:Around}{E:Value->Shared->Prop}{s:Shared}{a:Addr}
end
end LS
namespace L3
open PySem L2 LS
def Cn:List D->Option (List Int)
 |[]=>some []
 |.int i::ds=>match Cn ds with
  |some is=>some (i::is)
  |none=>none
 |_=>none
section
variable {X:Cx}{B:Bd}
end
end L3
namespace L2
open PySem
section
variable {X:Cx}
end
end L2
namespace L3
open PySem L2 LS
section
variable {X:Cx}{B:Bd}
theorem u5:bootBuiltins "range"=some (.type "range"):=by decide +kernel
def gr(t:gl):bN:=fun δ M Q=>t δ M fun ds M1=>match ds with
 |[.int j]=>(-(2 ^ 62)<=j/\j<=1000)/\∀p,M1 p=none->Q (.ref p) (M1.upd p (.lst (b_ 0 j.toNat)))
 |_=>False
def qR(n:Nat):List V:=(HA n).map fun (i:Nat)=>V.int (0+(i:Int))
theorem zJ{K:GH}{H:Hp}{n:Nat}:Rps K H (b_ 0 n) (qR n):=by
 unfold b_ qR;generalize HA n=l
 induction l with
 |nil=>rfl
 |cons i l ih=>exact ⟨_,_,rfl,rfl,ih⟩
theorem xD{acc:Array Value}{n:Nat}(h:ItemsOf (fun i v=>∃t,v=.int (0+i*1) t) acc n):Vals (qR n) acc.toList:=by
 obtain ⟨h1,h2⟩:=h;have key:∀(l:List Value) (k m:Nat),l.length=m->(∀(j:Nat) (v:Value),l[j]?=some v->∃t,v=.int (0+((k+j:Nat):Int)) t)->Vals ((L6 k m).map fun (i:Nat)=>V.int (0+(i:Int))) l:=by
  intro l
  induction l with
  |nil=>intro k m e _;subst e;exact .nil
  |cons x l ih=>
   intro k m e h;subst e;rw [GI,Ky,GR];refine .cons ?_ (ih (k+1) _ rfl fun j v q=>?_)
   ·obtain ⟨t,rfl⟩:=h 0 x (by simp)
    exact ⟨t,rfl⟩
   ·obtain ⟨t,e⟩:=h (j+1) v (by simpa using q)
    exact ⟨t,by rw [e];congr 2;lia⟩
 have:=key acc.toList 0 n (by simpa using h1) fun j v q=>by
  obtain ⟨t,e⟩:=h2 j v (by simpa using q)
  exact ⟨t,by rw [e,Int.mul_one,Nat.zero_add]⟩
 unfold qR;rw [List.range_eq_range'];exact this
def yl(t:TA):TE:=fun σ H Q=>t σ H fun vs H1=>∃j:Int,vs=[.int j]/\(-(2 ^ 62)<=j/\j<=1000)/\∀p,H1 p=none->Q (.ref p) (upd H1 p (.lst (qR j.toNat)))
theorem qb{e:Expr}{t:TA}{p p2 pos pos2:Pos}(hc:X.calm=true)(hg:Gl X "range")(hm:X.mg "range"=none)(hg2:Gl X "list")(hm2:X.mg "list"=none)(ha:PA X [e] t)
  (hs:starEach [e] X.env=[(false,eval e X.env)]:=by rfl) (hs3:starEach [Lw (.Name "range" p2) [e] [] pos2] X.env=[(false,eval (.Call (.Name "range" p2) [e] [] pos2) X.env)]:=by rfl):
  PE X (.Call (.Name "list" p) [.Call (.Name "range" p2) [e] [] pos2] [] pos) (yl t):=by
 intro pins s σ H Q I h;refine wpAny_Call_Name_kw (ld_blt I hg2 hm2 bt_list' (Ht ?_ hs3 rfl));rw [hs3];show wpAny _ _ (spliced ((false,_)::backTo pos [])) _ _ s;refine ID ?_;refine wpAny_Call_Name_kw (ld_blt I hg hm u5 (Ht (thn (ha pos2 pins s σ H _ I h) fun us s1 ⟨vs,H1,I1,r1,q1⟩=>?_) hs rfl));obtain ⟨j,rfl,⟨j0,j1⟩,q⟩:=q1;obtain ⟨u,rfl,ru⟩:=gn r1;obtain ⟨t',rfl⟩:=ru;refine call_range_1 ?_;refine Jc ?_;have hh:=I1.ok.hd hc;refine call_list_range (n:=j.toNat) hh (IsRange.new ..) (small_one (by decide) (by decide) j0 (by lia)) (by rw [rangeSize_one];split<;>lia) (by lia) fun h' tk acc c' k1 hS hacc=>?_
 have hsz:(s1.heap.push { cls:=.type "range",data:=.fields #[.int 0 s1.toks,.int j t',.int 1 (s1.toks+1)] }).objs.size=s1.heap.objs.size+1:=Hz ..;have hn:H1 (s1.heap.objs.size+1)=none:=I1.hok.fresh (J5 _);have hS':h'.get? (s1.heap.objs.size+1)=some { cls:=.type "list",dict:=none,data:=.seq acc c',slots:=#[] }:=by rw [<- hsz];exact hS
 refine ⟨.ref (s1.heap.objs.size+1),_,I1.laid (t':=tk) (o:=.lst (qR j.toNat)) (fun b o z=>k1 b o (GC _ z)) (J5 _) (show ObjOk X.prog X.w _ _ _ (.lst _) from ⟨?_,acc.toList,c',xD hacc,by rw [Array.toArray_toList];exact hS'⟩),?_,q _ hn⟩
 ·simp only [qR,GF,List.length_range]
  exact Hd (by lia:j.toNat<=1000) (by decide)
 ·show Hb _=Hb _
  rw [<- hsz]
theorem f_{e:Expr}{t:gl}{p p2 pos pos2:Pos}(hc:X.calm=true)(hg:Gl X "range")(hm:X.mg "range"=none)(hg2:Gl X "list")(hm2:X.mg "list"=none)(ha:DA X B [e] t)
  (hs:starEach [e] X.env=[(false,eval e X.env)]:=by rfl) (hs3:starEach [Lw (.Name "range" p2) [e] [] pos2] X.env=[(false,eval (.Call (.Name "range" p2) [e] [] pos2) X.env)]:=by rfl):
  DE X B (.Call (.Name "list" p) [.Call (.Name "range" p2) [e] [] pos2] [] pos) (gr t):=by
 refine bo (qb hc hg hm hg2 hm2 ha hs hs3) ?_
 rintro σ H Q ⟨δ,M,QQ,s,h,u⟩
 refine ⟨δ,M,_,s,h,fun ds M1 h1 vs H1 rh1 i1 r1=>?_⟩
 split at h1
 ·obtain ⟨v,rfl,rv⟩:=gp (ds:=[]) r1
  cases rv;refine ⟨_,rfl,h1.1,fun d hd=>?_⟩;exact u _ _ (h1.2 d (rh1.fresh hd)) _ _ (rh1.put (by rw [hd];trivial) ⟨_,upd_same,zJ⟩) (i1.trans (Frm.put (.inl hd))) rfl
 ·exact h1.elim
end
end L3
namespace L3
open PySem L2 LS
section
variable {X:Cx}{B:Bd}{name:Str}{a:Addr}{tab:List (Str×D)}
end
end L3
namespace LS
open PySem
section
variable {prog:Program}{w:World}{K:Type}[DecidableEq K]{A:Around}{E:Value->Shared->Prop}{s:Shared}{knd:KeyKind prog w K}
end
end LS
namespace LS
open PySem
section
variable {prog:Program}{w:World}{K:Type}[DecidableEq K]{A:Around}{E:Value->Shared->Prop}{s:Shared}{knd:KeyKind prog w K}
end
end LS
namespace L2
open PySem PySem.Spec
section
variable {X:Cx}{tg:Expr}
end
end L2
namespace L3
open PySem L2 LS
section
variable {X:Cx}{B:Bd}{tg:Expr}{K:GH}{H:Hp}{M:Mem}
end
end L3
namespace L3
open PySem L2
section
variable {X:Cx}{B:Bd}{pos:Pos}
end
end L3
namespace L3
open PySem L2
section
variable {X:Cx}{B:Bd}
end
end L3
namespace L3
open PySem L2 LS
section
variable {X:Cx}{B:Bd}
end
end L3
namespace LS
open PySem PySem.W PySem.Calls PyProof.Rows PyProof.V PySem.Spec
section
variable {prog:Program}{w:World}{K:Type}[DecidableEq K]{knd:KeyKind prog w K}{A:Around}{E:Value->Shared->Prop}{s:Shared}{v d:Addr}{ep:Nat}{kvs:List (K×Value)}
end
end LS
namespace L3
open PySem L2 LS
section
variable {X:Cx}{B:Bd}{pos:Pos}
end
end L3
namespace LX
open PySem PySem.W PySem.Spec PySem.Calls PyProof.Rows Builtin Builtin.ObjectAttr Builtin.Getset_descriptor
section
variable {K:Frag}{prog:Program}{w:World}{A:Around}{E:Value->Shared->Prop}{s:Shared}
end
end LX
namespace LX
open PySem PySem.W PySem.Spec PySem.Calls PyProof.Rows
end LX
namespace L2
open PySem PySem.Spec PyProof.Rows
section
variable {X:Cx}{pins:List (Addr×Obj)}{σ:St}{H:Hp}{s:Shared}{e:Value}
end
end L2
namespace L2
open PySem PySem.Spec PyProof.Rows
end L2
namespace L2
open PySem
end L2
namespace L3
open PySem L2
section
variable {X:Cx}{B:Bd}{K:GH}{H H':Hp}{M M1 M':Mem}
end
section
variable {P:Program}{w:World}{K:GH}{mg:Str->Option Value}{base:Heap}{f:Addr}{fd:FuncData}
end
section
variable {X:Cx}{B:Bd}{K:GH}{H H':Hp}{M M1 M':Mem}
end
end L3
namespace L3
open PySem L2 LS
section
variable {X:Cx}{B:Bd}
end
end L3
namespace L3
open PySem L2
end L3
namespace L3
open PySem L2
section
variable {X:Cx}{B:Bd}
def mr:sh:=fun ds M Q=>match ds with
 |[d]=>cj 60 d=true/\(dM d).showable=true/\(dM d).shown.length<=sizeLine/\Q (.str (dM d).shown) M
 |_=>False
theorem jp(hg:X.A.guards=some [])(hu:X.A.units+64<cLine):cA X (.builtin "repr") (liftC X mr):=by
 intro pins s σ H xs us Q I r h;obtain ⟨ds,M,QQ,rh,rp,h,up⟩:=h;unfold mr at h
 split at h
 ·rename_i d
  obtain ⟨hf,hs,hz,h⟩:=h;obtain ⟨v,rfl,rv⟩:=gp (ds:=[]) rp;obtain ⟨u,rfl,ru⟩:=gn r;have q:=xJ I hf rv ru;have hd:=jP 60 _ hf;obtain ⟨as,rd⟩:=jZ _ _ q;have fin:∀(t:Tok) (tk:Nat) (h':Heap),(∀b o,s.heap.get? b=some o->h'.get? b=some o)->EP X pins σ Q (.str (dM d).shown t) { s with heap:=h',toks:=tk }:=fun t tk h' hk=>
   ⟨.str _,H,I.kept (t':=tk) fun b o e=>hk b o e,⟨_,rfl⟩,up _ M h _ H rh Frm.refl rfl⟩
  cases d with
  |non=>cases q;exact Lu (fin _ _ _ fun _ _ e=>e)
  |bl b=>cases q;exact Lv (fin _ _ _ fun _ _ e=>e)
  |int i=>
   obtain ⟨t,rfl⟩:=q;exact LC (by simpa [dM,Jh] using hs) (fin _ _ _ fun _ _ e=>e)
  |str x=>
   obtain ⟨t,rfl⟩:=q;exact LB (fin _ _ _ fun _ _ e=>e) hz
  |tup xs=>
   obtain ⟨p,its,rfl,_⟩:=q;exact repr_of_reads' rd hs (Jt (jN _)) hg (by lia) (fun _ _ e=>e) (fun h' u tk hk=>fin u tk h' hk) hz
  |lst xs=>
   obtain ⟨p,its,rfl,_⟩:=q;exact repr_of_reads' rd hs (Jt (jN _)) hg (by lia) (fun _ _ e=>e) (fun h' u tk hk=>fin u tk h' hk) hz
  |_=>exact q.elim
 ·exact h.elim
end
end L3
namespace L3
open PySem L2
section
variable {X:Cx}{B:Bd}
def lF:yq:=fun x ds M Q=>match x,ds with
 |.ref a,[]=>match M a with
  |some (.lst _)=>Q .non (M.upd a (.lst []))
  |_=>False
 |_,_=>False
theorem uL:wk X "list.clear" (liftM X lF):=by
 intro pins s σ H x vs v us Q I rx rv h;obtain ⟨d,ds,M,QQ,rh,r,rs,h,up⟩:=h;unfold lF at h
 split at h
 ·rename_i a
  cases r;cases rs
  split at h
  ·rename_i xs hM
   obtain ⟨ws,h1,h2⟩:=rh _ _ hM;exact v_ pins s σ H _ _ v us Q I rx rv ⟨a,ws,rfl,rfl,h1,up _ _ h _ _ (rh.put (by rw [h1];trivial) ⟨[],upd_same,rfl⟩) (Frm.put (.inr ⟨_,hM⟩)) rfl⟩
  ·exact h.elim
 ·exact h.elim
variable {C:Addr}{f:Str}{o value:Expr}{ta tv:bN}{pos tpos:Pos}
end
section
variable {X:Cx}{B:Bd}{CX:pf}{k n:Nat}{f C:Addr}{fd:FuncData}{ps:List Str}{T:Sd}{E:XK}{EE:DX}{x:Str}{p pos:Pos}
end
end L3
namespace L3
open PySem L2
section
variable {X:Cx}{B:Bd}{K:GH}{H H':Hp}{M M1 M':Mem}{pos:Pos}
def Do:List (Str×bN)->Dl->Mem->(List D->Mem->Prop)->Prop
 |[],_,M,Q=>Q [] M
 |kt::r,δ,M,Q=>kt.2 δ M fun d M1=>Do r δ M1 fun ds M2=>Q (d::ds) M2
def kT(tab:List (Str×bN)):bN:=fun δ M Q=>∀p,M p=none->Do tab δ (M.upd p (.dK [])) fun ds M1=>M1 p=some (.dK [])/\ds.length<=15/\Q (.ref p) (M1.upd p (.dK (eY (tab.map fun kt=>GQ kt.1) ds)))
theorem nC{δ:Dl}{σ:L2.St}:∀(tab:List (Str×bN)) (M:Mem) (H:Hp) (QQ:List D->Mem->Prop) (Q:List (V×V)->Hp->Prop),SR X B δ M σ H->Do tab δ M QQ->
  (∀ds M',QQ ds M'->∀(vs:List V) H',RepH X.K H' M'->Frm M H M' H'->Rps X.K H' ds vs->Q ((tab.map fun kt=>V.str kt.1).zip vs) H')->lN (tab.map fun kt=>(tC (.str kt.1),liftE X B kt.2)) σ H Q
 |[],M,H,QQ,Q,s,h,u=>u [] M h [] H s.rh Frm.refl rfl
 |kt::r,M,H,QQ,Q,s,h,u=>by
  show liftE X B kt.2 σ H _;refine ⟨δ,M,_,s,h,fun d M1 h1 v H1 rh1 i1 r1=>?_⟩;refine nC r M1 H1 _ _ (s.go rh1 i1) h1 fun ds M2 h2 vs H2 rh2 i2 r2=>?_;exact u _ _ h2 (v::vs) H2 rh2 (i1.trans i2) ⟨v,vs,rfl,r1.mf rh1 i2,r2⟩
theorem wN:∀(tab:List (Str×bN)) (vs:List V),(tab.map fun kt=>V.str kt.1).zip vs=((tab.map fun kt=>(GQ kt.1:aP)).zip vs).map fun kv=>(kV kv.1,kv.2)
 |[],_=>rfl
 |_::_,[]=>rfl
 |kt::r,v::vs=>by
  simp only [GR,Jr,wN r vs];rfl
theorem lP{keys:List (Option Expr)}{values:List Expr}{tab:List (Str×bN)}(h:By X pos keys values (tab.map fun kt=>(tC (.str kt.1),liftE X B kt.2)))(hall:keys.all (·.isSome)=true)(hl:keys.length=values.length)(h0:keys≠[])
  (h15:keys.length<=15):DE X B (.Dict keys values pos) (kT tab):=by
 refine bo (B6 h hall hl h0 h15) ?_
 rintro σ H Q ⟨δ,M,QQ,s,h,u⟩ p hp
 have hMp:=s.rh.fresh hp;have rh1:RepH X.K (upd H p (.dK [])) (M.upd p (.dK [])):=s.rh.put (by rw [hp];trivial) ⟨[],upd_same,.nil⟩
 have f1:Frm M H (M.upd p (.dK [])) (upd H p (.dK [])):=Frm.put (.inl hp);refine nC tab _ _ _ _ (s.go rh1 f1) (h p hMp) fun ds M2 ⟨e,hlen,q⟩ vs H2 rh2 i2 r2=>?_;obtain ⟨ws,e2,hw⟩:=rh2 _ _ e;cases hw;have rk:Rkv X.K H2 (eY (tab.map fun kt=>GQ kt.1) ds) (fZ [] ((tab.map fun kt=>(GQ kt.1:aP)).zip vs)):=kg (ks:=tab.map fun (kt:Str×bN)=>(GQ kt.1:aP)) (a:=[]) (b:=[]) r2 .nil;have im:Imm H2 (upd H2 p (.dK (fZ [] ((tab.map fun kt=>(GQ kt.1:aP)).zip vs)))):=Imm.upd (by rw [e2];trivial)
 refine ⟨e2,(tab.map fun kt=>(GQ kt.1:aP)).zip vs,wN tab vs,?_,u _ _ q _ _ (rh2.put (by rw [e2];trivial) ⟨_,upd_same,rk.mono im⟩) (f1.trans (i2.trans (Frm.put (.inr ⟨_,e⟩)))) rfl⟩
 have:=r2.length;rw [Jl];lia
theorem mW:By X pos [] [] (([]:List (Str×bN)).map fun kt=>(tC (.str kt.1),liftE X B kt.2)):=Ai
theorem bY{keys:List (Option Expr)}{values:List Expr}{tab:List (Str×bN)}{k:Str}{v:Expr}{T:bN}{j:Nat}{p1:Pos}(hv:DE X B v T)(h:By X pos keys values (tab.map fun kt=>(tC (.str kt.1),liftE X B kt.2))):
  By X pos (some (.Constant (.str k) j p1)::keys) (v::values) (((k,T)::tab).map fun kt=>(tC (.str kt.1),liftE X B kt.2)):=xu qt hv h
end
end L3
namespace L3
open PySem L2
section
variable {X:Cx}{B:Bd}
def wr:gk:=fun x y M Q=>match x,y with
 |.ref a,.int k=>match M a with
  |some (.lst xs)=>-(2 ^ 63)<=k/\k<2 ^ 63/\xs.length*k.toNat<=sizeLine/\∀p,M p=none->Q (.ref p) (M.upd p (.lst (GK k.toNat xs).flatten))
  |_=>False
 |_,_=>False
theorem zY:dm X (binaryOp .Mult) (liftR2 X wr):=by
 intro pins s σ H x y v u Q I rx ry h;obtain ⟨d1,d2,M,QQ,rh,r1,r2,h,up⟩:=h;unfold wr at h
 split at h
 ·rename_i a k
  cases r1;cases r2
  split at h
  ·rename_i xs e
   obtain ⟨ws,e2,rw'⟩:=rh _ _ e;have hl:=rw'.length;refine CB pins s σ H _ _ v u Q I rx ry ⟨a,k,ws,rfl,rfl,e2,h.1,h.2.1,by rw [<- hl];exact h.2.2.1,fun q hq=>?_⟩
   exact up _ _ (h.2.2.2 q (rh.fresh hq)) _ _ (rh.put (by rw [hq];trivial) ⟨_,upd_same,(rw'.rep k.toNat).mono (Imm.new hq)⟩) (Frm.put (.inl hq)) rfl
  ·exact h.elim
 ·exact h.elim
end
end L3
namespace LS
open PySem PySem.W PySem.Calls PyProof.Rows PyProof.V PySem.Spec
section
variable {prog:Program}{w:World}{A:Around}{E:Value->Shared->Prop}{s:Shared}{it d:Addr}{i n ep:Nat}{ok ov:Value}{od:Obj}{es:Array DictEntry}
theorem qw{Q:Value->Shared->Prop}(hT:s.TypeIs (.ref d) "dict")(hd:(d==sysModules)=false)(h:Q (.ref s.heap.objs.size) { s with heap:=s.heap.push { cls:=.type "dict_items",data:=.fields #[.ref d] } }):
  wpAny (model prog w) A (call (.builtin "dict.items") [.ref d]) Q E s:=by
 refine wpAny_call_entry F.slot_dict_items hT F.entry_dict_items ?_ (F.args_dict_items_1 _);unfold Builtin.«dict.items» Builtin.Dict.noArgs;refine wpAny_bind (wpAny_bind (wpAny_notOrdered_dict hT (wpAny_pure ?_)));show wpAny _ _ (KD d >>= _) _ _ s;unfold KD;rw [if_neg (by rw [hd];simp)]
 exact wpAny_bind (wpAny_pure (wpAny_bind (wpAny_newObj_type (wpAny_pure ⟨_,rfl,h⟩))))
theorem pR{v:Addr}{Q:Value->Shared->Prop}(hv:s.heap.IsItemsView v d)(ho:s.heap.get? d=some od)(hdat:od.data=.dict es ep)
  (hQ:Q (.ref s.heap.objs.size) { s with heap:=s.heap.push { cls:=.type "dict_itemiterator",data:=.fields #[.none,.bool false,.ref d,.int 0 0,.int es.size 0,.int ep 0,.none,.none] } }):wpAny (model prog w) A (pyIter (.ref v)) Q E s:=by
 obtain ⟨ov,hov,_,hdv⟩:=id hv;refine wpAny_pyIter_slot hv.typeIs Mc (wpAny_call_entry Mc hv.typeIs F.entry_dict_items_iter (wpAny_bind (wpAny_pure (wpAny_bind ?_))) (F.args_dict_items_iter_1 _));unfold Builtin.Dict_items.dictOf;refine wpAny_bind (wpAny_field hov hdv (x:=.ref d) rfl (wpAny_pure (wpAny_bind ?_)));unfold Builtin.Dict_items.newIterator;refine wpAny_bind (wpAny_dictEntries ho hdat (wpAny_bind (wpAny_dictEpoch ho hdat ?_)));simp only [show IW "dict_itemiterator"=true by decide,if_true]
 refine wpAny_newObj_type (wpAny_pure ⟨_,rfl,"dict_itemiterator",_,⟨_,GN _ rfl,rfl⟩,Ie.lookup,?_⟩) (by simp only [sizeOk,Jy,GJ,GP,GI,Hg,sizeLine_eq];lia)
 simpa [rawInt,Jy] using hQ
theorem pS{Q:Option Value->Shared->Prop}(hit:IsItemIter s.heap it d i n ep ok ov)(ho:s.heap.get? d=some od)(hdat:od.data=.dict es ep)(hn:es.size=n)(hlt:i<es.size)
  (hQ:∀h',IsItemIterOut h' it d (i+1) n ep es[i].key es[i].val s.heap.objs.size->h'.get? s.heap.objs.size=some { cls:=.type "tuple",data:=.seq #[es[i].key,es[i].val] }->h'.objs.size=s.heap.objs.size+1->
   (∀b o,b≠it->s.heap.get? b=some o->h'.get? b=some o)->Q (some (.ref s.heap.objs.size)) { s with heap:=h' }):wpAny (model prog w) A (pyNext (.ref it)) Q E s:=by
 obtain ⟨hp,g,dr,tk,os⟩:=s;have hT:Shared.TypeIs ⟨hp,g,dr,tk,os⟩ (.ref it) "dict_itemiterator":=⟨_,hit,rfl⟩;unfold pyNext;refine wpAny_bind (wpAny_attempt (wpAny_callSpecial?_slot (name:=Hy "__next__") hT Ie (wpAny_call_entry Ie hT KQ (wpAny_bind (wpAny_pure (wpAny_bind (wpAny_bind ?_)))) (KH _))));refine wpAny_bind (wpAny_typeNameOfWhole_itemiter hT (wpAny_pure (wpAny_bind (wpAny_fieldsOf hit rfl ?_))));simp only [show IW "dict_itemiterator"=true by decide,if_true]
 show wpAny _ _ (if (Hb d==Ic)=true then _ else _) _ _ _
 rw [if_neg (show ¬((Hb d==Ic)=true) by simp)]
 refine wpAny_bind (wpAny_pure (wpAny_bind (wpAny_dictEntries ho hdat ?_)));rw [if_neg (by rw [hn];simp)]
 refine wpAny_bind (wpAny_pure (wpAny_bind (wpAny_dictEpoch ho hdat ?_)));rw [if_neg (by simp)]
 refine wpAny_pure ?_;simp only [show ¬((i:Int)<0) from by lia,if_false,Ha,Lc hlt]
 refine wpAny_bind (wpAny_bind (wpAny_typeNameOfWhole_itemiter hT (wpAny_pure ?_)));refine wpAny_bind (wpAny_isOneOf_itemiter hT ?_);show wpAny _ _ (setField (.ref it) 3 (rawInt ((i:Int)+1)) >>= _) _ _ ⟨hp,g,dr,tk,os⟩;refine wpAny_bind (wpAny_setField_rec hit (by simp) fun g1 e1 s1=>?_)
 have s1':Im it hp g1:=s1;have e1':IsItemIter g1 it d (i+1) n ep ok ov:=by
  have e:((i+1:Nat):Int)=(i:Int)+1:=by lia
  unfold IsItemIter;rw [e];simpa [rawInt] using e1
 have hT1:Shared.TypeIs ⟨g1,g,dr,tk,os⟩ (.ref it) "dict_itemiterator":=⟨_,e1',rfl⟩;refine wpAny_bind (wpAny_holding (wpAny_bind (wpAny_isOneOf_itemiter hT1 (wpAny_bind (wpAny_isOneOf_itemiter hT1 ?_)))));show wpAny _ _ (JG (.ref it) 6 es[i].key es[i].val) _ _ ⟨g1,g,dr,tk,os⟩;unfold JG;refine wpAny_bind (wpAny_newTuple ?_);have e2:IsItemIter (g1.push { cls:=.type "tuple",data:=.seq #[es[i].key,es[i].val] }) it d (i+1) n ep ok ov:=GC _ e1';have z1:g1.objs.size=hp.objs.size:=s1'.1;have hil:hp.objs.size≠it:=Iv (GL hit);have t2:(g1.push { cls:=.type "tuple",data:=.seq #[es[i].key,es[i].val] }).get? hp.objs.size=some { cls:=.type "tuple",data:=.seq #[es[i].key,es[i].val] }:=by rw [<- z1];exact GN _ rfl
 have z2:(g1.push { cls:=.type "tuple",data:=.seq #[es[i].key,es[i].val] }).objs.size=hp.objs.size+1:=by rw [Hz,z1]
 have k2:∀b o,b≠it->hp.get? b=some o->(g1.push { cls:=.type "tuple",data:=.seq #[es[i].key,es[i].val] }).get? b=some o:=fun b o hb e=>GC _ (s1'.extBut b o hb e);show wpAny _ _ (Jx (.ref it) >>= _) _ _ ⟨g1.push { cls:=.type "tuple",data:=.seq #[es[i].key,es[i].val] },g,dr,tk,os⟩;rw [z1];generalize g1.push { cls:=.type "tuple",data:=.seq #[es[i].key,es[i].val] }=g2 at e2 t2 z2 k2;unfold Jx;refine wpAny_bind (wpAny_bind (wpAny_field e2 rfl (x:=.none) rfl (wpAny_pure ?_)));simp only [if_true];refine wpAny_bind (wpAny_field e2 rfl (x:=ok) rfl (wpAny_bind (wpAny_field e2 rfl (x:=ov) rfl ?_)));refine wpAny_bind (wpAny_setField_rec e2 (by simp) fun g3 e3 s3=>?_)
 have e3':IsItemIter g3 it d (i+1) n ep es[i].key ov:=e3;refine wpAny_bind (wpAny_setField_rec e3' (by simp) fun g4 e4 s4=>?_)
 have e4':IsItemIter g4 it d (i+1) n ep es[i].key es[i].val:=e4;refine wpAny_bind (wpAny_setField_rec e4' (by simp) fun g5 e5 s5=>?_)
 have e5':IsItemIterOut g5 it d (i+1) n ep es[i].key es[i].val hp.objs.size:=e5;refine wpAny_bind (wpAny_setField_rec e5' (by simp) fun g6 e6 s6=>?_)
 have a3:Im it g2 g3:=s3;have a4:Im it g3 g4:=s4;have a5:Im it g4 g5:=s5;have a6:Im it g5 g6:=s6;have kk:∀b o,b≠it->g2.get? b=some o->g6.get? b=some o:=fun b o hb e=>a6.extBut b o hb (a5.extBut b o hb (a4.extBut b o hb (a3.extBut b o hb e)));refine wpAny_bind (wpAny_letGo (wpAny_pure (wpAny_pure ⟨_,rfl,wpAny_pure (hQ g6 e6 (kk _ _ hil t2) ?_ fun b o hb e=>kk b o hb (k2 b o hb e))⟩)));rw [a6.1,a5.1,a4.1,a3.1,z2]
theorem um{Q:Option Value->Shared->Prop}(hh:A.handled=none)(hit:IsItemIter s.heap it d i n ep ok ov)(ho:s.heap.get? d=some od)(hdat:od.data=.dict es ep)(hn:es.size=n)(hge:es.size<=i)
  (hQ:∀h',LZ it s.heap h'->Q none { s with heap:=h' }):wpAny (model prog w) A (pyNext (.ref it)) Q E s:=by
 have hT:s.TypeIs (.ref it) "dict_itemiterator":=⟨_,hit,rfl⟩;unfold pyNext;refine wpAny_bind (wpAny_attempt (wpAny_callSpecial?_slot (name:=Hy "__next__") hT Ie (wpAny_call_entry Ie hT KQ (wpAny_bind (wpAny_pure (wpAny_bind (wpAny_bind ?_)))) (KH _))));refine wpAny_bind (wpAny_typeNameOfWhole_itemiter hT (wpAny_pure (wpAny_bind (wpAny_fieldsOf hit rfl ?_))));simp only [show IW "dict_itemiterator"=true by decide,if_true]
 show wpAny _ _ (if (Hb d==Ic)=true then _ else _) _ _ s
 rw [if_neg (show ¬((Hb d==Ic)=true) by simp)]
 refine wpAny_bind (wpAny_pure (wpAny_bind (wpAny_dictEntries ho hdat ?_)));rw [if_neg (by rw [hn];simp)]
 refine wpAny_bind (wpAny_pure (wpAny_bind (wpAny_dictEpoch ho hdat ?_)));rw [if_neg (by simp)]
 refine wpAny_pure ?_;simp only [show ¬((i:Int)<0) from by lia,if_false,Ha,Array.getElem?_eq_none hge]
 refine wpAny_bind (wpAny_bind (wpAny_typeNameOfWhole_itemiter hT (wpAny_pure ?_)));show wpAny _ _ (setField (.ref it) 2 .none >>= _) _ _ s;refine wpAny_bind (wpAny_setField hit rfl (by simp) ?_)
 show wpAny _ _ (newExc (.type "StopIteration") [] >>= _) _ _ _;simp only [newExc,newTuple];refine wpAny_bind (wpAny_bind (wpAny_newObj_type ?_ (by size_fits)))
 refine wpAny_bind (m:=firstArgMember _ _) (wpAny_of_eq (a:=Ic) (by first|rfl|(simp only [firstArgMember];rfl)) (wpAny_newObj_type ?_ (by size_fits)))
 simp only [raiseNew];refine wpAny_bind (wpAny_handled ?_);rw [show A.in1.handled=none from hh];refine wpAny_bind (wpAny_pure (wpAny_throw (wpAny_bind ?_)));refine wpAny_isInstance (T:="StopIteration") (b:=true) ⟨_,GN _ rfl,rfl⟩ isSubtype_stop (wpAny_pure ?_);exact hQ _ (((JJ ..).extBut.push _).push _)
end
end LS
namespace L2
open PySem PySem.Spec PyProof.Rows LS
def Itd(d:Addr)(od:Obj)(kvs:List (List aP×V)):It:=
 ⟨fun i H=>H d=some (.frz od (.dT kvs))/\i<kvs.length,
  fun i H v H'=>∃T ks x b,kvs[i]?=some (ks,x)/\H b=some (.tup (ks.map kV))/\H T=none/\v=.ref T/\H'=upd H T (.tup [.ref b,x]),
  fun i H=>H d=some (.frz od (.dT kvs))/\kvs.length<=i⟩
theorem Inv.frzT{X:Cx}{pins:List (Addr×Obj)}{σ:St}{H:Hp}{s:Shared}{d:Addr}{od:Obj}{kvs:List (List aP×V)}{es:Array DictEntry}{ep:Nat}(I:Inv X pins σ H s)(e:H d=some (.frz od (.dT kvs)))(hd:od.data=.dict es ep):
  s.heap.get? d=some od/\∃xs:List (List aP×Addr×Value),KT H kvs xs/\es.toList=xs.map (entryOfKey (tupleKind (bq X.prog X.w))):=by
 obtain ⟨h1,_,_,xs,r,o,es',ep',h2,_,h4,h5,_⟩:=(show ObjOk X.prog X.w H s.heap d (.frz od (.dT kvs)) from I.hok d _ e);rw [h1] at h2;cases h2;rw [hd] at h4;cases h4;exact ⟨h1,xs,r,h5⟩
theorem KT.at{H:Hp}:∀{kvs:List (List aP×V)} {xs:List (List aP×Addr×Value)},KT H kvs xs->∀{i:Nat} {ks:List aP} {x:V},kvs[i]?=some (ks,x)->∃b u,xs[i]?=some (ks,b,u)/\H b=some (.tup (ks.map kV))/\RelV x u
 |_,_,.nil,i,ks,x,e=>by simp at e
 |_,_,.cons (a:=p) (b:=q) h t,0,ks,x,e=>by
  simp at e;subst e;obtain ⟨q1,q2,q3⟩:=q;exact ⟨q2,q3,by simp;exact h.1.symm,h.2.1,h.2.2⟩
 |_,_,.cons h t,i+1,ks,x,e=>by
  simp at e;simpa using KT.at t e
theorem pX{P:Program}{w:World}{K:GH}{elts:List Expr}{x1:Nat}{tp:Pos}{kvs:List (List aP×V)}{es:Array DictEntry}{ep:Nat}{od:Obj}(d it:Addr)(hd:od.data=.dict es ep)(hn:es.size=kvs.length):
  Turn P w K (.Tuple elts x1 tp) (Itd d od kvs) [it] it (fun i h=>∃ok ov,IsItemIter h it d i kvs.length ep ok ov) where
 mem:=by simp
 obj:=fun i h st b hb=>by
  have e:b=it:=by simpa using hb
  subst e;obtain ⟨ok,ov,e⟩:=st;exact ⟨_,e,fun v z=>nomatch z⟩
 keep:=fun i h h' st k=>let ⟨ok,ov,e⟩:=st;⟨ok,ov,k it (by simp) _ e⟩
 item:=by
  intro X hP hw hK hc i pins s σ H E I hf st hg;subst hP hw hK;obtain ⟨ok,ov,hit⟩:=st;obtain ⟨e,hi⟩:=hg;obtain ⟨h1,xs,r,he⟩:=I.frzT e hd;have hx:kvs[i]?=some (kvs[i].1,kvs[i].2):=by rw [GG hi]
  obtain ⟨b,u,e1,e2,e3⟩:=r.at hx;have hi':i<es.size:=by rw [hn];exact hi
  have ee:es[i]=entryOfKey (tupleKind (bq X.prog X.w)) (kvs[i].1,b,u):=by
   have:=entry_at he i;rw [e1,Lc hi'] at this;exact HC this
  have k1:es[i].key=.ref b:=by rw [ee];rfl
  have k2:es[i].val=u:=by rw [ee];rfl
  refine pS hit h1 hd hn hi' fun h' o1 o2 o3 o4=>?_;rw [k1,k2] at o1 o2;refine ⟨_,rfl,wpAny_letOwnedTupleGo_items (s:={ s with heap:=h' }) o1 fun g e' sb=>?_⟩;have hes:s.heap.objs.size≠it:=Iv (GL hit);have hTn:H s.heap.objs.size=none:=I.hok.fresh (GO _);refine ⟨.ref s.heap.objs.size,_,I.turnedNew (s:=s) (h':=g) (t':=s.toks) (fp:=[it]) (zs:=[.ref b,kvs[i].2]) (us:=[.ref b,u]) hf (fun c o hc q=>?_) (fun c hc=>?_) (fun c hc=>?_) (sb.extBut _ _ hes o2) rfl ⟨_,rfl⟩ (.cons rfl (.cons e3 .nil)) rfl (by show 2<=sizeLine;decide),rfl,⟨_,_,_,b,hx,e2,hTn,rfl,rfl⟩,⟨_,_,e'⟩,fun c hc=>?_⟩
  ·have hc':c≠it:=by simpa using hc
   exact sb.extBut c o hc' (o4 c o hc' q)
  ·have hc':c=it:=by simpa using hc
   subst hc';exact ⟨_,hit⟩
  ·have hc':c=it:=by simpa using hc
   subst hc';exact ⟨_,e'⟩
  ·have hc':c=it:=by simpa using hc
   subst hc';rw [upd_ne (Hw hes)];exact (hf c hc).1
 done:=by
  intro X hP hw hK hc i pins s σ H E I hf st hg;subst hP hw hK;obtain ⟨ok,ov,hit⟩:=st;obtain ⟨e,hi⟩:=hg;obtain ⟨h1,xs,r,he⟩:=I.frzT e hd;obtain ⟨f0,f1,f2,f3,f4,f5⟩:=hf it (by simp)
  exact um (I.ok.hd hc) hit h1 hd hn (by rw [hn];exact hi) fun h' eb=>⟨rfl,I.turned (t':=s.toks) (fun b o hb e=>eb b o hb e) f0 f1 f3 f4 f5⟩
 self:=fun A i s Q E st h=>by
  obtain ⟨ok,ov,hit⟩:=st;exact W.kcp_self hit h
theorem Inv.freezeT{X:Cx}{pins:List (Addr×Obj)}{σ:St}{H:Hp}{s:Shared}{p:Addr}{kvs:List (List aP×V)}(I:Inv X pins σ H s)(h:H p=some (.dT kvs)):
  ∃od es ep,od.data=.dict es ep/\es.size=kvs.length/\s.heap.get? p=some od/\(p==sysModules)=false/\Inv X pins σ (upd H p (.frz od (.dT kvs))) s:=by
 obtain ⟨z,y,xs,r,od,es,ep,h1,h2,h3,h4,h5⟩:=(show ObjOk X.prog X.w H s.heap p (.dT kvs) from I.hok p _ h);have ne:∀{b:Addr} {u:Option HO},H b=u->u≠some (.dT kvs)->b≠p:=fun {b u} q hu z=>by subst z;rw [h] at q;exact hu q.symm
 refine ⟨od,es,ep,h3,by rw [<- Iz,h4,GF,<- Ik r],h1,y,I.ok,I.os,I.bare,⟨I.base.keep,I.base.slot,fun b o q hn hx=>?_,I.base.there,fun b xs q=>?_,fun b o u q=>?_,fun b ps q=>?_⟩,I.loc,I.cell,?_,fun x c q=>?_,fun pp hp=>?_,fun b o q=>?_,I.len⟩
 ·have q':=I.base.free b o q hn hx
  rw [upd_ne (ne q' (by simp))];exact q'
 ·have q':=I.base.tups b xs q
  rw [upd_ne (ne q' (by simp))];exact q'
 ·have q':=I.base.frzs b o u q
  rw [upd_ne (ne q' (by simp))];exact q'
 ·obtain ⟨more,q'⟩:=I.base.tbls b ps q
  exact ⟨more,by rw [upd_ne (ne q' (by simp))];exact q'⟩
 ·rw [upd_ne (ne I.free (by simp))];exact I.free
 ·have q':=I.freeC x c q
  rw [upd_ne (ne q' (by simp))];exact q'
 ·obtain ⟨h1,h2,h3⟩:=I.pin pp hp
  exact ⟨h1,by rw [upd_ne (ne h2 (by simp))];exact h2,h3⟩
 ·have st:∀{u:HO} {b:Addr},ObjOk X.prog X.w H s.heap b u->ObjOk X.prog X.w (upd H p (.frz od (.dT kvs))) s.heap b u:=fun x=>x.stay (fun _ _ _ y=>y) (fun c y=>by rw [upd_ne (ne y (by simp))];exact y) fun c xs y=>by rw [upd_ne (ne y (by simp))];exact y
  by_cases hb:b=p
  ·subst hb
   rw [upd_same] at q;cases q;exact ⟨h1,st (I.hok b _ h)⟩
  ·rw [upd_ne hb] at q
   exact st (I.hok b o q)
def Ep(to:TE):TI:=fun σ H R=>to σ H fun x H1=>∃a kvs,x=.ref a/\H1 a=some (.dT kvs)/\∀od,R (Itd a od kvs) (upd H1 a (.frz od (.dT kvs)))
theorem wV{X:Cx}{o:Expr}{to:TE}{apos cpos:Pos}{elts:List Expr}{x1:Nat}{tp:Pos}(ho:PE X o to)(hbase:attributeBase o "items" X.env (eval o X.env)=eval o X.env:=by rfl)(hline:(apos.endLine==cpos.line)=true:=by rfl):
  PI X (.Tuple elts x1 tp) (.Call (.Attribute o "items" apos) [] [] cpos) (Ep to):=by
 intro pins s σ H R I h;refine wpAny_Call_method0_late hbase hline (thn (ho pins s σ H _ I h) fun v s1 zz=>?_);obtain ⟨x,H1,I1,r1,a,kvs,ex,e,q⟩:=zz;subst ex;cases r1;obtain ⟨h1,h2⟩:=qp I1 (x:=.ref a) rfl (.inr (.inr (.inl ⟨rfl,.inr ⟨kvs,e⟩⟩)));refine ⟨"dict","dict.items",JT,F.slot_dict_items,F.type_dict_items,h1,h2,Il rfl (LV ?_)⟩;obtain ⟨od,es,ep,g1,g2,g3,g4,I2⟩:=I1.freezeT e;refine qw h1 g4 ?_;refine pR (s:={ s1 with heap:=s1.heap.push { cls:=.type "dict_items",data:=.fields #[.ref a] } }) ⟨_,GN _ rfl,rfl,rfl⟩ (GC _ g3) g1 ?_;have hz:(s1.heap.push { cls:=.type "dict_items",data:=.fields #[.ref a] }).objs.size=s1.heap.objs.size+1:=Hz ..;have hk:∀b o,s1.heap.get? b=some o->((s1.heap.push { cls:=.type "dict_items",data:=.fields #[.ref a] }).push { cls:=.type "dict_itemiterator",data:=.fields #[.none,.bool false,.ref a,.int 0 0,.int es.size 0,.int ep 0,.none,.none] }).get? b=some o:=fun b o z=>GC _ (GC _ z);refine ⟨s1.heap.objs.size+1,[s1.heap.objs.size+1],_,_,_,by rw [hz],I2.kept (t':=s1.toks) hk,pX a (s1.heap.objs.size+1) g1 g2,⟨.none,.none,?_⟩,fun c hc=>?_,q od⟩
 ·rw [<- g2,<- hz];exact GN _ rfl
 ·have hc':c=s1.heap.objs.size+1:=by simpa using hc
  subst hc';have hlt:(a:Nat)<s1.heap.objs.size:=GL g3;have hne:s1.heap.objs.size+1≠a:=Iv (Nat.lt_succ_of_lt hlt);exact I1.fpOk (J5 _) (by rw [upd_ne hne];exact I1.hok.fresh (J5 _))
end L2
namespace L3
open PySem L2 LS
section
variable {X:Cx}{B:Bd}
def ib(kvs:List (List aP×D)):List D:=kvs.map fun p=>.tup [.tup (p.1.map fun k=>match k with|.inl i=>D.int i|.inr x=>D.str x),p.2]
def qO(to:bN):v4:=fun δ M R=>to δ M fun d M1=>match d with
 |.ref a=>match M1 a with
  |some (.dT kvs)=>R ⟨ib kvs,[]⟩ (M1.del a)
  |_=>False
 |_=>False
theorem mZ{K:GH}{H:Hp}:∀ks:List aP,Rps K H (ks.map fun k=>match k with|.inl i=>D.int i|.inr x=>D.str x) (ks.map kV)
 |[]=>rfl
 |.inl i::ks=>⟨_,_,rfl,rfl,mZ ks⟩
 |.inr x::ks=>⟨_,_,rfl,rfl,mZ ks⟩
theorem xt{κ:Type}{K:GH}{H:Hp}:∀{a:List (κ×D)} {b:List (κ×V)},Rkv K H a b->∀{i:Nat} {k:κ} {d:D},a[i]?=some (k,d)->∃v,b[i]?=some (k,v)/\Rp K H d v
 |_,_,.nil,i,k,d,e=>by simp at e
 |_,_,.cons (a:=p) (b:=q) h t,0,k,d,e=>by
  simp at e;subst e;obtain ⟨q1,q2⟩:=q;exact ⟨q2,by simp;exact h.1.symm,h.2⟩
 |_,_,.cons h t,i+1,k,d,e=>by
  simp at e;simpa using xt t e
theorem RepH.freezeT{K:GH}{H:Hp}{M:Mem}{p:Addr}{kvs:List (List aP×V)}{o:Obj}(r:RepH K H M)(h:H p=some (.dT kvs)):RepH K (upd H p (.frz o (.dT kvs))) (M.del p):=fun b u e=>by
 unfold Mem.del at e
 split at e
 ·cases e
 ·rename_i hb
  exact (r b u e).keep (Imm.upd (by rw [h];trivial)) (upd_ne hb)
theorem xL{o:Expr}{to:bN}{apos cpos:Pos}{elts:List Expr}{x1:Nat}{tp:Pos}(ho:DE X B o to)(hbase:attributeBase o "items" X.env (eval o X.env)=eval o X.env:=by rfl)(hline:(apos.endLine==cpos.line)=true:=by rfl):
  DI X B (.Tuple elts x1 tp) (.Call (.Attribute o "items" apos) [] [] cpos) (qO to):=by
 refine gG (wV ho hbase hline) ?_
 rintro σ H R ⟨δ,M,RR,s,h,up⟩
 refine ⟨δ,M,_,s,h,fun d M1 h1 v H1 rh1 i1 r1=>?_⟩
 split at h1
 ·rename_i a
  cases r1
  split at h1
  ·rename_i kvs e
   obtain ⟨ws,h2,h3⟩:=rh1 _ _ e;refine ⟨a,ws,rfl,h2,fun od=>up _ _ h1 _ _ (rh1.freezeT h2) (i1.trans (Frm.del ⟨_,e⟩)) fun i H2 M2 i2 rh2 _=>⟨fun d hd=>?_,fun hle=>?_⟩⟩
   ·have ha:H2 a=some (.frz od (.dT ws)):=i2.frz _ _ _ upd_same
    unfold ib at hd;rw [GU] at hd;obtain ⟨p,hp,rfl⟩:=IC.mp hd;obtain ⟨ks,pd⟩:=p;obtain ⟨x,hx,rx⟩:=xt h3 hp;refine ⟨⟨ha,by rw [<- h3.length];exact (HU.mp hp).1⟩,?_⟩
    rintro y H3 ⟨T,ks',x',b,q1,q2,q3,rfl,rfl⟩
    rw [hx] at q1;cases q1;have i3:Imm H2 (upd H2 T (.tup [.ref b,x])):=Imm.new q3;have im1:Imm H1 (upd H1 a (.frz od (.dT ws))):=Imm.upd (by rw [h2];trivial)
    exact ⟨Frm.new q3,rh2.new q3,T,_,rfl,upd_same,.cons ⟨b,_,rfl,i3.tup _ _ q2,mZ ks⟩ (.cons (((rx.mono im1).mono i2).mono i3) .nil)⟩
   ·exact ⟨i2.frz _ _ _ upd_same,by rw [<- h3.length];simpa [ib] using hle⟩
  ·exact h1.elim
 ·exact h1.elim
end
end L3
namespace LS
open PySem PySem.W PySem.Calls PyProof.Rows PyProof.V PySem.Spec L2
section
variable {prog:Program}{w:World}{A:Around}{E:Value->Shared->Prop}{s:Shared}
end
end LS
namespace L2
open PySem PySem.Spec PyProof.Rows LS
section
variable {X:Cx}{pins:List (Addr×Obj)}{σ:St}{H:Hp}{s:Shared}
end
end L2
namespace L3
open PySem L2 LS
section
variable {X:Cx}{B:Bd}{K:GH}{H:Hp}
def EI(M:Mem):D->Bool
 |.ref a=>match M a with
  |some (.dK _)=>true
  |some (.dT _)=>true
  |_=>false
 |_=>false
def we(td ty:bN):bN:=fun δ M Q=>td δ M fun x M1=>EI M1 x=true/\ty δ M1 fun y M2=>match x with
 |.ref a=>match kh M2 a y with
  |some (some v)=>Q v M2
  |some none=>Q .non M2
  |none=>False
 |_=>False
def xQ(td ty tx:bN):bN:=fun δ M Q=>td δ M fun x M1=>EI M1 x=true/\ty δ M1 fun y M2=>tx δ M2 fun z M3=>match x with
 |.ref a=>match kh M3 a y with
  |some (some v)=>Q v M3
  |some none=>Q z M3
  |none=>False
 |_=>False
theorem xf{M:Mem}{x:D}{v:V}(rh:RepH K H M)(r:Rp K H x v)(e:EI M x=true):∃a,x=.ref a/\v=.ref a/\IsD H a:=by
 cases x with
 |ref a=>
  cases r;refine ⟨a,rfl,rfl,?_⟩;simp only [EI] at e
  split at e
  ·rename_i q;obtain ⟨ws,h1,_⟩:=rh _ _ q;exact .inl ⟨ws,.inl h1⟩
  ·rename_i q;obtain ⟨ws,h1,_⟩:=rh _ _ q;exact .inr ⟨ws,.inl h1⟩
  ·cases e
 |_=>cases e
theorem Ag{o e:Expr}{to te:bN}{apos cpos:Pos}(hu:X.A.units+64<cLine)(ho:DE X B o to)(he:DE X B e te)(m:M1 X o "get" apos e cpos):DE X B (.Call (.Attribute o "get" apos) [e] [] cpos) (we to te):=by
 refine bo (wX (by lia) ho he m) ?_
 rintro σ H Q ⟨δ,M,QQ,s,h,u⟩
 refine ⟨δ,M,_,s,h,fun x M1 h1 v1 H1 rh1 i1 r1=>?_⟩;obtain ⟨a,rfl,rfl,hd⟩:=xf rh1 r1 h1.1;refine ⟨a,rfl,hd,δ,M1,_,s.go rh1 i1,h1.2,fun y M2 h2 v2 H2 rh2 i2 r2=>?_⟩;dsimp only at h2
 split at h2
 ·rename_i d e
  rcases eK rh2 r2 e with ⟨q,_⟩|⟨d',w,q,g,rw'⟩
  ·cases q
  ·cases q
   exact ⟨_,g,u _ M2 h2 _ H2 rh2 (i1.trans i2) rw'⟩
 ·rename_i e
  rcases eK rh2 r2 e with ⟨_,g⟩|⟨d',w,q,g,rw'⟩
  ·exact ⟨_,g,u _ M2 h2 _ H2 rh2 (i1.trans i2) rfl⟩
  ·cases q
 ·exact h2.elim
theorem Af{o e f:Expr}{to te tf:bN}{apos cpos:Pos}(hu:X.A.units+64<cLine)(ho:DE X B o to)(he:DE X B e te)(hf:DE X B f tf)(m:M2 X o "get" apos e f cpos):DE X B (.Call (.Attribute o "get" apos) [e,f] [] cpos) (xQ to te tf):=by
 refine bo (xm (by lia) ho he hf m) ?_
 rintro σ H Q ⟨δ,M,QQ,s,h,u⟩
 refine ⟨δ,M,_,s,h,fun x M1 h1 v1 H1 rh1 i1 r1=>?_⟩;obtain ⟨a,rfl,rfl,hd⟩:=xf rh1 r1 h1.1;refine ⟨a,rfl,hd,δ,M1,_,s.go rh1 i1,h1.2,fun y M2 h2 v2 H2 rh2 i2 r2=>?_⟩;refine ⟨δ,M2,_,(s.go rh1 i1).go rh2 i2,h2,fun z M3 h3 v3 H3 rh3 i3 r3=>?_⟩;dsimp only at h3;have r2':=r2.mf rh2 i3
 split at h3
 ·rename_i d e
  rcases eK rh3 r2' e with ⟨q,_⟩|⟨d',w,q,g,rw'⟩
  ·cases q
  ·cases q
   exact ⟨_,g,u _ M3 h3 _ H3 rh3 ((i1.trans i2).trans i3) rw'⟩
 ·rename_i e
  rcases eK rh3 r2' e with ⟨_,g⟩|⟨d',w,q,g,rw'⟩
  ·exact ⟨_,g,u _ M3 h3 _ H3 rh3 ((i1.trans i2).trans i3) r3⟩
  ·cases q
 ·exact h3.elim
end
end L3
namespace LS
open PySem PySem.W PySem.Calls PyProof.Rows PyProof.V PySem.Spec L2
theorem ze{prog:Program}{w:World}{A:Around}{E:Value->Shared->Prop}{s:Shared}{d:Addr}{o:Obj}{es:Array DictEntry}{ep:Nat}{Q:Value->Shared->Prop}(hd:(d==sysModules)=false)(ho:s.heap.get? d=some o)(hc:o.ExactDict)(hdat:o.data=.dict es ep)(hfit:(es.size:Int)<2 ^ 63)
  (h:Q (.int es.size (s.toks+1)) { s with toks:=s.toks+1+1 }):wpAny (model prog w) A (call (.builtin "len") [.ref d]) Q E s:=by
 have hT:s.TypeIs (.ref d) "dict":=⟨o,ho,hc.1⟩;refine Calls.call_function_entry kind_len plain_len entry_len (args_len1 _) ?_;unfold Builtin.«len»;refine wpAny_bind (m:=oneArg "len" _) (wpAny_pure (wpAny_bind (m:=callSpecial? (.ref d) (Hy "__len__")) (wpAny_callSpecial?_slot (name:=Hy "__len__") hT Li (wpAny_call_entry Li hT PySem.F.entry_dict_len ?_ (PySem.F.args_dict_len_1 _)))));show wpAny _ _ (dictSize d >>= _) _ _ s;unfold dictSize;refine wpAny_bind (wpAny_bind (wpAny_dictEntries ho hdat (wpAny_pure ?_)));show wpAny _ _ (Builtin.Dict.pendingCount d >>= _) _ _ s;refine wpAny_bind (wpAny_pendingCount_other hd (wpAny_ret_mkInt ?_));rw [Int.natCast_zero,Int.add_zero];show wpAny _ _ _ _ _ { s with toks:=s.toks+1 };refine wpAny_bind (wpAny_holding (wpAny_pure ?_));refine wpAny_bind (wpAny_letGo ?_);show wpAny _ _ (if ((es.size:Nat):Int)<0 then _ else _) _ _ _
 rw [if_neg (by lia)]
 show wpAny _ _ (if ((es.size:Nat):Int)>=2 ^ 63 then _ else _) _ _ _
 rw [if_neg (by lia)]
 exact wpAny_bind (wpAny_mkInt (wpAny_pure ⟨_,rfl,h⟩))
end LS
namespace L3
open PySem L2 LS
section
variable {X:Cx}{B:Bd}
def rA:sh:=fun ds M Q=>match ds with
 |[.ref a]=>match M a with
  |some (.dT kvs)=>Q (.int kvs.length) M
  |_=>False
 |_=>False
theorem qZ:cA X (.builtin "len") (liftC X rA):=by
 intro pins s σ H xs us Q I r h;obtain ⟨ds,M,QQ,rh,rp,h,up⟩:=h;unfold rA at h
 split at h
 ·rename_i a
  obtain ⟨v,rfl,rv⟩:=gp (ds:=[]) rp;cases rv
  split at h
  ·rename_i kvs e
   obtain ⟨u,rfl,ru⟩:=r.one;cases ru;obtain ⟨ws,h1,h2⟩:=rh _ _ e;obtain ⟨z,y,xs,rr,o,es,ep,g1,g2,g3,g4,g5⟩:=(show ObjOk X.prog X.w H s.heap a (.dT ws) from I.hok a _ h1);have hs:es.size=kvs.length:=by rw [<- Iz,g4,GF,<- Ik rr,<- h2.length]
   refine ze y g1 g2 g3 ?_ ?_
   ·rw [hs,h2.length];rw [sizeLine_eq] at z;lia
   ·rw [hs]
    exact ⟨.int kvs.length,H,I.tok _,⟨_,rfl⟩,up _ M h _ H rh Frm.refl rfl⟩
  ·exact h.elim
 ·exact h.elim
end
end L3
namespace L3
open PySem PySem.W PySem.Calls PyProof.Rows PyProof.V PySem.Spec L2
section
variable {X:Cx}{B:Bd}{pins:List (Addr×Obj)}{σ:L2.St}{H:Hp}{s:Shared}{M:Mem}
def k8:sh:=fun ds M Q=>match ds with
 |[d]=>cj 60 (dv M d)=true/\(dM (dv M d)).showable=true/\(dM (dv M d)).shown.length<=sizeLine/\Q (.str (dM (dv M d)).shown) M
 |_=>False
theorem jv(hg:X.A.guards=some [])(hu:X.A.units+64<cLine):cA X (.builtin "repr") (liftC X k8):=by
 intro pins s σ H xs us Q I r h;obtain ⟨ds,M,QQ,rh,rp,h,up⟩:=h;unfold k8 at h
 split at h
 ·rename_i d
  obtain ⟨hf,hs,hz,h⟩:=h;obtain ⟨v,rfl,rv⟩:=gp (ds:=[]) rp;obtain ⟨u,rfl,ru⟩:=gn r;have q:=jR I rh hf rv ru;have hd:=jP 60 _ hf;obtain ⟨as,rd⟩:=jZ _ _ q;have fin:∀(t:Tok) (tk:Nat) (h':Heap),(∀b o,s.heap.get? b=some o->h'.get? b=some o)->EP X pins σ Q (.str (dM (dv M d)).shown t) { s with heap:=h',toks:=tk }:=fun t tk h' hk=>
   ⟨.str _,H,I.kept (t':=tk) fun b o e=>hk b o e,⟨_,rfl⟩,up _ M h _ H rh Frm.refl rfl⟩
  generalize dv M d=e at hf hs hz q hd rd fin;cases e with
  |non=>cases q;exact Lu (fin _ _ _ fun _ _ e=>e)
  |bl b=>cases q;exact Lv (fin _ _ _ fun _ _ e=>e)
  |int i=>
   obtain ⟨t,rfl⟩:=q;exact LC (by simpa [dM,Jh] using hs) (fin _ _ _ fun _ _ e=>e)
  |str x=>
   obtain ⟨t,rfl⟩:=q;exact LB (fin _ _ _ fun _ _ e=>e) hz
  |tup xs=>
   obtain ⟨p,its,rfl,_⟩:=q;exact repr_of_reads' rd hs (Jt (jN _)) hg (by lia) (fun _ _ e=>e) (fun h' u tk hk=>fin u tk h' hk) hz
  |lst xs=>
   obtain ⟨p,its,rfl,_⟩:=q;exact repr_of_reads' rd hs (Jt (jN _)) hg (by lia) (fun _ _ e=>e) (fun h' u tk hk=>fin u tk h' hk) hz
  |_=>exact q.elim
 ·exact h.elim
theorem Bj(I:Inv X pins σ H s){d:D}{v:V}{u:Value}{xs:List D}(rh:RepH X.K H M)(e:dv M d=.lst xs)(r:Rp X.K H d v)(q:RelV v u):∃p its,u=.ref p/\s.heap.IsList p (LH its)/\its.length=xs.length:=by
 cases d with
 |ref a=>
  cases r;simp only [dv] at e
  split at e
  ·rename_i xs' e'
   cases e;obtain ⟨vs,h1,h2⟩:=rh _ _ e';obtain ⟨its,rv,ht,_⟩:=I.list (gj h1);cases q;exact ⟨a,its,rfl,ht.isList,by rw [<- rv.length,h2.length]⟩
  ·cases e
 |lst ys=>
  cases e;obtain ⟨p,vs,rfl,t,r⟩:=r;cases q;obtain ⟨its,rv,ht,_⟩:=I.list t.sq;exact ⟨p,its,rfl,ht.isList,by rw [<- rv.length,r.length]⟩
 |_=>cases e
def CQ:gk:=fun x y M Q=>match dv M x,dv M y with
 |.lst xs,.lst ys=>xs.length≠ys.length/\Q (.bl false) M
 |_,_=>False
theorem Db(hu:X.A.units+64<cLine):dm X (compareOp .Eq) (liftR2 X CQ):=by
 intro pins s σ H x y v u Q I rx ry h;obtain ⟨d1,d2,M,QQ,rh,r1,r2,h,up⟩:=h;unfold CQ at h
 split at h
 ·rename_i xs ys e1 e2
  obtain ⟨hne,h⟩:=h;obtain ⟨p,its,rfl,t1,l1⟩:=Bj I rh e1 r1 rx;obtain ⟨p',its',rfl,t2,l2⟩:=Bj I rh e2 r2 ry;exact Jn t1 t2 (by simp;lia) (by lia) _ _ _ _ ⟨.bl _,H,I,rfl,up _ M h _ H rh Frm.refl rfl⟩
 ·exact h.elim
end
end L3
namespace Tw
open PySem L2 L3
def de(i:Nat):Stmt:=PySem.Challenge.pw_twinstride_k65_narrowed.main.body.getD i (.Pass ⟨0,0,0,0⟩)
abbrev E4:Stmt:=fG (de 5) 0
abbrev E9:Stmt:=fG (de 5) 1
abbrev vi:Stmt:=fG (de 5) 2
abbrev xU:Stmt:=de 6
abbrev vZ:Stmt:=de 7
abbrev wP:Stmt:=de 8
abbrev xW:Stmt:=de 9
abbrev xg:Stmt:=de 10
abbrev xz:Stmt:=de 11
abbrev xC:Stmt:=de 12
abbrev vD:Stmt:=de 13
abbrev wl:Stmt:=de 14
abbrev y4:Stmt:=de 16
abbrev vS:Stmt:=de 17
abbrev xS:Stmt:=de 19
abbrev vV:Stmt:=de 21
abbrev y8:Stmt:=de 22
abbrev wT:Stmt:=de 23
abbrev Cs:Stmt:=de 24
abbrev vY:Stmt:=de 25
abbrev BN:Stmt:=fG (de 27) 0
abbrev xF:Stmt:=fG (de 27) 1
abbrev Cg:Stmt:=fG (de 27) 2
abbrev va:Stmt:=de 28
abbrev xM:Stmt:=de 29
abbrev wc:Stmt:=de 30
abbrev wK:Stmt:=de 32
abbrev vA:Stmt:=de 33
abbrev wA:Stmt:=de 34
abbrev xZ:Stmt:=de 35
abbrev vj:Stmt:=de 36
abbrev BP:Stmt:=de 37
abbrev xN:Stmt:=de 38
abbrev y9:Stmt:=de 39
abbrev vF:Stmt:=de 40
abbrev w4:Stmt:=de 41
abbrev wo:Stmt:=de 42
abbrev xK:Stmt:=de 43
abbrev CA:Stmt:=de 44
abbrev wy:Stmt:=de 45
abbrev BS:Stmt:=de 46
abbrev vb:Stmt:=de 47
abbrev vg:Stmt:=de 48
abbrev wq:Stmt:=de 49
abbrev y6:Stmt:=de 50
abbrev Cy:Stmt:=de 51
abbrev wZ:Stmt:=de 52
abbrev Cu:Stmt:=de 53
abbrev gS:Stmt:=de 54
theorem Gi:FnScope ["self","plan","stand","most"] ["self","plan","stand","most"] (az E4):=⟨rfl,rfl,rfl,by decide +kernel,rfl,by decide +kernel,by decide +kernel⟩
theorem Fk:FnScope ["self","place","number"] ["self","place","number"] (az E9):=⟨rfl,rfl,rfl,by decide +kernel,rfl,by decide +kernel,by decide +kernel⟩
theorem P5:FnScope ["self","place","name","seen"] ["self","place","name"] (az vi):=⟨rfl,rfl,rfl,by decide +kernel,rfl,by decide +kernel,by decide +kernel⟩
theorem P6:FnScope ["plan","stand","most","walk"] ["plan","stand","most"] (az xU):=⟨rfl,rfl,rfl,by decide +kernel,rfl,by decide +kernel,by decide +kernel⟩
theorem P7:FnScope ["plan","stand","most","end"] ["plan","stand","most"] (az vZ):=⟨rfl,rfl,rfl,by decide +kernel,rfl,by decide +kernel,by decide +kernel⟩
theorem OH:FnScope ["walk","rows","place","j","row"] ["walk","rows","place"] (az wP):=⟨rfl,rfl,rfl,by decide +kernel,rfl,by decide +kernel,by decide +kernel⟩
theorem P8:FnScope ["walk","row","place","number"] ["walk","row","place"] (az xW):=⟨rfl,rfl,rfl,by decide +kernel,rfl,by decide +kernel,by decide +kernel⟩
theorem P9:FnScope ["walk","row","place","seen"] ["walk","row","place"] (az xg):=⟨rfl,rfl,rfl,by decide +kernel,rfl,by decide +kernel,by decide +kernel⟩
theorem OI:FnScope ["walk","row","place","turn"] ["walk","row","place"] (az xz):=⟨rfl,rfl,rfl,by decide +kernel,rfl,by decide +kernel,by decide +kernel⟩
theorem Qa:FnScope ["plan","numbers","pieces","row","piece"] ["plan","numbers","pieces","row"] (az xC):=⟨rfl,rfl,rfl,by decide +kernel,rfl,by decide +kernel,by decide +kernel⟩
theorem CI:FnScope ["plan","numbers","row"] ["plan","numbers","row"] (az vD):=⟨rfl,rfl,rfl,by decide +kernel,rfl,by decide +kernel,by decide +kernel⟩
theorem CP:FnScope ["word","y","z","wheel"] ["word","y","z","wheel"] (az wl):=⟨rfl,rfl,rfl,by decide +kernel,rfl,by decide +kernel,by decide +kernel⟩
theorem Dp:FnScope ["plan"] ["plan"] (az y4):=⟨rfl,rfl,rfl,by decide +kernel,rfl,by decide +kernel,by decide +kernel⟩
theorem Ez:FnScope ["plan","stand","thing"] ["plan","stand","thing"] (az vS):=⟨rfl,rfl,rfl,by decide +kernel,rfl,by decide +kernel,by decide +kernel⟩
theorem Dn:FnScope ["plan","one","other"] ["plan","one","other"] (az xS):=⟨rfl,rfl,rfl,by decide +kernel,rfl,by decide +kernel,by decide +kernel⟩
theorem OJ:FnScope ["case","sound","faulty"] ["case"] (az vV):=⟨rfl,rfl,rfl,by decide +kernel,rfl,by decide +kernel,by decide +kernel⟩
theorem CO:FnScope ["case"] ["case"] (az y8):=⟨rfl,rfl,rfl,by decide +kernel,rfl,by decide +kernel,by decide +kernel⟩
theorem OK:FnScope ["case","mix","names","pieces"] ["case","mix"] (az wT):=⟨rfl,rfl,rfl,by decide +kernel,rfl,by decide +kernel,by decide +kernel⟩
theorem Fc:FnScope ["case","mix","thing"] ["case","mix","thing"] (az Cs):=⟨rfl,rfl,rfl,by decide +kernel,rfl,by decide +kernel,by decide +kernel⟩
theorem BW:FnScope ["two","one"] ["two","one"] (az vY):=⟨rfl,rfl,rfl,by decide +kernel,rfl,by decide +kernel,by decide +kernel⟩
theorem Gd:FnScope ["self","case"] ["self","case"] (az BN):=⟨rfl,rfl,rfl,by decide +kernel,rfl,by decide +kernel,by decide +kernel⟩
theorem DU:FnScope ["self","mix"] ["self","mix"] (az xF):=⟨rfl,rfl,rfl,by decide +kernel,rfl,by decide +kernel,by decide +kernel⟩
theorem EO:FnScope ["self","mix"] ["self","mix"] (az Cg):=⟨rfl,rfl,rfl,by decide +kernel,rfl,by decide +kernel,by decide +kernel⟩
theorem NN:FnScope ["case","askings","things","cause"] ["case"] (az va):=⟨rfl,rfl,rfl,by decide +kernel,rfl,by decide +kernel,by decide +kernel⟩
theorem NO:FnScope ["askings","cause","middle"] ["askings","cause"] (az xM):=⟨rfl,rfl,rfl,by decide +kernel,rfl,by decide +kernel,by decide +kernel⟩
theorem MP:FnScope ["askings","cause","at","staying","less"] ["askings","cause"] (az wc):=⟨rfl,rfl,rfl,by decide +kernel,rfl,by decide +kernel,by decide +kernel⟩
theorem Ce:FnScope ["_law_script"] ["_law_script"] (az wK):=⟨rfl,rfl,rfl,by decide +kernel,rfl,by decide +kernel,by decide +kernel⟩
theorem Nc:FnScope ["_law_tape_here","_law_many","_law_digit","_law_at","_law_cell","_law_mixed"] ["_law_tape_here","_law_many"] (az vA):=⟨rfl,rfl,rfl,by decide +kernel,rfl,by decide +kernel,by decide +kernel⟩
theorem NP:FnScope ["_law_tape_here","_law_all","_law_turn"] ["_law_tape_here"] (az wA):=⟨rfl,rfl,rfl,by decide +kernel,rfl,by decide +kernel,by decide +kernel⟩
theorem Nl:FnScope ["_law_tape_here","_law_frame","_law_some","_law_x","_law_y","_law_z","_law_way"] ["_law_tape_here","_law_frame"] (az xZ):=⟨rfl,rfl,rfl,by decide +kernel,rfl,by decide +kernel,by decide +kernel⟩
theorem Nd:FnScope ["_law_tape_here","_law_frame","_law_deep","_law_some","_law_c","_law_d","_law_way","_law_body","_law_first"] ["_law_tape_here","_law_frame","_law_deep"] (az vj):=⟨rfl,rfl,rfl,by decide +kernel,rfl,by decide +kernel,by decide +kernel⟩
theorem Nm:FnScope ["_law_tape_here","_law_frame","_law_many","_law_deep","_law_rows","_law_k","_law_way","_law_some","_law_name","_law_first","_law_other"] ["_law_tape_here","_law_frame","_law_many","_law_deep"] (az BP):=⟨rfl,rfl,rfl,by decide +kernel,rfl,by decide +kernel,by decide +kernel⟩
theorem Nu:FnScope ["_law_tape_here","_law_most","_law_wheel","_law_frame","_law_rows","_law_mark"] ["_law_tape_here","_law_most"] (az xN):=⟨rfl,rfl,rfl,by decide +kernel,rfl,by decide +kernel,by decide +kernel⟩
theorem Nv:FnScope ["_law_tape_here","_law_plan_here","_law_numbers","_law_k","_law_number","_law_cut"] ["_law_tape_here","_law_plan_here"] (az y9):=⟨rfl,rfl,rfl,by decide +kernel,rfl,by decide +kernel,by decide +kernel⟩
theorem Ng:FnScope ["_law_here","_law_row","_law_numbers","_law_piece","_law_one","_law_other","_law_all"] ["_law_here","_law_row"] (az vF):=⟨rfl,rfl,rfl,by decide +kernel,rfl,by decide +kernel,by decide +kernel⟩
theorem Nw:FnScope ["_law_here","_law_rows","_law_row","_law_turns","_law_truth"] ["_law_here","_law_rows"] (az w4):=⟨rfl,rfl,rfl,by decide +kernel,rfl,by decide +kernel,by decide +kernel⟩
theorem El:FnScope ["_law_plan_here","_law_stand_here","_law_most"] ["_law_plan_here","_law_stand_here","_law_most"] (az wo):=⟨rfl,rfl,rfl,by decide +kernel,rfl,by decide +kernel,by decide +kernel⟩
theorem Qb:FnScope ["_law_plan_here","_law_stand_here","_law_most","_law_here"] ["_law_plan_here","_law_stand_here","_law_most"] (az xK):=⟨rfl,rfl,rfl,by decide +kernel,rfl,by decide +kernel,by decide +kernel⟩
theorem ND:FnScope ["_law_tape_here","_law_plan_here","_law_first","_law_second","_law_found","_law_one","_law_other"] ["_law_tape_here","_law_plan_here"] (az CA):=⟨rfl,rfl,rfl,by decide +kernel,rfl,by decide +kernel,by decide +kernel⟩
theorem MT:FnScope ["_law_tape_here","_law_plan_here","_law_one","_law_other","_law_few","_law_numbers","_law_others","_law_turn","_law_k","_law_at","_law_cut"] ["_law_tape_here","_law_plan_here","_law_one","_law_other","_law_few"] (az wy):=⟨rfl,rfl,rfl,by decide +kernel,rfl,by decide +kernel,by decide +kernel⟩
theorem NS:FnScope ["_law_tape_here","_law_plan_here","_law_all","_law_word","_law_one","_law_other"] ["_law_tape_here","_law_plan_here"] (az BS):=⟨rfl,rfl,rfl,by decide +kernel,rfl,by decide +kernel,by decide +kernel⟩
theorem MI:FnScope ["_law_tape_here","_law_rows","_law_most","_law_few","_law_plan_here","_law_rows_here","_law_turn","_law_one","_law_other","_law_here","_law_there","_law_long","_law_numbers","_law_pieces","_law_marked"] ["_law_tape_here","_law_rows","_law_most","_law_few"] (az vb):=⟨rfl,rfl,rfl,by decide +kernel,rfl,by decide +kernel,by decide +kernel⟩
theorem Ds:FnScope ["_law_plan_here"] ["_law_plan_here"] (az vg):=⟨rfl,rfl,rfl,by decide +kernel,rfl,by decide +kernel,by decide +kernel⟩
theorem NQ:FnScope ["_law_plan_here","_law_one","_law_other","_law_all","_law_numbers","_law_others"] ["_law_plan_here","_law_one","_law_other"] (az wq):=⟨rfl,rfl,rfl,by decide +kernel,rfl,by decide +kernel,by decide +kernel⟩
theorem MM:FnScope ["_law_case_here","_law_mix","_law_plan_here","_law_one","_law_other","_law_most","_law_all","_law_numbers","_law_others","_law_k","_law_cut"] ["_law_case_here","_law_mix"] (az y6):=⟨rfl,rfl,rfl,by decide +kernel,rfl,by decide +kernel,by decide +kernel⟩
theorem NF:FnScope ["_law_case_here","_law_mix","_law_plan_here","_law_one","_law_other","_law_most","_law_found"] ["_law_case_here","_law_mix"] (az Cy):=⟨rfl,rfl,rfl,by decide +kernel,rfl,by decide +kernel,by decide +kernel⟩
theorem BZ:FnScope ["_law_all","_law_thing"] ["_law_all","_law_thing"] (az wZ):=⟨rfl,rfl,rfl,by decide +kernel,rfl,by decide +kernel,by decide +kernel⟩
theorem NT:FnScope ["_law_case_here","_law_all","_law_found","_law_known","_law_row","_law_cause","_law_k"] ["_law_case_here","_law_all","_law_found"] (az Cu):=⟨rfl,rfl,rfl,by decide +kernel,rfl,by decide +kernel,by decide +kernel⟩
theorem sc_law:FnScope ["_law_script","_law_tape_here","_law_case_here","_law_all","_law_again","_law_found"] ["_law_script"] (az gS):=⟨rfl,rfl,rfl,by decide +kernel,rfl,by decide +kernel,by decide +kernel⟩
end Tw
namespace Tw
open PySem L2 L3
set_option genInjectivity false in
structure Ad where
 C_Askings:Addr
 C_Walk:Addr
 C_Dry:Addr
 C_NoCase:Addr
 Qc:Addr
 QU:FuncData
 Qd:Addr
 QW:FuncData
 NU:Addr
 OU:FuncData
 NV:Addr
 OV:FuncData
 NW:Addr
 OW:FuncData
 MU:Addr
 MW:FuncData
 MX:Addr
 Ni:FuncData
 MY:Addr
 Nj:FuncData
 MZ:Addr
 Nk:FuncData
 NX:Addr
 OX:FuncData
 NY:Addr
 OY:FuncData
 NZ:Addr
 OZ:FuncData
 N0:Addr
 O0:FuncData
 N5:Addr
 Pa:FuncData
 N6:Addr
 Pb:FuncData
 N7:Addr
 Pc:FuncData
 N8:Addr
 Pd:FuncData
 N9:Addr
 Pe:FuncData
 Qe:Addr
 QX:FuncData
 Oa:Addr
 Pf:FuncData
 Qf:Addr
 QY:FuncData
 Ob:Addr
 Pg:FuncData
 Qg:Addr
 QZ:FuncData
 Oc:Addr
 Ph:FuncData
 Oe:Addr
 Pj:FuncData
 Of:Addr
 Pk:FuncData
 Og:Addr
 Pl:FuncData
 Oh:Addr
 Pm:FuncData
 Oi:Addr
 Pn:FuncData
 Oj:Addr
 Po:FuncData
 Np:Addr
 Nx:FuncData
 NR:Addr
 Ol:FuncData
 Om:Addr
 Pp:FuncData
 Oo:Addr
 Pq:FuncData
 Oq:Addr
 Pr:FuncData
 Nq:Addr
 Ny:FuncData
 Ot:Addr
 Pu:FuncData
 Ou:Addr
 Pw:FuncData
 Qh:Addr
 Q0:FuncData
 Ov:Addr
 Px:FuncData
 Qi:Addr
 Q1:FuncData
 Ow:Addr
 Py:FuncData
 Ox:Addr
 Pz:FuncData
 Oy:Addr
 PB:FuncData
 Oz:Addr
 PC:FuncData
 Qj:Addr
 Q4:FuncData
 OA:Addr
 PD:FuncData
 Qk:Addr
 Q5:FuncData
 a_law:Addr
 d_law:FuncData
def Dh(ad:Ad)(EE:DX):aG:=
 (aw (gB ad.C_Walk (aa 0) (aa 3) "most")
  (gB ad.C_Walk (aa 0) (ce dNil) "steps"))
def Eh(ad:Ad)(EE:DX):aG:=
 (aw (gB ad.C_Walk (aa 0) (au aO (aa 2) (dC (.int 1))) "pieces")
  (Dh ad EE))
def Dw(ad:Ad)(EE:DX):aG:=
 (aw (gB ad.C_Walk (aa 0) (gC (a9 (au aO (aa 1) (dC (.int 1))) (a9 (au aO (aa 2) (dC (.int 0))) dNil))) "numbers")
  (Eh ad EE))
def wH(ad:Ad)(EE:DX):aG:=
 (aw (gB ad.C_Walk (aa 0) (aa 1) "plan")
  (Dw ad EE))
def zt(ad:Ad):Sd:=bh ["self","plan","stand","most"] (wH ad)
theorem u_q7{ad:Ad}{n:Nat}{x0 x1 x2 x3:D}{M:Mem}{Q:DK}{E:DX}:zt ad [x0,x1,x2,x3] M Q E=wH ad (aU E) { nx:=fun _ M'=>drp Q .non M',rt:=drp Q } [some x0,some x1,some x2,some x3] M:=rfl
def C4(ad:Ad)(EE:DX):aG:=
 (bZ (rf "list" cH (dl ad.C_Walk (aa 0) "steps") (a9 (bJ (a9 (aa 1) (a9 (aa 2) dNil))) dNil)))
def wm(ad:Ad)(EE:DX):aG:=
 (aw (bp (aL (au oGe (bD bK (a9 (dl ad.C_Walk (aa 0) "steps") dNil)) (dl ad.C_Walk (aa 0) "most"))) (n4 ad.C_Dry EE) bn)
  (C4 ad EE))
def ql(ad:Ad):Sd:=bh ["self","place","number"] (wm ad)
theorem u_q5{ad:Ad}{n:Nat}{x0 x1 x2:D}{M:Mem}{Q:DK}{E:DX}:ql ad [x0,x1,x2] M Q E=wm ad (aU E) { nx:=fun _ M'=>drp Q .non M',rt:=drp Q } [some x0,some x1,some x2] M:=rfl
def zo(ad:Ad)(EE:DX):aG:=
 (aw (bZ (dY ad.C_Walk "note_step" (ql ad) EE 3 (aa 0) (a9 (aa 1) (a9 (aa 3) dNil))))
  (aZ (aa 3)))
def nR(ad:Ad)(EE:DX):aG:=
 (aw (aE (EK (aL (au eJ (au aO (dl ad.C_Walk (aa 0) "numbers") (aa 2)) (dC (.int 0)))) (dC (.int 0)) (dC (.int 1))) (ap 3))
  (zo ad EE))
def ld(ad:Ad):Sd:=bh ["self","place","name","seen"] (nR ad)
theorem FD{ad:Ad}{n:Nat}{x0 x1 x2:D}{M:Mem}{Q:DK}{E:DX}:ld ad [x0,x1,x2] M Q E=nR ad (aU E) { nx:=fun _ M'=>drp Q .non M',rt:=drp Q } [some x0,some x1,some x2,none] M:=rfl
def yG(ad:Ad)(EE:DX):aG:=
 (aZ (au dP (aB (au bR (aa 1) (aa 2))) (aa 3)))
def za(ad:Ad)(EE:DX):aG:=
 (aZ (EK (aL (au v0 (aa 1) (aa 2))) (dC (.int 1)) (dC (.int 0))))
def yT(ad:Ad)(EE:DX):aG:=
 (aZ (EK (aL (au eJ (aa 1) (aa 2))) (dC (.int 1)) (dC (.int 0))))
def Am(ad:Ad)(EE:DX):aG:=
 (aw (bp (aL (au eJ (aa 0) (dC (.str "less")))) (za ad EE) bn)
  (yT ad EE))
def AB(ad:Ad)(EE:DX):aG:=
 (aw (bp (aL (au eJ (aa 0) (dC (.str "by")))) (aZ (au dP (au fA (aa 1) (aa 2)) (aa 3))) bn)
  (Am ad EE))
def nw(ad:Ad)(EE:DX):aG:=
 (aw (bp (aL (au eJ (aa 0) (dC (.str "sum")))) (yG ad EE) bn)
  (AB ad EE))
def sO(ad:Ad):Sd:=bh ["word","y","z","wheel"] (nw ad)
theorem ER{ad:Ad}{n:Nat}{x0 x1 x2 x3:D}{M:Mem}{Q:DK}{E:DX}:sO ad [x0,x1,x2,x3] M Q E=nw ad (aU E) { nx:=fun _ M'=>drp Q .non M',rt:=drp Q } [some x0,some x1,some x2,some x3] M:=rfl
def A3(ad:Ad)(EE:DX):aG:=
 (aZ (au dP (au aO (aa 1) (au aO (aa 2) (dC (.int 2)))) (au aO (aa 0) (dC (.int 2)))))
def zB(ad:Ad)(EE:DX):aG:=
 (aw (bp (aL (au eJ (au aO (aa 2) (dC (.int 0))) (dC (.str "pick")))) (A3 ad EE) bn)
  (aZ (dC .non)))
def ik(ad:Ad)(EE:DX):aG:=
 (aw (bp (aL (au eJ (au aO (aa 2) (dC (.int 0))) (dC (.str "take")))) (aZ (au aO (aa 2) (dC (.int 2)))) bn)
  (zB ad EE))
def sj(ad:Ad):Sd:=bh ["plan","numbers","row"] (ik ad)
theorem r_{ad:Ad}{n:Nat}{x0 x1 x2:D}{M:Mem}{Q:DK}{E:DX}:sj ad [x0,x1,x2] M Q E=ik ad (aU E) { nx:=fun _ M'=>drp Q .non M',rt:=drp Q } [some x0,some x1,some x2] M:=rfl
def AZ(ad:Ad)(EE:DX):aG:=
 (aZ (aA (sO ad) EE 4 (a9 (au aO (aa 3) (dC (.int 0))) (a9 (au aO (aa 1) (au aO (aa 3) (dC (.int 2)))) (a9 (au aO (aa 1) (au aO (aa 3) (dC (.int 3)))) (a9 (au aO (aa 0) (dC (.int 0))) dNil))))))
def Ba(ad:Ad)(EE:DX):aG:=
 (aw (bp (aL (au wQ (aa 4) (dC .non))) (aZ (au aO (aa 2) (aa 4))) bn)
  (AZ ad EE))
def zr(ad:Ad)(EE:DX):aG:=
 (aw (aE (aB (aA (sj ad) EE 3 (a9 (aa 0) (a9 (aa 1) (a9 (aa 3) dNil))))) (ap 4))
  (Ba ad EE))
def ij(ad:Ad)(EE:DX):aG:=
 (aw (bp (aL (au eJ (au aO (aa 3) (dC (.int 0))) (dC (.str "put")))) (aZ (au aO (aa 3) (dC (.int 2)))) bn)
  (zr ad EE))
def oY(ad:Ad):Sd:=bh ["plan","numbers","pieces","row","piece"] (ij ad)
theorem tM{ad:Ad}{n:Nat}{x0 x1 x2 x3:D}{M:Mem}{Q:DK}{E:DX}:oY ad [x0,x1,x2,x3] M Q E=ij ad (aU E) { nx:=fun _ M'=>drp Q .non M',rt:=drp Q } [some x0,some x1,some x2,some x3,none] M:=rfl
def zC(ad:Ad)(Mr Ms Mu Mv:Sd)(EE:DX):aG:=
 (bZ (aA Ms EE 3 (a9 (aa 0) (a9 (aa 4) (a9 (au bR (aa 2) (bJ (a9 (aa 3) dNil))) dNil)))))
def OB(ad:Ad)(Mr Ms Mu Mv:Sd)(EE:DX):aG:=
 (dFor (BC (a9 (aa 1) dNil)) (fM 2 (bB (ap 3) (bB (ap 4) eM))) (zC ad Mr Ms Mu Mv EE))
def yB(ad:Ad)(Mr Ms Mu Mv:Sd)(EE:DX):aG:=
 (bZ (aA Mu EE 3 (a9 (aa 0) (a9 (aa 1) (a9 (aa 2) dNil)))))
def Bh(ad:Ad)(Mr Ms Mu Mv:Sd)(EE:DX):aG:=
 (bZ (aA Mv EE 3 (a9 (aa 0) (a9 (aa 1) (a9 (aa 2) dNil)))))
def yS(ad:Ad)(Mr Ms Mu Mv:Sd)(EE:DX):aG:=
 (aE (aa 3) (fc (dl ad.C_Walk (aa 0) "numbers") (au aO (aa 1) (dC (.int 1)))))
def AK(ad:Ad)(Mr Ms Mu Mv:Sd)(EE:DX):aG:=
 (aw (bZ (dY ad.C_Walk "note_step" (ql ad) EE 3 (aa 0) (a9 (aa 2) (a9 (aa 3) dNil))))
    (yS ad Mr Ms Mu Mv EE))
def AO(ad:Ad)(Mr Ms Mu Mv:Sd)(EE:DX):aG:=
 (aw (aE (aB (aA (oY ad) EE 4 (a9 (dl ad.C_Walk (aa 0) "plan") (a9 (dl ad.C_Walk (aa 0) "numbers") (a9 (dl ad.C_Walk (aa 0) "pieces") (a9 (aa 1) dNil)))))) (ap 3))
    (AK ad Mr Ms Mu Mv EE))
def Bi(ad:Ad)(Mr Ms Mu Mv:Sd)(EE:DX):aG:=
 (bp (aL (au eJ (au aO (aa 1) (dC (.int 0))) (dC (.str "again")))) (Bh ad Mr Ms Mu Mv EE) (AO ad Mr Ms Mu Mv EE))
def fX(ad:Ad)(Mr Ms Mu Mv:Sd)(EE:DX):aG:=
 (bp (aL (au eJ (au aO (aa 1) (dC (.int 0))) (dC (.str "if")))) (yB ad Mr Ms Mu Mv EE) (Bi ad Mr Ms Mu Mv EE))
def zb(ad:Ad)(Mr Ms Mu Mv:Sd)(EE:DX):aG:=
 (bZ (aA Mr EE 3 (a9 (aa 0) (a9 (EK (aL (au eJ (aa 3) (dC (.int 1)))) (au aO (aa 1) (dC (.int 2))) (au aO (aa 1) (dC (.int 3)))) (a9 (au bR (aa 2) (bJ (a9 (aa 3) dNil))) dNil)))))
def OC(ad:Ad)(Mr Ms Mu Mv:Sd)(EE:DX):aG:=
 (aw (aE (aB (dY ad.C_Walk "look" (ld ad) EE 3 (aa 0) (a9 (aa 2) (a9 (au aO (aa 1) (dC (.int 1))) dNil)))) (ap 3))
  (zb ad Mr Ms Mu Mv EE))
def AT(ad:Ad)(Mr Ms Mu Mv:Sd)(EE:DX):aG:=
 (aw (bZ (aA Mr EE 3 (a9 (aa 0) (a9 (au aO (aa 1) (dC (.int 2))) (a9 (au bR (aa 2) (bJ (a9 (aa 3) dNil))) dNil)))))
   (uk 3 (dC (.int 1)) nL))
def B9(ad:Ad)(Mr Ms Mu Mv:Sd)(EE:DX):aG:=
 (dWhile (aL (au eJ (aB (dY ad.C_Walk "look" (ld ad) EE 3 (aa 0) (a9 (au bR (aa 2) (bJ (a9 (aa 3) dNil))) (a9 (au aO (aa 1) (dC (.int 1))) dNil)))) (dC (.int 1)))) (AT ad Mr Ms Mu Mv EE))
def OD(ad:Ad)(Mr Ms Mu Mv:Sd)(EE:DX):aG:=
 (aw (aE (dC (.int 0)) (ap 3))
  (B9 ad Mr Ms Mu Mv EE))
mutual
def Mr(ad:Ad):Nat->Sd
 |0=>fun _ _ _ _=>False
 |n+1=>bh ["walk","rows","place","j","row"] (OB ad (Mr ad n) (Ms ad n) (Mu ad n) (Mv ad n))
def Ms(ad:Ad):Nat->Sd
 |0=>fun _ _ _ _=>False
 |n+1=>bh ["walk","row","place","number"] (fX ad (Mr ad n) (Ms ad n) (Mu ad n) (Mv ad n))
def Mu(ad:Ad):Nat->Sd
 |0=>fun _ _ _ _=>False
 |n+1=>bh ["walk","row","place","seen"] (OC ad (Mr ad n) (Ms ad n) (Mu ad n) (Mv ad n))
def Mv(ad:Ad):Nat->Sd
 |0=>fun _ _ _ _=>False
 |n+1=>bh ["walk","row","place","turn"] (OD ad (Mr ad n) (Ms ad n) (Mu ad n) (Mv ad n))
end
theorem TJ{ad:Ad}{n:Nat}{x0 x1 x2:D}{M:Mem}{Q:DK}{E:DX}:Mr ad (n+1) [x0,x1,x2] M Q E=OB ad (Mr ad n) (Ms ad n) (Mu ad n) (Mv ad n) (aU E) { nx:=fun _ M'=>drp Q .non M',rt:=drp Q } [some x0,some x1,some x2,none,none] M:=rfl
theorem kU{ad:Ad}{n:Nat}{x0 x1 x2:D}{M:Mem}{Q:DK}{E:DX}:Ms ad (n+1) [x0,x1,x2] M Q E=fX ad (Mr ad n) (Ms ad n) (Mu ad n) (Mv ad n) (aU E) { nx:=fun _ M'=>drp Q .non M',rt:=drp Q } [some x0,some x1,some x2,none] M:=rfl
theorem TK{ad:Ad}{n:Nat}{x0 x1 x2:D}{M:Mem}{Q:DK}{E:DX}:Mu ad (n+1) [x0,x1,x2] M Q E=OC ad (Mr ad n) (Ms ad n) (Mu ad n) (Mv ad n) (aU E) { nx:=fun _ M'=>drp Q .non M',rt:=drp Q } [some x0,some x1,some x2,none] M:=rfl
theorem TL{ad:Ad}{n:Nat}{x0 x1 x2:D}{M:Mem}{Q:DK}{E:DX}:Mv ad (n+1) [x0,x1,x2] M Q E=OD ad (Mr ad n) (Ms ad n) (Mu ad n) (Mv ad n) (aU E) { nx:=fun _ M'=>drp Q .non M',rt:=drp Q } [some x0,some x1,some x2,none] M:=rfl
def zN(ad:Ad)(EE:DX):aG:=
 (aZ (bJ (a9 (dl ad.C_Walk (aa 3) "steps") (a9 (bD cTuple (a9 (aB (bV (i6 (au aO (aa 0) (dC (.int 1)))) ["name"] [3] (ap 0) dO (au aO (dl ad.C_Walk (aa 1) "numbers") (aa 0)))) dNil)) dNil))))
def Aw(ad:Ad)(EE:DX):aG:=
 (aw (Fm ad.C_Dry (Mr ad 24) 3 (a9 (aa 3) (a9 (au aO (aa 0) (dC (.int 3))) (a9 (bJ dNil) dNil))) (aZ (bJ (a9 (dl ad.C_Walk (aa 3) "steps") (a9 (dC .non) dNil)))))
  (zN ad EE))
def pq(ad:Ad)(EE:DX):aG:=
 (aw (aE (w_ ad.C_Walk (zt ad) EE 4 (a9 (aa 0) (a9 (aa 1) (a9 (aa 2) dNil)))) (ap 3))
  (Aw ad EE))
def nn(ad:Ad):Sd:=bh ["plan","stand","most","walk"] (pq ad)
theorem FH{ad:Ad}{n:Nat}{x0 x1 x2:D}{M:Mem}{Q:DK}{E:DX}:nn ad [x0,x1,x2] M Q E=pq ad (aU E) { nx:=fun _ M'=>drp Q .non M',rt:=drp Q } [some x0,some x1,some x2,none] M:=rfl
def Ay(ad:Ad)(EE:DX):aG:=
 (aZ (au aO (aa 3) (dTM lE (au aO (aa 0) (dC (.int 1))) (a9 (au aO (aa 0) (dC (.int 4))) dNil))))
def AQ(ad:Ad)(EE:DX):aG:=
 (aw (bp (aL (au vM (aa 3) (dC .non))) (aZ (dC .non)) bn)
  (Ay ad EE))
def o8(ad:Ad)(EE:DX):aG:=
 (aw (aE (au aO (Bm (aA (nn ad) EE 3 (a9 (aa 0) (a9 (aa 1) (a9 (aa 2) dNil))))) (dC (.int 1))) (ap 3))
  (AQ ad EE))
def jU(ad:Ad):Sd:=bh ["plan","stand","most","end"] (o8 ad)
theorem FX{ad:Ad}{n:Nat}{x0 x1 x2:D}{M:Mem}{Q:DK}{E:DX}:jU ad [x0,x1,x2] M Q E=o8 ad (aU E) { nx:=fun _ M'=>drp Q .non M',rt:=drp Q } [some x0,some x1,some x2,none] M:=rfl
def oU(ad:Ad)(EE:DX):aG:=
 (aZ (au bR (aB (bD fj (a9 (au aO (aa 0) (dC (.int 1))) dNil))) (aB (gr (a9 (au aO (aa 0) (dC (.int 2))) dNil)))))
def sI(ad:Ad):Sd:=bh ["plan"] (oU ad)
theorem FV{ad:Ad}{n:Nat}{x0:D}{M:Mem}{Q:DK}{E:DX}:sI ad [x0] M Q E=oU ad (aU E) { nx:=fun _ M'=>drp Q .non M',rt:=drp Q } [some x0] M:=rfl
def Bc(ad:Ad)(EE:DX):aG:=
 (aZ (au aO (au aO (aa 1) (dC (.int 0))) (dTM lE (au aO (aa 0) (dC (.int 1))) (a9 (aa 2) dNil))))
def kM(ad:Ad)(EE:DX):aG:=
 (aw (bp (cY (bD fY (a9 (aa 2) (a9 (dC (.ty "str")) dNil)))) (Bc ad EE) bn)
  (aZ (au aO (au aO (aa 1) (dC (.int 1))) (aa 2))))
def kW(ad:Ad):Sd:=bh ["plan","stand","thing"] (kM ad)
theorem Br{ad:Ad}{n:Nat}{x0 x1 x2:D}{M:Mem}{Q:DK}{E:DX}:kW ad [x0,x1,x2] M Q E=kM ad (aU E) { nx:=fun _ M'=>drp Q .non M',rt:=drp Q } [some x0,some x1,some x2] M:=rfl
def oM(ad:Ad)(EE:DX):aG:=
 (aZ (bV (i6 (aB (aA (sI ad) EE 1 (a9 (aa 0) dNil)))) ["thing"] [0,2,1] (ap 0) (aL (au pW (aB (aA (kW ad) ni 3 (a9 (aa 1) (a9 (aa 3) (a9 (aa 0) dNil))))) (aB (aA (kW ad) ni 3 (a9 (aa 1) (a9 (aa 2) (a9 (aa 0) dNil))))))) (aa 0)))
def sU(ad:Ad):Sd:=bh ["plan","one","other"] (oM ad)
theorem EY{ad:Ad}{n:Nat}{x0 x1 x2:D}{M:Mem}{Q:DK}{E:DX}:sU ad [x0,x1,x2] M Q E=oM ad (aU E) { nx:=fun _ M'=>drp Q .non M',rt:=drp Q } [some x0,some x1,some x2] M:=rfl
def t4(ad:Ad)(EE:DX):aG:=
 (aw (bp (aL (au eJ (aa 1) (aa 2))) (n4 ad.C_NoCase EE) bn)
  (aZ (bJ (a9 (aa 1) (a9 (aa 2) dNil)))))
def mD(ad:Ad)(EE:DX):aG:=
 (aw (bp (qd (aL (au vM (aa 1) (dC .non))) (aL (au vM (aa 2) (dC .non)))) (n4 ad.C_NoCase EE) bn)
  (t4 ad EE))
def rD(ad:Ad)(EE:DX):aG:=
 (aw (aE (aB (aA (jU ad) EE 3 (a9 (au aO (aa 0) (dC (.int 0))) (a9 (au aO (aa 0) (dC (.int 2))) (a9 (au aO (aa 0) (dC (.int 3))) dNil))))) (ap 2))
  (mD ad EE))
def o7(ad:Ad)(EE:DX):aG:=
 (aw (aE (aB (aA (jU ad) EE 3 (a9 (au aO (aa 0) (dC (.int 0))) (a9 (au aO (aa 0) (dC (.int 1))) (a9 (au aO (aa 0) (dC (.int 3))) dNil))))) (ap 1))
  (rD ad EE))
def si(ad:Ad):Sd:=bh ["case","sound","faulty"] (o7 ad)
theorem EL{ad:Ad}{n:Nat}{x0:D}{M:Mem}{Q:DK}{E:DX}:si ad [x0] M Q E=o7 ad (aU E) { nx:=fun _ M'=>drp Q .non M',rt:=drp Q } [some x0,none,none] M:=rfl
def pi(ad:Ad)(EE:DX):aG:=
 (aZ (aA (sU ad) EE 3 (a9 (au aO (aa 0) (dC (.int 0))) (a9 (au aO (aa 0) (dC (.int 1))) (a9 (au aO (aa 0) (dC (.int 2))) dNil)))))
def r9(ad:Ad):Sd:=bh ["case"] (pi ad)
theorem F6{ad:Ad}{n:Nat}{x0:D}{M:Mem}{Q:DK}{E:DX}:r9 ad [x0] M Q E=pi ad (aU E) { nx:=fun _ M'=>drp Q .non M',rt:=drp Q } [some x0] M:=rfl
def xh(ad:Ad)(EE:DX):aG:=
 (aZ (aA (kW ad) EE 3 (a9 (au aO (aa 0) (dC (.int 0))) (a9 (EK (aL (au BH (aa 2) (aa 1))) (au aO (aa 0) (dC (.int 2))) (au aO (aa 0) (dC (.int 1)))) (a9 (aa 2) dNil)))))
def uX(ad:Ad):Sd:=bh ["case","mix","thing"] (xh ad)
theorem u_q8{ad:Ad}{n:Nat}{x0 x1 x2:D}{M:Mem}{Q:DK}{E:DX}:uX ad [x0,x1,x2] M Q E=xh ad (aU E) { nx:=fun _ M'=>drp Q .non M',rt:=drp Q } [some x0,some x1,some x2] M:=rfl
def iY(ad:Ad)(EE:DX):aG:=
 (aZ (bJ (a9 (bD cTuple (a9 (aB (bV (i6 (aa 2)) ["name"] [1,0] (ap 0) dO (aB (aA (uX ad) ni 3 (a9 (aa 2) (a9 (aa 1) (a9 (aa 0) dNil))))))) dNil)) (a9 (bD cTuple (a9 (aB (bV (i6 (aa 3)) ["piece"] [1,0] (ap 0) dO (aB (aA (uX ad) ni 3 (a9 (aa 2) (a9 (aa 1) (a9 (aa 0) dNil))))))) dNil)) dNil))))
def rP(ad:Ad)(EE:DX):aG:=
 (aw (aE (aB (gr (a9 (au aO (au aO (aa 0) (dC (.int 0))) (dC (.int 2))) dNil))) (ap 3))
  (iY ad EE))
def o_(ad:Ad)(EE:DX):aG:=
 (aw (aE (au aO (au aO (aa 0) (dC (.int 0))) (dC (.int 1))) (ap 2))
  (rP ad EE))
def tO(ad:Ad):Sd:=bh ["case","mix","names","pieces"] (o_ ad)
theorem F5{ad:Ad}{n:Nat}{x0 x1:D}{M:Mem}{Q:DK}{E:DX}:tO ad [x0,x1] M Q E=o_ ad (aU E) { nx:=fun _ M'=>drp Q .non M',rt:=drp Q } [some x0,some x1,none,none] M:=rfl
def AX(ad:Ad)(EE:DX):aG:=
 (aw (bp (aL (au eJ (aa 1) (au aO (aa 0) (dC (.int 1))))) (aZ (dC (.str "faulty"))) bn)
  (aZ (dC (.str "other"))))
def kP(ad:Ad)(EE:DX):aG:=
 (aw (bp (aL (au eJ (aa 1) (au aO (aa 0) (dC (.int 0))))) (aZ (dC (.str "sound"))) bn)
  (AX ad EE))
def tP(ad:Ad):Sd:=bh ["two","one"] (kP ad)
theorem Bq{ad:Ad}{n:Nat}{x0 x1:D}{M:Mem}{Q:DK}{E:DX}:tP ad [x0,x1] M Q E=kP ad (aU E) { nx:=fun _ M'=>drp Q .non M',rt:=drp Q } [some x0,some x1] M:=rfl
def vk(ad:Ad)(EE:DX):aG:=
 (aw (gB ad.C_Askings (aa 0) (aB (aA (si ad) EE 1 (a9 (aa 1) dNil))) "two")
  (gB ad.C_Askings (aa 0) sS "told"))
def ve(ad:Ad)(EE:DX):aG:=
 (aw (gB ad.C_Askings (aa 0) (aa 1) "case")
  (vk ad EE))
def B3(ad:Ad):Sd:=bh ["self","case"] (ve ad)
theorem u_q2{ad:Ad}{n:Nat}{x0 x1:D}{M:Mem}{Q:DK}{E:DX}:B3 ad [x0,x1] M Q E=ve ad (aU E) { nx:=fun _ M'=>drp Q .non M',rt:=drp Q } [some x0,some x1] M:=rfl
def lq(ad:Ad)(EE:DX):aG:=
 (aE (aB (aA (tP ad) EE 2 (a9 (dl ad.C_Askings (aa 0) "two") (a9 (aB (aA (jU ad) EE 3 (a9 (au aO (dl ad.C_Askings (aa 0) "case") (dC (.int 0))) (a9 (aB (aA (tO ad) EE 2 (a9 (dl ad.C_Askings (aa 0) "case") (a9 (aa 1) dNil)))) (a9 (au aO (dl ad.C_Askings (aa 0) "case") (dC (.int 3))) dNil))))) dNil)))) (fc (dl ad.C_Askings (aa 0) "told") (bD cTuple (a9 (aa 1) dNil))))
def j6(ad:Ad)(EE:DX):aG:=
 (aZ (au aO (dl ad.C_Askings (aa 0) "told") (bD cTuple (a9 (aa 1) dNil))))
def nM(ad:Ad)(EE:DX):aG:=
 (aw (bp (aL (au jz (bD cTuple (a9 (aa 1) dNil)) (dl ad.C_Askings (aa 0) "told"))) (lq ad EE) bn)
  (j6 ad EE))
def n_(ad:Ad):Sd:=bh ["self","mix"] (nM ad)
theorem F9{ad:Ad}{n:Nat}{x0 x1:D}{M:Mem}{Q:DK}{E:DX}:n_ ad [x0,x1] M Q E=nM ad (aU E) { nx:=fun _ M'=>drp Q .non M',rt:=drp Q } [some x0,some x1] M:=rfl
def xw(ad:Ad)(EE:DX):aG:=
 (aZ (au eJ (aB (dY ad.C_Askings "ask" (n_ ad) EE 2 (aa 0) (a9 (aa 1) dNil))) (dC (.str "faulty"))))
def qD(ad:Ad):Sd:=bh ["self","mix"] (xw ad)
theorem u_q0{ad:Ad}{n:Nat}{x0 x1:D}{M:Mem}{Q:DK}{E:DX}:qD ad [x0,x1] M Q E=xw ad (aU E) { nx:=fun _ M'=>drp Q .non M',rt:=drp Q } [some x0,some x1] M:=rfl
def mM(ad:Ad)(EE:DX):aG:=
 (bp (cY (aB (dY ad.C_Askings "is_cause" (qD ad) EE 2 (aa 0) (a9 (aB (jx (aa 1) (ci (aa 2)) bw)) dNil)))) (aE (jx (aa 1) (ci (aa 2)) bw) (ap 1)) vW)
def sM(ad:Ad)(EE:DX):aG:=
 (bp (cY (aB (dY ad.C_Askings "is_cause" (qD ad) EE 2 (aa 0) (a9 (aB (jx (aa 1) bw (ci (aa 2)))) dNil)))) (aE (jx (aa 1) bw (ci (aa 2))) (ap 1)) (mM ad EE))
def ji(ad:Ad)(EE:DX):aG:=
 (aw (aE (au ph (bD bK (a9 (aa 1) dNil)) (dC (.int 2))) (ap 2))
   (sM ad EE))
def pA(ad:Ad)(EE:DX):aG:=
 (aw (dWhile (aL (au qC (bD bK (a9 (aa 1) dNil)) (dC (.int 1)))) (ji ad EE))
  (aZ (aa 1)))
def tR(ad:Ad):Sd:=bh ["askings","cause","middle"] (pA ad)
theorem Fg{ad:Ad}{n:Nat}{x0 x1:D}{M:Mem}{Q:DK}{E:DX}:tR ad [x0,x1] M Q E=pA ad (aU E) { nx:=fun _ M'=>drp Q .non M',rt:=drp Q } [some x0,some x1,none] M:=rfl
def mE(ad:Ad)(EE:DX):aG:=
 (aw (aE (aa 4) (ap 1))
    (aE (dC (.int 0)) (ap 3)))
def mG(ad:Ad)(EE:DX):aG:=
 (aw (uk 2 (dC (.int 1)) nL)
    (uk 3 (dC (.int 1)) nL))
def mY(ad:Ad)(EE:DX):aG:=
 (bp (cY (aB (dY ad.C_Askings "is_cause" (qD ad) EE 2 (aa 0) (a9 (aa 4) dNil)))) (mE ad EE) (mG ad EE))
def rJ(ad:Ad)(EE:DX):aG:=
 (aw (aE (au bR (aB (jx (aa 1) bw (ci (aa 2)))) (aB (jx (aa 1) (ci (au bR (aa 2) (dC (.int 1)))) bw))) (ap 4))
   (mY ad EE))
def j5(ad:Ad)(EE:DX):aG:=
 (aw (aE (au dP (aa 2) (bD bK (a9 (aa 1) dNil))) (ap 2))
   (rJ ad EE))
def rR(ad:Ad)(EE:DX):aG:=
 (aw (dWhile (aL (au v0 (aa 3) (bD bK (a9 (aa 1) dNil)))) (j5 ad EE))
  (aZ (aa 1)))
def pb(ad:Ad)(EE:DX):aG:=
 (aw (aE (dC (.int 0)) (ap 2))
  (aw (aE (dC (.int 0)) (ap 3))
  (rR ad EE)))
def sx(ad:Ad):Sd:=bh ["askings","cause","at","staying","less"] (pb ad)
theorem EU{ad:Ad}{n:Nat}{x0 x1:D}{M:Mem}{Q:DK}{E:DX}:sx ad [x0,x1] M Q E=pb ad (aU E) { nx:=fun _ M'=>drp Q .non M',rt:=drp Q } [some x0,some x1,none,none,none] M:=rfl
def n6(ad:Ad)(EE:DX):aG:=
 (aZ (bJ (a9 (aB (bV (qO (dl ad.C_Askings (aa 1) "told")) ["mix","told"] [] (fM 2 (bB (ap 0) (bB (ap 1) eM))) dO (bJ (a9 (bD fj (a9 (aa 0) dNil)) (a9 (aa 1) dNil))))) (a9 (aa 3) dNil))))
def rX(ad:Ad)(EE:DX):aG:=
 (aw (aE (aA (sx ad) EE 2 (a9 (aa 1) (a9 (aA (tR ad) EE 2 (a9 (aa 1) (a9 (aa 2) dNil))) dNil))) (ap 3))
  (n6 ad EE))
def sW(ad:Ad)(EE:DX):aG:=
 (aw (bZ (dY ad.C_Askings "ask" (n_ ad) EE 2 (aa 1) (a9 (aa 2) dNil)))
  (rX ad EE))
def mO(ad:Ad)(EE:DX):aG:=
 (aw (aE (aA (r9 ad) EE 1 (a9 (aa 0) dNil)) (ap 2))
  (sW ad EE))
def p8(ad:Ad)(EE:DX):aG:=
 (aw (aE (w_ ad.C_Askings (B3 ad) EE 2 (a9 (aa 0) dNil)) (ap 1))
  (mO ad EE))
def sv(ad:Ad):Sd:=bh ["case","askings","things","cause"] (p8 ad)
theorem Fj{ad:Ad}{n:Nat}{x0:D}{M:Mem}{Q:DK}{E:DX}:sv ad [x0] M Q E=p8 ad (aU E) { nx:=fun _ M'=>drp Q .non M',rt:=drp Q } [some x0,none,none,none] M:=rfl
def nu(ad:Ad)(EE:DX):aG:=
 (aZ (ce (a9 (bD fj (a9 (aB (jx (aa 0) bw (ci (dC (.int 63))))) dNil)) (a9 (dC (.int 0)) (a9 (dC (.int 0)) dNil)))))
def rL(ad:Ad):Sd:=bh ["_law_script"] (nu ad)
theorem Go{ad:Ad}{n:Nat}{x0:D}{M:Mem}{Q:DK}{E:DX}:rL ad [x0] M Q E=nu ad (aU E) { nx:=fun _ M'=>drp Q .non M',rt:=drp Q } [some x0] M:=rfl
def zK(ad:Ad)(EE:DX):aG:=
 (aw (aE (au ph (au aO (aa 0) (dC (.int 2))) (aa 1)) (fc (aa 0) (dC (.int 2))))
   (aZ (aa 2)))
def zW(ad:Ad)(EE:DX):aG:=
 (aw (aE (au dP (au aO (aa 0) (dC (.int 2))) (aa 1)) (ap 2))
   (zK ad EE))
def yN(ad:Ad)(EE:DX):aG:=
 (aE (au aO (au aO (aa 0) (dC (.int 0))) (au dP (aa 3) (bD bK (a9 (au aO (aa 0) (dC (.int 0))) dNil)))) (ap 4))
def Ax(ad:Ad)(EE:DX):aG:=
 (aw (aE (au ph (aa 4) (aa 1)) (fc (aa 0) (dC (.int 2))))
   (aZ (au dP (aa 4) (aa 1))))
def zM(ad:Ad)(EE:DX):aG:=
 (aZ (au dP (au ph (aa 5) (dC (.int 8))) (aa 1)))
def zy(ad:Ad)(EE:DX):aG:=
 (aw (aE (au dP (au bR (au bR (au fA (aa 5) (aa 5)) (au fA (dC (.int 48271)) (aa 3))) (au dP (aa 4) (dC (.int 65537)))) (dC (.int 2147483629))) (ap 5))
  (zM ad EE))
def jd(ad:Ad)(EE:DX):aG:=
 (aw (aE (au dP (au fA (au bR (au dP (aa 4) (dC (.int 1000003))) (dC (.int 1))) (au bR (au bR (au fA (au fA (dC (.int 7919)) (aa 3)) (aa 3)) (au fA (dC (.int 104729)) (aa 3))) (dC (.int 12345)))) (dC (.int 2147483647))) (ap 5))
  (zy ad EE))
def sZ(ad:Ad)(EE:DX):aG:=
 (aw (bp (iI (aL (au v0 (aa 3) (bD bK (a9 (au aO (aa 0) (dC (.int 0))) dNil)))) (aL (au oGe (aa 4) (au G2 (dC (.int 10)) (dC (.int 18)))))) (Ax ad EE) bn)
  (jd ad EE))
def sk(ad:Ad)(EE:DX):aG:=
 (aw (bp (aL (au qC (bD bK (a9 (au aO (aa 0) (dC (.int 0))) dNil)) (dC (.int 0)))) (yN ad EE) bn)
  (sZ ad EE))
def nN(ad:Ad)(EE:DX):aG:=
 (aw (aE (dC (.int 0)) (ap 4))
  (sk ad EE))
def oB(ad:Ad)(EE:DX):aG:=
 (aw (aE (au bR (aa 3) (dC (.int 1))) (fc (aa 0) (dC (.int 1))))
  (nN ad EE))
def gL(ad:Ad)(EE:DX):aG:=
 (aw (aE (au aO (aa 0) (dC (.int 1))) (ap 3))
  (oB ad EE))
def oj(ad:Ad)(EE:DX):aG:=
 (aw (bp (aL (au qC (au aO (aa 0) (dC (.int 2))) (dC (.int 0)))) (zW ad EE) bn)
  (gL ad EE))
def bA(ad:Ad):Sd:=bh ["_law_tape_here","_law_many","_law_digit","_law_at","_law_cell","_law_mixed"] (oj ad)
theorem G6{ad:Ad}{n:Nat}{x0 x1:D}{M:Mem}{Q:DK}{E:DX}:bA ad [x0,x1] M Q E=oj ad (aU E) { nx:=fun _ M'=>drp Q .non M',rt:=drp Q } [some x0,some x1,none,none,none,none] M:=rfl
def yW(ad:Ad)(EE:DX):aG:=
 (aZ (jx (aa 1) bw (ci (au bR (dC (.int 1)) (aB (aA (bA ad) EE 2 (a9 (aa 0) (a9 (dC (.int 5)) dNil))))))))
def A7(ad:Ad)(EE:DX):aG:=
 (aw (aE (aB (au bR (aB (jx (aa 1) (ci (aa 2)) bw)) (aB (jx (aa 1) bw (ci (aa 2)))))) (ap 1))
  (yW ad EE))
def A0(ad:Ad)(EE:DX):aG:=
 (aw (aE (aB (aA (bA ad) EE 2 (a9 (aa 0) (a9 (dC (.int 5)) dNil)))) (ap 2))
  (A7 ad EE))
def ny(ad:Ad)(EE:DX):aG:=
 (aw (aE (au aO (aB (ce (a9 (aB (ce (a9 (dC (.str "a")) (a9 (dC (.str "b")) (a9 (dC (.str "c")) (a9 (dC (.str "d")) (a9 (dC (.str "e")) dNil))))))) (a9 (aB (ce (a9 (dC (.str "x")) (a9 (dC (.str "xx")) (a9 (dC (.str "xxx")) (a9 (dC (.str "xxxx")) (a9 (dC (.str "xxxxx")) dNil))))))) (a9 (aB (ce (a9 (dC (.str "if")) (a9 (dC (.str "end")) (a9 (dC (.str "else")) (a9 (dC (.str "piece")) (a9 (dC (.str "pick")) dNil))))))) (a9 (aB (ce (a9 (dC (.str "mark")) (a9 (dC (.str "again")) (a9 (dC (.str "names")) (a9 (dC (.str "plan")) (a9 (dC (.str "wheel")) dNil))))))) dNil)))))) (aB (aA (bA ad) EE 2 (a9 (aa 0) (a9 (dC (.int 4)) dNil))))) (ap 1))
  (A0 ad EE))
def nz(ad:Ad):Sd:=bh ["_law_tape_here","_law_all","_law_turn"] (ny ad)
theorem FE{ad:Ad}{n:Nat}{x0:D}{M:Mem}{Q:DK}{E:DX}:nz ad [x0] M Q E=ny ad (aU E) { nx:=fun _ M'=>drp Q .non M',rt:=drp Q } [some x0,none,none] M:=rfl
def zg(ad:Ad)(EE:DX):aG:=
 (aZ (bJ (a9 (au aO (aB (ce (a9 (dC (.str "sum")) (a9 (dC (.str "sum")) (a9 (dC (.str "by")) (a9 (dC (.str "less")) (a9 (dC (.str "same")) dNil))))))) (au dP (aa 6) (dC (.int 5)))) (a9 (aa 3) (a9 (aa 4) (a9 (aa 5) dNil))))))
def AR(ad:Ad)(EE:DX):aG:=
 (aZ (bJ (a9 (dC (.str "pick")) (a9 (aa 3) (a9 (aa 4) dNil)))))
def z7(ad:Ad)(EE:DX):aG:=
 (aZ (bJ (a9 (dC (.str "take")) (a9 (aa 3) (a9 (aA (bA ad) EE 2 (a9 (aa 0) (a9 (au aO (aa 1) (dC (.str "many"))) dNil))) dNil)))))
def zF(ad:Ad)(EE:DX):aG:=
 (aw (bp (aL (au eJ (aa 6) (dC (.int 2)))) (AR ad EE) bn)
   (z7 ad EE))
def zE(ad:Ad)(EE:DX):aG:=
 (aZ (bJ (a9 (dC (.str "put")) (a9 (aa 3) (a9 (aA (bA ad) EE 2 (a9 (aa 0) (a9 (au aO (aa 1) (dC (.str "wheel"))) dNil))) dNil)))))
def yx(ad:Ad)(EE:DX):aG:=
 (aw (bp (iI (aL (au qC (aa 6) (dC (.int 1)))) (aL (au qC (au aO (aa 1) (dC (.str "many"))) (dC (.int 0))))) (zF ad EE) bn)
  (zE ad EE))
def Av(ad:Ad)(EE:DX):aG:=
 (aw (bp (aL (au qC (aa 6) (dC (.int 6)))) (zg ad EE) bn)
  (yx ad EE))
def A6(ad:Ad)(EE:DX):aG:=
 (aw (aE (aB (aA (bA ad) EE 2 (a9 (aa 0) (a9 (dC (.int 11)) dNil)))) (ap 6))
  (Av ad EE))
def yK(ad:Ad)(EE:DX):aG:=
 (aw (aE (aB (bV (cU (a9 (dC (.int 3)) dNil)) ["_law_k"] [0,2] (ap 0) dO (au aO (aa 2) (aB (aA (bA ad) ni 2 (a9 (aa 1) (a9 (bD bK (a9 (aa 2) dNil)) dNil))))))) (wn 3 (bB (ap 3) (bB (ap 4) (bB (ap 5) eM)))))
  (A6 ad EE))
def oQ(ad:Ad)(EE:DX):aG:=
 (aw (aE (au aO (aa 1) (dC (.str "names"))) (ap 2))
  (yK ad EE))
def sX(ad:Ad):Sd:=bh ["_law_tape_here","_law_frame","_law_some","_law_x","_law_y","_law_z","_law_way"] (oQ ad)
theorem FK{ad:Ad}{n:Nat}{x0 x1:D}{M:Mem}{Q:DK}{E:DX}:sX ad [x0,x1] M Q E=oQ ad (aU E) { nx:=fun _ M'=>drp Q .non M',rt:=drp Q } [some x0,some x1,none,none,none,none,none] M:=rfl
def AY(ad:Ad)(Mp Mw:Sd)(EE:DX):aG:=
 (aZ (ce (a9 (bJ (a9 (dC (.str "again")) (a9 (aa 4) (a9 (bD cTuple (a9 (aa 7) dNil)) dNil)))) dNil)))
def AV(ad:Ad)(Mp Mw:Sd)(EE:DX):aG:=
 (aZ (ce (a9 (bJ (a9 (dC (.str "again")) (a9 (aa 4) (a9 (bD cTuple (a9 (aB (au bR (aa 7) (aB (ce (a9 (bJ (a9 (dC (.str "put")) (a9 (aa 4) (a9 (dC (.int 0)) dNil)))) dNil))))) dNil)) dNil)))) dNil)))
def B5(ad:Ad)(Mp Mw:Sd)(EE:DX):aG:=
 (aZ (au bR (aa 8) (aB (ce (a9 (bJ (a9 (dC (.str "put")) (a9 (aa 5) (a9 (au kz (au aO (aa 1) (dC (.str "wheel"))) (dC (.int 1))) dNil)))) (a9 (bJ (a9 (dC (.str "again")) (a9 (aa 4) (a9 (bD cTuple (a9 (aB (au bR (aa 7) (aB (ce (a9 (bJ (a9 (dC (.str "sum")) (a9 (aa 4) (a9 (aa 4) (a9 (aa 5) dNil))))) dNil))))) dNil)) dNil)))) dNil))))))
def zh(ad:Ad)(Mp Mw:Sd)(EE:DX):aG:=
 (aw (aE (aB (au wr (ce (a9 (bJ (a9 (dC (.str "put")) (a9 (aa 4) (a9 (aA (bA ad) EE 2 (a9 (aa 0) (a9 (bD zu (a9 (dC (.int 4)) (a9 (au aO (aa 1) (dC (.str "wheel"))) dNil))) dNil))) dNil)))) dNil)) (bD kx (a9 (au eJ (aa 6) (dC (.int 2))) dNil)))) (ap 8))
  (B5 ad Mp Mw EE))
def z6(ad:Ad)(Mp Mw:Sd)(EE:DX):aG:=
 (aw (bp (qd (aL (au eJ (aa 6) (dC (.int 1)))) (aL (au eJ (aa 4) (aa 5)))) (AV ad Mp Mw EE) bn)
  (zh ad Mp Mw EE))
def z9(ad:Ad)(Mp Mw:Sd)(EE:DX):aG:=
 (aw (bp (aL (au eJ (aa 6) (dC (.int 0)))) (AY ad Mp Mw EE) bn)
  (z6 ad Mp Mw EE))
def AW(ad:Ad)(Mp Mw:Sd)(EE:DX):aG:=
 (aw (aE (aB (aA Mw EE 4 (a9 (aa 0) (a9 (aa 1) (a9 (aB (aA (bA ad) EE 2 (a9 (aa 0) (a9 (dC (.int 3)) dNil)))) (a9 (au kz (aa 2) (dC (.int 1))) dNil)))))) (ap 7))
  (z9 ad Mp Mw EE))
def yC(ad:Ad)(Mp Mw:Sd)(EE:DX):aG:=
 (aw (aE (aB (aA (bA ad) EE 2 (a9 (aa 0) (a9 (dC (.int 4)) dNil)))) (ap 6))
  (AW ad Mp Mw EE))
def B2(ad:Ad)(Mp Mw:Sd)(EE:DX):aG:=
 (aw (aE (aB (bV (cU (a9 (dC (.int 2)) dNil)) ["_law_k"] [0,3] (ap 0) dO (au aO (aa 2) (aB (aA (bA ad) ni 2 (a9 (aa 1) (a9 (bD bK (a9 (aa 2) dNil)) dNil))))))) (wn 2 (bB (ap 4) (bB (ap 5) eM))))
  (yC ad Mp Mw EE))
def oW(ad:Ad)(Mp Mw:Sd)(EE:DX):aG:=
 (aw (aE (au aO (aa 1) (dC (.str "names"))) (ap 3))
  (B2 ad Mp Mw EE))
def D1(ad:Ad)(Mp Mw:Sd)(EE:DX):aG:=
 (bZ (rf "list" mj (aa 4) (a9 (aB (aA Mp EE 3 (a9 (aa 0) (a9 (aa 1) (a9 (aa 3) dNil))))) dNil)))
def Ch(ad:Ad)(Mp Mw:Sd)(EE:DX):aG:=
 (bZ (rf "list" cH (aa 4) (a9 (bJ (a9 (dC (.str "if")) (a9 (aa 8) (a9 (bD cTuple (a9 (aa 9) dNil)) (a9 (bD cTuple (a9 (aa 10) dNil)) dNil))))) dNil)))
def DC(ad:Ad)(Mp Mw:Sd)(EE:DX):aG:=
 (aw (aE (aB (aA Mw EE 4 (a9 (aa 0) (a9 (aa 1) (a9 (aB (aA (bA ad) EE 2 (a9 (aa 0) (a9 (dC (.int 3)) dNil)))) (a9 (au kz (aa 3) (dC (.int 1))) dNil)))))) (ap 10))
     (Ch ad Mp Mw EE))
def DB(ad:Ad)(Mp Mw:Sd)(EE:DX):aG:=
 (aw (aE (aB (aA Mw EE 4 (a9 (aa 0) (a9 (aa 1) (a9 (aB (aA (bA ad) EE 2 (a9 (aa 0) (a9 (dC (.int 3)) dNil)))) (a9 (au kz (aa 3) (dC (.int 1))) dNil)))))) (ap 9))
     (DC ad Mp Mw EE))
def C6(ad:Ad)(Mp Mw:Sd)(EE:DX):aG:=
 (aw (aE (au aO (aa 7) (aB (aA (bA ad) EE 2 (a9 (aa 0) (a9 (bD bK (a9 (aa 7) dNil)) dNil))))) (ap 8))
     (DB ad Mp Mw EE))
def D7(ad:Ad)(Mp Mw:Sd)(EE:DX):aG:=
 (aw (aE (au aO (aa 1) (dC (.str "names"))) (ap 7))
     (C6 ad Mp Mw EE))
def qK(ad:Ad)(Mp Mw:Sd)(EE:DX):aG:=
 (bZ (rf "list" cH (aa 4) (a9 (aB (aA (sX ad) EE 2 (a9 (aa 0) (a9 (aa 1) dNil)))) dNil)))
def w6(ad:Ad)(Mp Mw:Sd)(EE:DX):aG:=
 (bp (iI (aL (au qC (aa 3) (dC (.int 0)))) (iI (aL (au qC (au aO (aa 1) (dC (.str "left"))) (dC (.int 0)))) (aL (au v0 (aa 6) (dC (.int 3)))))) (D7 ad Mp Mw EE) (qK ad Mp Mw EE))
def pM(ad:Ad)(Mp Mw:Sd)(EE:DX):aG:=
 (bp (iI (aL (au qC (aa 3) (dC (.int 0)))) (iI (aL (au qC (au aO (aa 1) (dC (.str "left"))) (dC (.int 0)))) (aL (au eJ (aa 6) (dC (.int 0)))))) (D1 ad Mp Mw EE) (w6 ad Mp Mw EE))
def yV(ad:Ad)(Mp Mw:Sd)(EE:DX):aG:=
 (aw (aE (aB (aA (bA ad) EE 2 (a9 (aa 0) (a9 (dC (.int 7)) dNil)))) (ap 6))
   (pM ad Mp Mw EE))
def AI(ad:Ad)(Mp Mw:Sd)(EE:DX):aG:=
 (aw (aE (au kz (au aO (aa 1) (dC (.str "left"))) (dC (.int 4))) (fc (aa 1) (dC (.str "left"))))
   (yV ad Mp Mw EE))
def AJ(ad:Ad)(Mp Mw:Sd)(EE:DX):aG:=
 (aw (dFor (cU (a9 (aa 2) dNil)) (ap 5) (AI ad Mp Mw EE))
  (aZ (aa 4)))
def vT(ad:Ad)(Mp Mw:Sd)(EE:DX):aG:=
 (aw (aE (ce dNil) (ap 4))
  (AJ ad Mp Mw EE))
mutual
def Mp(ad:Ad):Nat->Sd
 |0=>fun _ _ _ _=>False
 |n+1=>bh ["_law_tape_here","_law_frame","_law_deep","_law_some","_law_c","_law_d","_law_way","_law_body","_law_first"] (oW ad (Mp ad n) (Mw ad n))
def Mw(ad:Ad):Nat->Sd
 |0=>fun _ _ _ _=>False
 |n+1=>bh ["_law_tape_here","_law_frame","_law_many","_law_deep","_law_rows","_law_k","_law_way","_law_some","_law_name","_law_first","_law_other"] (vT ad (Mp ad n) (Mw ad n))
end
theorem Fp{ad:Ad}{n:Nat}{x0 x1 x2:D}{M:Mem}{Q:DK}{E:DX}:Mp ad (n+1) [x0,x1,x2] M Q E=oW ad (Mp ad n) (Mw ad n) (aU E) { nx:=fun _ M'=>drp Q .non M',rt:=drp Q } [some x0,some x1,some x2,none,none,none,none,none,none] M:=rfl
theorem u_q4{ad:Ad}{n:Nat}{x0 x1 x2 x3:D}{M:Mem}{Q:DK}{E:DX}:Mw ad (n+1) [x0,x1,x2,x3] M Q E=vT ad (Mp ad n) (Mw ad n) (aU E) { nx:=fun _ M'=>drp Q .non M',rt:=drp Q } [some x0,some x1,some x2,some x3,none,none,none,none,none,none,none] M:=rfl
def zX(ad:Ad)(EE:DX):aG:=
 (aZ (bJ (a9 (aa 2) (a9 (bD cTuple (a9 (au aO (aa 3) (dC (.str "names"))) dNil)) (a9 (au aO (aa 3) (dC (.str "many"))) (a9 (bD cTuple (a9 (aa 4) dNil)) (a9 (aa 5) dNil)))))))
def Bg(ad:Ad)(EE:DX):aG:=
 (aw (aE (au aO (au aO (aa 3) (dC (.str "names"))) (aB (aA (bA ad) EE 2 (a9 (aa 0) (a9 (bD bK (a9 (au aO (aa 3) (dC (.str "names"))) dNil)) dNil))))) (ap 5))
  (zX ad EE))
def A_(ad:Ad)(EE:DX):aG:=
 (aw (aE (aB (aA (Mw ad 24) EE 4 (a9 (aa 0) (a9 (aa 3) (a9 (aB (aA (bA ad) EE 2 (a9 (aa 0) (a9 (au bR (aa 1) (dC (.int 1))) dNil)))) (a9 (dC (.int 4)) dNil)))))) (ap 4))
  (Bg ad EE))
def zT(ad:Ad)(EE:DX):aG:=
 (aw (aE (au aO (aB (ce (a9 (dC (.int 0)) (a9 (dC (.int 1)) (a9 (dC (.int 2)) (a9 (dC (.int 3)) (a9 (dC (.int 4)) (a9 (dC (.int 6)) dNil)))))))) (aB (aA (bA ad) EE 2 (a9 (aa 0) (a9 (dC (.int 6)) dNil))))) (fc (aa 3) (dC (.str "many"))))
  (A_ ad EE))
def B0(ad:Ad)(EE:DX):aG:=
 (aw (aE (kT [("wheel",(aa 2)),("names",(aB (aA (nz ad) EE 1 (a9 (aa 0) dNil)))),("left",(au fA (dC (.int 4)) (aa 1)))]) (ap 3))
  (zT ad EE))
def oJ(ad:Ad)(EE:DX):aG:=
 (aw (aE (au aO (aB (ce (a9 (dC (.int 2)) (a9 (dC (.int 3)) (a9 (dC (.int 3)) (a9 (dC (.int 5)) (a9 (dC (.int 7)) (a9 (dC (.int 11)) (a9 (dC (.int 97)) (a9 (dC (.int 997)) dNil)))))))))) (aB (aA (bA ad) EE 2 (a9 (aa 0) (a9 (dC (.int 8)) dNil))))) (ap 2))
  (B0 ad EE))
def tF(ad:Ad):Sd:=bh ["_law_tape_here","_law_most","_law_wheel","_law_frame","_law_rows","_law_mark"] (oJ ad)
theorem Fn{ad:Ad}{n:Nat}{x0 x1:D}{M:Mem}{Q:DK}{E:DX}:tF ad [x0,x1] M Q E=oJ ad (aU E) { nx:=fun _ M'=>drp Q .non M',rt:=drp Q } [some x0,some x1,none,none,none,none] M:=rfl
def rN(ad:Ad)(EE:DX):aG:=
 (bZ (rf "list" cH (aa 2) (a9 (au aO (aB (ce (a9 (aa 4) (a9 (dC (.int 0)) (a9 (au dP (au dP (aa 4) (dC (.int 3))) (au aO (aa 1) (dC (.int 0)))) dNil))))) (aB (aA (bA ad) EE 2 (a9 (aa 0) (a9 (dC (.int 3)) dNil))))) dNil)))
def mC(ad:Ad)(EE:DX):aG:=
 (aw (aE (aB (aA (bA ad) EE 2 (a9 (aa 0) (a9 (au aO (aa 1) (dC (.int 0))) dNil)))) (ap 4))
   (rN ad EE))
def sH(ad:Ad)(EE:DX):aG:=
 (aZ (bJ (a9 (bD cTuple (a9 (aB (jx (aa 2) bw (ci (aa 5)))) dNil)) (a9 (bD cTuple (a9 (aB (jx (aa 2) (ci (aa 5)) bw)) dNil)) dNil))))
def iW(ad:Ad)(EE:DX):aG:=
 (aw (aE (bD bK (a9 (au aO (aa 1) (dC (.int 1))) dNil)) (ap 5))
  (sH ad EE))
def ss(ad:Ad)(EE:DX):aG:=
 (aw (dFor (cU (a9 (aB (au bR (bD bK (a9 (au aO (aa 1) (dC (.int 1))) dNil)) (au aO (aa 1) (dC (.int 2))))) dNil)) (ap 3) (mC ad EE))
  (iW ad EE))
def o6(ad:Ad)(EE:DX):aG:=
 (aw (aE (ce dNil) (ap 2))
  (ss ad EE))
def oN(ad:Ad):Sd:=bh ["_law_tape_here","_law_plan_here","_law_numbers","_law_k","_law_number","_law_cut"] (o6 ad)
theorem F2{ad:Ad}{n:Nat}{x0 x1:D}{M:Mem}{Q:DK}{E:DX}:oN ad [x0,x1] M Q E=o6 ad (aU E) { nx:=fun _ M'=>drp Q .non M',rt:=drp Q } [some x0,some x1,none,none,none,none] M:=rfl
def Aa(ad:Ad)(EE:DX):aG:=
 (aE (au aO (aa 1) (dC (.int 2))) (fc (aa 2) (au aO (aa 1) (dC (.int 1)))))
def AL(ad:Ad)(EE:DX):aG:=
 (aE (au dP (au aO (aa 2) (au aO (aa 1) (dC (.int 2)))) (bD bK (a9 (au aO (aa 0) (dC (.str "pieces"))) dNil))) (ap 3))
def A9(ad:Ad)(EE:DX):aG:=
 (bZ (rf "list" cH (au aO (aa 0) (dC (.str "read"))) (a9 (aa 3) dNil)))
def mV(ad:Ad)(EE:DX):aG:=
 (aE (au aO (au aO (aa 0) (dC (.str "pieces"))) (aa 3)) (fc (aa 2) (au aO (aa 1) (dC (.int 1)))))
def gR(ad:Ad)(EE:DX):aG:=
 (aw (bp (aL (au jz (aa 3) (au aO (aa 0) (dC (.str "read"))))) (A9 ad EE) bn)
    (mV ad EE))
def mF(ad:Ad)(EE:DX):aG:=
 (aw (bp (aL (au eJ (au aO (aa 1) (dC (.int 0))) (dC (.str "pick")))) (AL ad EE) bn)
    (gR ad EE))
def jg(ad:Ad)(EE:DX):aG:=
 (aw (aE (au aO (aa 1) (dC (.int 2))) (ap 3))
    (mF ad EE))
def tL(ad:Ad)(EE:DX):aG:=
 (aE (au aO (aa 6) (au aO (aa 1) (dC (.int 0)))) (fc (aa 2) (au aO (aa 1) (dC (.int 1)))))
def iP(ad:Ad)(EE:DX):aG:=
 (aw (aE (kT [("sum",(au dP (aB (au bR (aa 4) (aa 5))) (au aO (aa 0) (dC (.str "wheel"))))),("less",(bD kx (a9 (au v0 (aa 4) (aa 5)) dNil))),("by",(au dP (au fA (aa 4) (aa 5)) (au aO (aa 0) (dC (.str "wheel"))))),("same",(bD kx (a9 (au eJ (aa 4) (aa 5)) dNil)))]) (ap 6))
    (tL ad EE))
def pj(ad:Ad)(EE:DX):aG:=
 (aw (aE (au aO (aa 2) (au aO (aa 1) (dC (.int 3)))) (ap 5))
    (iP ad EE))
def gM(ad:Ad)(EE:DX):aG:=
 (aw (aE (au aO (aa 2) (au aO (aa 1) (dC (.int 2)))) (ap 4))
    (pj ad EE))
def fu(ad:Ad)(EE:DX):aG:=
 (bp (qd (aL (au eJ (au aO (aa 1) (dC (.int 0))) (dC (.str "take")))) (aL (au eJ (au aO (aa 1) (dC (.int 0))) (dC (.str "pick"))))) (jg ad EE) (gM ad EE))
def ft(ad:Ad)(EE:DX):aG:=
 (bp (aL (au eJ (au aO (aa 1) (dC (.int 0))) (dC (.str "put")))) (Aa ad EE) (fu ad EE))
def iC(ad:Ad)(EE:DX):aG:=
 (aw (aE (au aO (aa 0) (dC (.str "numbers"))) (ap 2))
  (ft ad EE))
def t8(ad:Ad):Sd:=bh ["_law_here","_law_row","_law_numbers","_law_piece","_law_one","_law_other","_law_all"] (iC ad)
theorem sK{ad:Ad}{n:Nat}{x0 x1:D}{M:Mem}{Q:DK}{E:DX}:t8 ad [x0,x1] M Q E=iC ad (aU E) { nx:=fun _ M'=>drp Q .non M',rt:=drp Q } [some x0,some x1,none,none,none,none,none] M:=rfl
def rV(ad:Ad)(Mt:Sd)(EE:DX):aG:=
 (bp (iI (cY (aa 3)) (fQ (cY (aB (aA Mt EE 2 (a9 (aa 0) (a9 (au aO (aa 2) (dC (.int 2))) dNil))))))) (aZ (dC (.bl false))) bn)
def mP(ad:Ad)(Mt:Sd)(EE:DX):aG:=
 (aw (bp (iI (aL (au eJ (au aO (aa 2) (dC (.int 0))) (dC (.str "if")))) (fQ (cY (aB (aA Mt EE 2 (a9 (aa 0) (a9 (au aO (aa 2) (au kz (dC (.int 3)) (bD kx (a9 (aa 4) dNil)))) dNil))))))) (aZ (dC (.bl false))) bn)
    (rV ad Mt EE))
def dW(ad:Ad)(Mt:Sd)(EE:DX):aG:=
 (aw (aE (BB (au eJ (au aO (aa 2) (dC (.int 0))) (dC (.str "again"))) (aa 4)) (ap 3))
    (mP ad Mt EE))
def sy(ad:Ad)(Mt:Sd)(EE:DX):aG:=
 (aw (aE (au pW (au aO (au aO (aa 0) (dC (.str "numbers"))) (au aO (aa 2) (dC (.int 1)))) (dC (.int 0))) (ap 4))
    (dW ad Mt EE))
def rZ(ad:Ad)(Mt:Sd)(EE:DX):aG:=
 (aw (bp (aL (au v0 (au aO (aa 0) (dC (.str "left"))) (dC (.int 0)))) (aZ (dC (.bl false))) bn)
    (sy ad Mt EE))
def i_(ad:Ad)(Mt:Sd)(EE:DX):aG:=
 (aw (aE (au kz (au aO (aa 0) (dC (.str "left"))) (dC (.int 1))) (fc (aa 0) (dC (.str "left"))))
    (rZ ad Mt EE))
def zw(ad:Ad)(Mt:Sd)(EE:DX):aG:=
 (bZ (aA (t8 ad) EE 2 (a9 (aa 0) (a9 (aa 2) dNil))))
def eS(ad:Ad)(Mt:Sd)(EE:DX):aG:=
 (bp (iI (aL (au pW (au aO (aa 2) (dC (.int 0))) (dC (.str "if")))) (aL (au pW (au aO (aa 2) (dC (.int 0))) (dC (.str "again"))))) (zw ad Mt EE) bn)
def j4(ad:Ad)(Mt:Sd)(EE:DX):aG:=
 (aw (dWhile (cY (aa 3)) (i_ ad Mt EE))
   (eS ad Mt EE))
def dB(ad:Ad)(Mt:Sd)(EE:DX):aG:=
 (aw (aE (dC (.bl true)) (ap 3))
   (j4 ad Mt EE))
def OE(ad:Ad)(Mt:Sd)(EE:DX):aG:=
 (aw (dFor (i6 (aa 1)) (ap 2) (dB ad Mt EE))
  (aZ (dC (.bl true))))
def Mt(ad:Ad):Nat->Sd
 |0=>fun _ _ _ _=>False
 |n+1=>bh ["_law_here","_law_rows","_law_row","_law_turns","_law_truth"] (OE ad (Mt ad n))
theorem TM{ad:Ad}{n:Nat}{x0 x1:D}{M:Mem}{Q:DK}{E:DX}:Mt ad (n+1) [x0,x1] M Q E=OE ad (Mt ad n) (aU E) { nx:=fun _ M'=>drp Q .non M',rt:=drp Q } [some x0,some x1,none,none,none] M:=rfl
def nY(ad:Ad)(EE:DX):aG:=
 (aZ (kT [("numbers",(gC (a9 (au aO (aa 0) (dC (.int 1))) (a9 (au aO (aa 1) (dC (.int 0))) dNil)))),("pieces",(au aO (aa 1) (dC (.int 1)))),("read",(ce dNil)),("wheel",(au aO (aa 0) (dC (.int 0)))),("left",(aa 2))]))
def jH(ad:Ad):Sd:=bh ["_law_plan_here","_law_stand_here","_law_most"] (nY ad)
theorem F3{ad:Ad}{n:Nat}{x0 x1 x2:D}{M:Mem}{Q:DK}{E:DX}:jH ad [x0,x1,x2] M Q E=nY ad (aU E) { nx:=fun _ M'=>drp Q .non M',rt:=drp Q } [some x0,some x1,some x2] M:=rfl
def mQ(ad:Ad)(EE:DX):aG:=
 (aZ (au aO (au aO (aa 3) (dC (.str "numbers"))) (au aO (aa 0) (dC (.int 4)))))
def ll(ad:Ad)(EE:DX):aG:=
 (aw (bp (fQ (cY (aB (aA (Mt ad 24) EE 2 (a9 (aa 3) (a9 (au aO (aa 0) (dC (.int 3))) dNil)))))) (aZ (dC .non)) bn)
  (mQ ad EE))
def p7(ad:Ad)(EE:DX):aG:=
 (aw (aE (aA (jH ad) EE 3 (a9 (aa 0) (a9 (aa 1) (a9 (aa 2) dNil)))) (ap 3))
  (ll ad EE))
def jA(ad:Ad):Sd:=bh ["_law_plan_here","_law_stand_here","_law_most","_law_here"] (p7 ad)
theorem FS{ad:Ad}{n:Nat}{x0 x1 x2:D}{M:Mem}{Q:DK}{E:DX}:jA ad [x0,x1,x2] M Q E=p7 ad (aU E) { nx:=fun _ M'=>drp Q .non M',rt:=drp Q } [some x0,some x1,some x2,none] M:=rfl
def qN(ad:Ad)(EE:DX):aG:=
 (bZ (rf "list" cH (aa 4) (a9 (bD cTuple (a9 (aB (bV (x8 (a9 (aa 5) (a9 (aa 6) dNil))) ["_law_number","_law_another"] [0] (fM 2 (bB (ap 0) (bB (ap 1) eM))) dO (au aO (aB (ce (a9 (aa 0) (a9 (aa 1) dNil)))) (aB (aA (bA ad) ni 2 (a9 (aa 2) (a9 (dC (.int 2)) dNil))))))) dNil)) dNil)))
def qW(ad:Ad)(EE:DX):aG:=
 (aZ (bJ (a9 (aa 2) (a9 (bD cTuple (a9 (aa 4) dNil)) dNil))))
def vt(ad:Ad)(EE:DX):aG:=
 (aw (dFor (x8 (a9 (aa 2) (a9 (aa 3) dNil))) (fM 2 (bB (ap 5) (bB (ap 6) eM))) (qN ad EE))
  (qW ad EE))
def vH(ad:Ad)(EE:DX):aG:=
 (aw (aE (ce dNil) (ap 4))
  (vt ad EE))
def xR(ad:Ad)(EE:DX):aG:=
 (aw (aE (aB (aA (oN ad) EE 2 (a9 (aa 0) (a9 (aa 1) dNil)))) (ap 3))
  (vH ad EE))
def ye(ad:Ad)(EE:DX):aG:=
 (aw (aE (aB (aA (oN ad) EE 2 (a9 (aa 0) (a9 (aa 1) dNil)))) (ap 2))
  (xR ad EE))
def zp(ad:Ad):Sd:=bh ["_law_tape_here","_law_plan_here","_law_first","_law_second","_law_found","_law_one","_law_other"] (ye ad)
theorem u_q3{ad:Ad}{n:Nat}{x0 x1:D}{M:Mem}{Q:DK}{E:DX}:zp ad [x0,x1] M Q E=ye ad (aU E) { nx:=fun _ M'=>drp Q .non M',rt:=drp Q } [some x0,some x1,none,none,none,none,none] M:=rfl
def so(ad:Ad)(EE:DX):aG:=
 (bp (aL (au eJ (aa 4) (dC (.int 0)))) (aE (au aO (aa 5) (aa 9)) (fc (aa 6) (aa 9))) (aE (au kz (aa 4) (dC (.int 1))) (ap 4)))
def tW(ad:Ad)(EE:DX):aG:=
 (bp (aL (au pW (au aO (aa 5) (aa 9)) (au aO (aa 6) (aa 9)))) (so ad EE) bn)
def jf(ad:Ad)(EE:DX):aG:=
 (aw (aE (au dP (aB (au bR (aa 8) (aa 7))) (bD bK (a9 (aa 5) dNil))) (ap 9))
   (tW ad EE))
def tm(ad:Ad)(EE:DX):aG:=
 (aZ (bJ (a9 (bD cTuple (a9 (aB (jx (aa 6) bw (ci (aa 10)))) dNil)) (a9 (bD cTuple (a9 (aB (jx (aa 6) (ci (aa 10)) bw)) dNil)) dNil))))
def mL(ad:Ad)(EE:DX):aG:=
 (aw (aE (bD bK (a9 (au aO (aa 1) (dC (.int 1))) dNil)) (ap 10))
  (tm ad EE))
def tD(ad:Ad)(EE:DX):aG:=
 (aw (dFor (cU (a9 (bD bK (a9 (aa 5) dNil)) dNil)) (ap 8) (jf ad EE))
  (mL ad EE))
def tj(ad:Ad)(EE:DX):aG:=
 (aw (aE (aB (aA (bA ad) EE 2 (a9 (aa 0) (a9 (bD bK (a9 (aa 5) dNil)) dNil)))) (ap 7))
  (tD ad EE))
def tX(ad:Ad)(EE:DX):aG:=
 (aw (aE (bD fj (a9 (aB (au bR (au aO (aa 3) (dC (.int 0))) (au aO (aa 3) (dC (.int 1))))) dNil)) (ap 6))
  (tj ad EE))
def nH(ad:Ad)(EE:DX):aG:=
 (aw (aE (aB (bD fj (a9 (aB (au bR (au aO (aa 2) (dC (.int 0))) (au aO (aa 2) (dC (.int 1))))) dNil))) (ap 5))
  (tX ad EE))
def tS(ad:Ad):Sd:=bh ["_law_tape_here","_law_plan_here","_law_one","_law_other","_law_few","_law_numbers","_law_others","_law_turn","_law_k","_law_at","_law_cut"] (nH ad)
theorem E_{ad:Ad}{n:Nat}{x0 x1 x2 x3 x4:D}{M:Mem}{Q:DK}{E:DX}:tS ad [x0,x1,x2,x3,x4] M Q E=nH ad (aU E) { nx:=fun _ M'=>drp Q .non M',rt:=drp Q } [some x0,some x1,some x2,some x3,some x4,none,none,none,none,none,none] M:=rfl
def qL(ad:Ad)(EE:DX):aG:=
 (aZ (bJ (a9 (aa 3) (a9 (au aO (aa 1) (dC (.int 4))) (a9 (aa 4) (a9 (aa 5) dNil))))))
def yb(ad:Ad)(EE:DX):aG:=
 (aw (aE (aB (bV (cU (a9 (dC (.int 2)) dNil)) ["_law_k"] [0,2] (ap 0) dO (au aO (aa 2) (aB (aA (bA ad) ni 2 (a9 (aa 1) (a9 (bD bK (a9 (aa 2) dNil)) dNil))))))) (wn 2 (bB (ap 4) (bB (ap 5) eM))))
  (qL ad EE))
def wa(ad:Ad)(EE:DX):aG:=
 (aw (aE (au aO (aB (ce (a9 (dC (.str "sum")) (a9 (dC (.str "by")) (a9 (dC (.str "less")) (a9 (dC (.str "same")) dNil)))))) (aB (aA (bA ad) EE 2 (a9 (aa 0) (a9 (dC (.int 4)) dNil))))) (ap 3))
  (yb ad EE))
def ya(ad:Ad)(EE:DX):aG:=
 (aw (aE (au aO (aa 1) (dC (.int 1))) (ap 2))
  (wa ad EE))
def zD(ad:Ad):Sd:=bh ["_law_tape_here","_law_plan_here","_law_all","_law_word","_law_one","_law_other"] (ya ad)
theorem u_q6{ad:Ad}{n:Nat}{x0 x1:D}{M:Mem}{Q:DK}{E:DX}:zD ad [x0,x1] M Q E=ya ad (aU E) { nx:=fun _ M'=>drp Q .non M',rt:=drp Q } [some x0,some x1,none,none,none,none] M:=rfl
def rO(ad:Ad)(EE:DX):aG:=
 (aE (au bR (aB (jx (aa 4) bw (ci (dC (.int 3))))) (bJ (a9 (aa 5) (a9 (au aO (aa 4) (dC (.int 4))) dNil)))) (ap 4))
def lI(ad:Ad)(EE:DX):aG:=
 (aw (aE (au bR (au aO (aa 4) (dC (.int 3))) (bJ (a9 (aB (aA (zD ad) EE 2 (a9 (aa 0) (a9 (aa 4) dNil)))) dNil))) (ap 5))
   (rO ad EE))
def tZ(ad:Ad)(EE:DX):aG:=
 (aZ (bJ (a9 (aa 4) (a9 (aa 7) (a9 (aa 8) (a9 (au aO (aB (ce (a9 (aa 2) (a9 (aa 11) dNil)))) (aB (aA (bA ad) EE 2 (a9 (aa 0) (a9 (dC (.int 2)) dNil))))) dNil))))))
def jm(ad:Ad)(EE:DX):aG:=
 (aw (aE (au bR (au kz (aa 2) (bD zu (a9 (au aO (aa 9) (dC (.str "left"))) (a9 (au aO (aa 10) (dC (.str "left"))) dNil)))) (aB (aA (bA ad) EE 2 (a9 (aa 0) (a9 (dC (.int 4)) dNil))))) (ap 11))
    (tZ ad EE))
def j2(ad:Ad)(EE:DX):aG:=
 (bp (iI (cY (aB (aA (Mt ad 24) EE 2 (a9 (aa 9) (a9 (au aO (aa 4) (dC (.int 3))) dNil))))) (iI (cY (aB (aA (Mt ad 24) EE 2 (a9 (aa 10) (a9 (au aO (aa 4) (dC (.int 3))) dNil))))) (aL (au pW (au aO (au aO (aa 9) (dC (.str "numbers"))) (au aO (aa 4) (dC (.int 4)))) (au aO (au aO (aa 10) (dC (.str "numbers"))) (au aO (aa 4) (dC (.int 4)))))))) (jm ad EE) bn)
def rT(ad:Ad)(EE:DX):aG:=
 (aw (aE (aA (jH ad) EE 3 (a9 (aa 4) (a9 (aa 8) (a9 (aa 2) dNil)))) (ap 10))
   (j2 ad EE))
def tu(ad:Ad)(EE:DX):aG:=
 (aw (aE (aA (jH ad) EE 3 (a9 (aa 4) (a9 (aa 7) (a9 (aa 2) dNil)))) (ap 9))
   (rT ad EE))
def sF(ad:Ad)(EE:DX):aG:=
 (aw (aE (aB (aA (tS ad) EE 5 (a9 (aa 0) (a9 (aa 4) (a9 (aa 7) (a9 (aa 8) (a9 (aa 3) dNil))))))) (ap 8))
   (tu ad EE))
def j9(ad:Ad)(EE:DX):aG:=
 (aw (aE (aB (aA (zp ad) EE 2 (a9 (aa 0) (a9 (aa 4) dNil)))) (fM 2 (bB (ap 7) (bB (ap 8) eM))))
   (sF ad EE))
def jK(ad:Ad)(EE:DX):aG:=
 (aZ (bJ (a9 (au bR (aB (jx (aa 4) bw (ci (dC (.int 3))))) (bJ (a9 (bJ dNil) (a9 (au aO (aa 4) (dC (.int 4))) dNil)))) (a9 (bJ (a9 (aa 12) (a9 (aa 13) dNil))) (a9 (bJ (a9 (aa 14) (a9 (aa 13) dNil))) (a9 (aa 2) dNil))))))
def oA(ad:Ad)(EE:DX):aG:=
 (aw (aE (bD cTuple (a9 (aB (bV (i6 (au aO (aa 4) (dC (.int 1)))) ["_law_name"] [4] (ap 0) dO (bD kx (a9 (au eJ (aa 0) (au aO (aa 1) (dC (.int 4)))) dNil)))) dNil)) (ap 14))
  (jK ad EE))
def nB(ad:Ad)(EE:DX):aG:=
 (aw (aE (au fA (bJ (a9 (dC (.int 0)) dNil)) (au aO (aa 4) (dC (.int 2)))) (ap 13))
  (oA ad EE))
def gO(ad:Ad)(EE:DX):aG:=
 (aw (aE (au fA (bJ (a9 (dC (.int 0)) dNil)) (bD bK (a9 (au aO (aa 4) (dC (.int 1))) dNil))) (ap 12))
  (nB ad EE))
def gx(ad:Ad)(EE:DX):aG:=
 (aw (dFor (cU (a9 (dC (.int 10)) dNil)) (ap 6) (j9 ad EE))
  (gO ad EE))
def oF(ad:Ad)(EE:DX):aG:=
 (aw (bp (aL (au qC (aB (aA (bA ad) EE 2 (a9 (aa 0) (a9 (dC (.int 3)) dNil)))) (dC (.int 0)))) (lI ad EE) bn)
  (gx ad EE))
def nV(ad:Ad)(EE:DX):aG:=
 (aw (aE (aB (aA (tF ad) EE 2 (a9 (aa 0) (a9 (aa 1) dNil)))) (ap 4))
  (oF ad EE))
def sm(ad:Ad):Sd:=bh ["_law_tape_here","_law_rows","_law_most","_law_few","_law_plan_here","_law_rows_here","_law_turn","_law_one","_law_other","_law_here","_law_there","_law_long","_law_numbers","_law_pieces","_law_marked"] (nV ad)
theorem FF{ad:Ad}{n:Nat}{x0 x1 x2 x3:D}{M:Mem}{Q:DK}{E:DX}:sm ad [x0,x1,x2,x3] M Q E=nV ad (aU E) { nx:=fun _ M'=>drp Q .non M',rt:=drp Q } [some x0,some x1,some x2,some x3,none,none,none,none,none,none,none,none,none,none,none] M:=rfl
def nJ(ad:Ad)(EE:DX):aG:=
 (aZ (au bR (aB (bD fj (a9 (au aO (aa 0) (dC (.int 1))) dNil))) (aB (gr (a9 (au aO (aa 0) (dC (.int 2))) dNil)))))
def kS(ad:Ad):Sd:=bh ["_law_plan_here"] (nJ ad)
theorem Gp{ad:Ad}{n:Nat}{x0:D}{M:Mem}{Q:DK}{E:DX}:kS ad [x0] M Q E=nJ ad (aU E) { nx:=fun _ M'=>drp Q .non M',rt:=drp Q } [some x0] M:=rfl
def iQ(ad:Ad)(EE:DX):aG:=
 (aZ (bV (cU (a9 (bD bK (a9 (aa 3) dNil)) dNil)) ["_law_k"] [5,4,3] (ap 0) (aL (au pW (au aO (aa 2) (aa 0)) (au aO (aa 1) (aa 0)))) (au aO (aa 3) (aa 0))))
def sR(ad:Ad)(EE:DX):aG:=
 (aw (aE (aB (au bR (au aO (aa 2) (dC (.int 0))) (au aO (aa 2) (dC (.int 1))))) (ap 5))
  (iQ ad EE))
def tH(ad:Ad)(EE:DX):aG:=
 (aw (aE (aB (au bR (au aO (aa 1) (dC (.int 0))) (au aO (aa 1) (dC (.int 1))))) (ap 4))
  (sR ad EE))
def nD(ad:Ad)(EE:DX):aG:=
 (aw (aE (aB (aA (kS ad) EE 1 (a9 (aa 0) dNil))) (ap 3))
  (tH ad EE))
def tY(ad:Ad):Sd:=bh ["_law_plan_here","_law_one","_law_other","_law_all","_law_numbers","_law_others"] (nD ad)
theorem F4{ad:Ad}{n:Nat}{x0 x1 x2:D}{M:Mem}{Q:DK}{E:DX}:tY ad [x0,x1,x2] M Q E=nD ad (aU E) { nx:=fun _ M'=>drp Q .non M',rt:=drp Q } [some x0,some x1,some x2,none,none,none] M:=rfl
def iV(ad:Ad)(EE:DX):aG:=
 (bp (aL (au BH (au aO (aa 6) (aa 9)) (aa 1))) (aE (au aO (aa 8) (aa 9)) (fc (aa 7) (aa 9))) bn)
def sJ(ad:Ad)(EE:DX):aG:=
 (aZ (bJ (a9 (bD cTuple (a9 (aB (jx (aa 7) bw (ci (aa 10)))) dNil)) (a9 (bD cTuple (a9 (aB (jx (aa 7) (ci (aa 10)) bw)) dNil)) dNil))))
def mz(ad:Ad)(EE:DX):aG:=
 (aw (aE (bD bK (a9 (au aO (aa 2) (dC (.int 1))) dNil)) (ap 10))
  (sJ ad EE))
def tU(ad:Ad)(EE:DX):aG:=
 (aw (dFor (cU (a9 (bD bK (a9 (aa 6) dNil)) dNil)) (ap 9) (iV ad EE))
  (mz ad EE))
def tQ(ad:Ad)(EE:DX):aG:=
 (aw (aE (aB (au bR (au aO (aa 4) (dC (.int 0))) (au aO (aa 4) (dC (.int 1))))) (ap 8))
  (tU ad EE))
def rM(ad:Ad)(EE:DX):aG:=
 (aw (aE (bD fj (a9 (aB (au bR (au aO (aa 3) (dC (.int 0))) (au aO (aa 3) (dC (.int 1))))) dNil)) (ap 7))
  (tQ ad EE))
def s_(ad:Ad)(EE:DX):aG:=
 (aw (aE (aB (aA (kS ad) EE 1 (a9 (aa 2) dNil))) (ap 6))
  (rM ad EE))
def oH(ad:Ad)(EE:DX):aG:=
 (aw (aE (aa 0) (fM 4 (bB (ap 2) (bB (ap 3) (bB (ap 4) (bB (ap 5) eM))))))
  (s_ ad EE))
def rF(ad:Ad):Sd:=bh ["_law_case_here","_law_mix","_law_plan_here","_law_one","_law_other","_law_most","_law_all","_law_numbers","_law_others","_law_k","_law_cut"] (oH ad)
theorem Ft{ad:Ad}{n:Nat}{x0 x1:D}{M:Mem}{Q:DK}{E:DX}:rF ad [x0,x1] M Q E=oH ad (aU E) { nx:=fun _ M'=>drp Q .non M',rt:=drp Q } [some x0,some x1,none,none,none,none,none,none,none,none,none] M:=rfl
def pO(ad:Ad)(EE:DX):aG:=
 (aZ (au aO (aB (ce (a9 (dC (.str "other")) (a9 (dC (.str "faulty")) dNil)))) (bD kx (a9 (au eJ (aa 6) (aB (aA (jA ad) EE 3 (a9 (aa 2) (a9 (aa 4) (a9 (aa 5) dNil)))))) dNil))))
def lj(ad:Ad)(EE:DX):aG:=
 (aw (bp (aL (au eJ (aa 6) (aB (aA (jA ad) EE 3 (a9 (aa 2) (a9 (aa 3) (a9 (aa 5) dNil))))))) (aZ (dC (.str "sound"))) bn)
  (pO ad EE))
def yd(ad:Ad)(EE:DX):aG:=
 (aw (aE (aB (aA (jA ad) EE 3 (a9 (aa 2) (a9 (aB (aA (rF ad) EE 2 (a9 (aa 0) (a9 (aa 1) dNil)))) (a9 (aa 5) dNil))))) (ap 6))
  (lj ad EE))
def w8(ad:Ad)(EE:DX):aG:=
 (aw (aE (aa 0) (fM 4 (bB (ap 2) (bB (ap 3) (bB (ap 4) (bB (ap 5) eM))))))
  (yd ad EE))
def Be(ad:Ad):Sd:=bh ["_law_case_here","_law_mix","_law_plan_here","_law_one","_law_other","_law_most","_law_found"] (w8 ad)
theorem u_q9{ad:Ad}{n:Nat}{x0 x1:D}{M:Mem}{Q:DK}{E:DX}:Be ad [x0,x1] M Q E=w8 ad (aU E) { nx:=fun _ M'=>drp Q .non M',rt:=drp Q } [some x0,some x1,none,none,none,none,none] M:=rfl
def iZ(ad:Ad)(EE:DX):aG:=
 (aZ (au eJ (bD k8 (a9 (aa 1) dNil)) (bD k8 (a9 (aB (bV (i6 (aa 0)) ["_law_one"] [1] (ap 0) (aL (au BH (aa 0) (aa 1))) (aa 0))) dNil))))
def oO(ad:Ad)(EE:DX):aG:=
 (aw (bp (fQ (cY (bD fY (a9 (aa 1) (a9 (dC (.ty "list")) dNil))))) (aZ (dC (.bl false))) bn)
  (iZ ad EE))
def oX(ad:Ad):Sd:=bh ["_law_all","_law_thing"] (oO ad)
theorem Fs{ad:Ad}{n:Nat}{x0 x1:D}{M:Mem}{Q:DK}{E:DX}:oX ad [x0,x1] M Q E=oO ad (aU E) { nx:=fun _ M'=>drp Q .non M',rt:=drp Q } [some x0,some x1] M:=rfl
def lV(ad:Ad)(EE:DX):aG:=
 (aE (au aO (aa 4) (dC (.int 1))) (fc (aa 3) (bD cTuple (a9 (au aO (aa 4) (dC (.int 0))) dNil))))
def lD(ad:Ad)(EE:DX):aG:=
 (aw (bp (aL (au pW (bD mr (a9 (au aO (aa 4) (dC (.int 1))) dNil)) (bD mr (a9 (aB (aA (Be ad) EE 2 (a9 (aa 0) (a9 (au aO (aa 4) (dC (.int 0))) dNil)))) dNil)))) (aZ (dC (.bl false))) bn)
   (lV ad EE))
def mR(ad:Ad)(EE:DX):aG:=
 (aw (bp (qd (fQ (cY (bD fY (a9 (aa 4) (a9 (dC (.ty "tuple")) dNil))))) (qd (aL (au pW (bD bK (a9 (aa 4) dNil)) (dC (.int 2)))) (fQ (cY (aB (aA (oX ad) EE 2 (a9 (aa 1) (a9 (au aO (aa 4) (dC (.int 0))) dNil)))))))) (aZ (dC (.bl false))) bn)
   (lD ad EE))
def v9(ad:Ad)(EE:DX):aG:=
 (bp (aL (au eJ (xQ (aa 3) (bD cTuple (a9 (aB (au bR (aB (jx (aa 5) bw (ci (aa 6)))) (aB (jx (aa 5) (ci (au bR (aa 6) (dC (.int 1)))) bw)))) dNil)) (dC (.str "faulty"))) (dC (.str "faulty")))) (aZ (dC (.bl false))) bn)
def mm(ad:Ad)(EE:DX):aG:=
 (aw (dFor (cU (a9 (bD bK (a9 (aa 5) dNil)) dNil)) (ap 6) (v9 ad EE))
  (aZ (dC (.bl true))))
def ma(ad:Ad)(EE:DX):aG:=
 (aw (bp (qd (fQ (cY (aB (aA (oX ad) EE 2 (a9 (aa 1) (a9 (aa 5) dNil)))))) (aL (au pW (we (aa 3) (bD cTuple (a9 (aa 5) dNil))) (dC (.str "faulty"))))) (aZ (dC (.bl false))) bn)
  (mm ad EE))
def m_(ad:Ad)(EE:DX):aG:=
 (aw (aE (au aO (aa 2) (dC (.int 1))) (ap 5))
  (ma ad EE))
def qo(ad:Ad)(EE:DX):aG:=
 (aw (bp (qd (aL (au v0 (bD rA (a9 (aa 3) dNil)) (bD bK (a9 (au aO (aa 2) (dC (.int 0))) dNil)))) (qd (aL (au CQ (au aO (aa 2) (dC (.int 0))) (aB (ce dNil)))) (aL (au pW (au aO (au aO (au aO (aa 2) (dC (.int 0))) (dC (.int 0))) (dC (.int 0))) (aa 1))))) (aZ (dC (.bl false))) bn)
  (m_ ad EE))
def qq(ad:Ad)(EE:DX):aG:=
 (aw (dFor (i6 (au aO (aa 2) (dC (.int 0)))) (ap 4) (mR ad EE))
  (qo ad EE))
def xl(ad:Ad)(EE:DX):aG:=
 (aw (bp (qd (fQ (cY (bD fY (a9 (aa 2) (a9 (dC (.ty "tuple")) dNil))))) (qd (aL (au pW (bD bK (a9 (aa 2) dNil)) (dC (.int 2)))) (fQ (cY (bD fY (a9 (au aO (aa 2) (dC (.int 0))) (a9 (dC (.ty "list")) dNil))))))) (aZ (dC (.bl false))) bn)
  (aw (aE sS (ap 3))
  (qq ad EE)))
def zG(ad:Ad):Sd:=bh ["_law_case_here","_law_all","_law_found","_law_known","_law_row","_law_cause","_law_k"] (xl ad)
theorem u_q1{ad:Ad}{n:Nat}{x0 x1 x2:D}{M:Mem}{Q:DK}{E:DX}:zG ad [x0,x1,x2] M Q E=xl ad (aU E) { nx:=fun _ M'=>drp Q .non M',rt:=drp Q } [some x0,some x1,some x2,none,none,none,none] M:=rfl
def nc(ad:Ad)(EE:DX):aG:=
 (bZ (rf "list" cH (au aO (aa 5) (dC (.int 1))) (a9 (dC (.str "x")) dNil)))
def jl(ad:Ad)(EE:DX):aG:=
 (aw (bZ (rf "list" lF (au aO (au aO (au aO (aa 5) (dC (.int 0))) (dC (.int 0))) (dC (.int 0))) dNil))
   (nc ad EE))
def lB(ad:Ad)(EE:DX):aG:=
 (aw (bp (aL (au qC (bD bK (a9 (au aO (aa 5) (dC (.int 0))) dNil)) (au bR (au bR (au fA (bD bK (a9 (aa 3) dNil)) (bD bK (a9 (aa 3) dNil))) (au fA (dC (.int 3)) (bD bK (a9 (aa 3) dNil)))) (dC (.int 2))))) (aZ (dC (.bl false))) bn)
   (jl ad EE))
def lM(ad:Ad)(EE:DX):aG:=
 (aw (bp (fQ (cY (aB (aA (zG ad) EE 3 (a9 (aa 2) (a9 (aa 3) (a9 (aa 5) dNil))))))) (aZ (dC (.bl false))) bn)
   (lB ad EE))
def ja(ad:Ad)(EE:DX):aG:=
 (aw (aE (aA (sv ad) EE 1 (a9 (aa 2) dNil)) (ap 5))
   (lM ad EE))
def mK(ad:Ad)(EE:DX):aG:=
 (aw (dFor (cU (a9 (dC (.int 2)) dNil)) (ap 4) (ja ad EE))
  (aZ (dC (.bl true))))
def sP(ad:Ad)(EE:DX):aG:=
 (aw (aE (aB (aA (tY ad) EE 3 (a9 (au aO (aa 2) (dC (.int 0))) (a9 (au aO (aa 2) (dC (.int 1))) (a9 (au aO (aa 2) (dC (.int 2))) dNil))))) (ap 3))
  (mK ad EE))
def rj(ad:Ad)(EE:DX):aG:=
 (aw (aE (aB (aA (sm ad) EE 4 (a9 (aa 1) (a9 (dC (.int 7)) (a9 (dC (.int 50)) (a9 (au aO (aB (ce (a9 (dC (.int 6)) (a9 (dC (.int 3)) (a9 (dC (.int 1)) (a9 (dC (.int 6)) dNil)))))) (aB (aA (bA ad) EE 2 (a9 (aa 1) (a9 (dC (.int 4)) dNil))))) dNil)))))) (ap 2))
  (sP ad EE))
def nK(ad:Ad)(EE:DX):aG:=
 (aw (aE (aA (rL ad) EE 1 (a9 (aa 0) dNil)) (ap 1))
  (rj ad EE))
def wU(ad:Ad):Sd:=bh ["_law_script","_law_tape_here","_law_case_here","_law_all","_law_again","_law_found"] (nK ad)
theorem Fe{ad:Ad}{n:Nat}{x0:D}{M:Mem}{Q:DK}{E:DX}:wU ad [x0] M Q E=nK ad (aU E) { nx:=fun _ M'=>drp Q .non M',rt:=drp Q } [some x0,none,none,none,none,none] M:=rfl
end Tw
namespace Tw
open PySem L2 L3
set_option genInjectivity false in
structure En(K:GH)(mg:Str->Option Value)(ad:Ad):Prop where
 Mx:Cls K ad.C_Askings
 mC_Askings:mg "Askings"=some (.ref ad.C_Askings)
 MQ:Mk K ad.C_Askings ad.Qf
 MA:NoAttr K ad.C_Askings "case"
 My:NoAttr K ad.C_Askings "told"
 MG:NoAttr K ad.C_Askings "two"
 MF:Cls K ad.C_Walk
 mC_Walk:mg "Walk"=some (.ref ad.C_Walk)
 Nt:Mk K ad.C_Walk ad.Qc
 MJ:NoAttr K ad.C_Walk "most"
 Mz:NoAttr K ad.C_Walk "numbers"
 MH:NoAttr K ad.C_Walk "pieces"
 MK:NoAttr K ad.C_Walk "plan"
 ME:NoAttr K ad.C_Walk "steps"
 OF:ExcAt K ad.C_Dry
 mC_Dry:mg "Dry"=some (.ref ad.C_Dry)
 MV:ExcAt K ad.C_NoCase
 mC_NoCase:mg "NoCase"=some (.ref ad.C_NoCase)
 F_q7:Fun K "__init__" "Walk.__init__" E4 ad.Qc ad.QU
 b_q7:Binds K ad.QU ["self","plan","stand","most"] []
 k_q7:GV K (.ref ad.Qc)=true
 F_q5:Fun K "note_step" "Walk.note_step" E9 ad.Qd ad.QW
 Ts:Binds K ad.QW ["self","place","number"] []
 k_q5:GV K (.ref ad.Qd)=true
 Ql:Meth K ad.C_Walk "note_step" ad.Qd
 Rf:Fun K "look" "Walk.look" vi ad.NU ad.OU
 Qm:Binds K ad.OU ["self","place","name"] []
 TN:GV K (.ref ad.NU)=true
 OL:Meth K ad.C_Walk "look" ad.NU
 Rg:Fun K "run" "run" xU ad.NV ad.OV
 Rh:Binds K ad.OV ["plan","stand","most"] []
 Ri:GV K (.ref ad.NV)=true
 Rj:mg "run"=some (.ref ad.NV)
 Rk:Fun K "mark" "mark" vZ ad.NW ad.OW
 PF:Binds K ad.OW ["plan","stand","most"] []
 PH:GV K (.ref ad.NW)=true
 PJ:mg "mark"=some (.ref ad.NW)
 Rl:Fun K "do_rows" "do_rows" wP ad.MU ad.MW
 PK:Binds K ad.MW ["walk","rows","place"] []
 PL:GV K (.ref ad.MU)=true
 PM:mg "do_rows"=some (.ref ad.MU)
 Rm:Fun K "do_row" "do_row" xW ad.MX ad.Ni
 Rn:Binds K ad.Ni ["walk","row","place"] []
 Ro:GV K (.ref ad.MX)=true
 Rq:mg "do_row"=some (.ref ad.MX)
 Rr:Fun K "do_if" "do_if" xg ad.MY ad.Nj
 Rt:Binds K ad.Nj ["walk","row","place"] []
 Ru:GV K (.ref ad.MY)=true
 Rv:mg "do_if"=some (.ref ad.MY)
 Rx:Fun K "do_again" "do_again" xz ad.MZ ad.Nk
 Ry:Binds K ad.Nk ["walk","row","place"] []
 Rz:GV K (.ref ad.MZ)=true
 RA:mg "do_again"=some (.ref ad.MZ)
 RB:Fun K "number_of" "number_of" xC ad.NX ad.OX
 RC:Binds K ad.OX ["plan","numbers","pieces","row"] []
 RD:GV K (.ref ad.NX)=true
 RE:mg "number_of"=some (.ref ad.NX)
 RF:Fun K "piece_read" "piece_read" vD ad.NY ad.OY
 RG:Binds K ad.OY ["plan","numbers","row"] []
 RH:GV K (.ref ad.NY)=true
 RI:mg "piece_read"=some (.ref ad.NY)
 RJ:Fun K "joined" "joined" wl ad.NZ ad.OZ
 RK:Binds K ad.OZ ["word","y","z","wheel"] []
 RL:GV K (.ref ad.NZ)=true
 RM:mg "joined"=some (.ref ad.NZ)
 RN:Fun K "all_things" "all_things" y4 ad.N0 ad.O0
 RO:Binds K ad.O0 ["plan"] []
 RP:GV K (.ref ad.N0)=true
 RQ:mg "all_things"=some (.ref ad.N0)
 RS:Fun K "number_in" "number_in" vS ad.N5 ad.Pa
 PN:Binds K ad.Pa ["plan","stand","thing"] []
 PQ:GV K (.ref ad.N5)=true
 PR:mg "number_in"=some (.ref ad.N5)
 RT:Fun K "unlike" "unlike" xS ad.N6 ad.Pb
 RU:Binds K ad.Pb ["plan","one","other"] []
 RV:GV K (.ref ad.N6)=true
 RW:mg "unlike"=some (.ref ad.N6)
 RX:Fun K "marks" "marks" vV ad.N7 ad.Pc
 RY:Binds K ad.Pc ["case"] []
 RZ:GV K (.ref ad.N7)=true
 R0:mg "marks"=some (.ref ad.N7)
 R1:Fun K "unlike_of" "unlike_of" y8 ad.N8 ad.Pd
 R3:Binds K ad.Pd ["case"] []
 R4:GV K (.ref ad.N8)=true
 R5:mg "unlike_of"=some (.ref ad.N8)
 R6:Fun K "stand_of" "stand_of" wT ad.N9 ad.Pe
 R7:Binds K ad.Pe ["case","mix"] []
 R8:GV K (.ref ad.N9)=true
 R9:mg "stand_of"=some (.ref ad.N9)
 F_q8:Fun K "number_mixed" "number_mixed" Cs ad.Qe ad.QX
 Tt:Binds K ad.QX ["case","mix","thing"] []
 Tu:GV K (.ref ad.Qe)=true
 Tv:mg "number_mixed"=some (.ref ad.Qe)
 Sa:Fun K "verdict_of" "verdict_of" vY ad.Oa ad.Pf
 Sb:Binds K ad.Pf ["two","one"] []
 Se:GV K (.ref ad.Oa)=true
 Sf:mg "verdict_of"=some (.ref ad.Oa)
 F_q2:Fun K "__init__" "Askings.__init__" BN ad.Qf ad.QY
 b_q2:Binds K ad.QY ["self","case"] []
 k_q2:GV K (.ref ad.Qf)=true
 Sg:Fun K "ask" "Askings.ask" xF ad.Ob ad.Pg
 Qn:Binds K ad.Pg ["self","mix"] []
 TQ:GV K (.ref ad.Ob)=true
 OM:Meth K ad.C_Askings "ask" ad.Ob
 F_q0:Fun K "is_cause" "Askings.is_cause" Cg ad.Qg ad.QZ
 Q6:Binds K ad.QZ ["self","mix"] []
 k_q0:GV K (.ref ad.Qg)=true
 PU:Meth K ad.C_Askings "is_cause" ad.Qg
 Sh:Fun K "narrowed" "narrowed" va ad.Oc ad.Ph
 Si:Binds K ad.Ph ["case"] []
 Sj:GV K (.ref ad.Oc)=true
 Sk:mg "narrowed"=some (.ref ad.Oc)
 Sl:Fun K "halved" "halved" xM ad.Oe ad.Pj
 Sm:Binds K ad.Pj ["askings","cause"] []
 Sn:GV K (.ref ad.Oe)=true
 So:mg "halved"=some (.ref ad.Oe)
 Sq:Fun K "thinned" "thinned" wc ad.Of ad.Pk
 Sr:Binds K ad.Pk ["askings","cause"] []
 Ss:GV K (.ref ad.Of)=true
 Su:mg "thinned"=some (.ref ad.Of)
 Sv:Fun K "_law_tape" "_law_tape" wK ad.Og ad.Pl
 Sw:Binds K ad.Pl ["_law_script"] []
 Sy:GV K (.ref ad.Og)=true
 Sz:mg "_law_tape"=some (.ref ad.Og)
 SA:Fun K "_law_draw" "_law_draw" vA ad.Oh ad.Pm
 MB:Binds K ad.Pm ["_law_tape_here","_law_many"] []
 MC:GV K (.ref ad.Oh)=true
 MD:mg "_law_draw"=some (.ref ad.Oh)
 SD:Fun K "_law_names" "_law_names" wA ad.Oi ad.Pn
 SE:Binds K ad.Pn ["_law_tape_here"] []
 SF:GV K (.ref ad.Oi)=true
 SG:mg "_law_names"=some (.ref ad.Oi)
 SH:Fun K "_law_one_row" "_law_one_row" xZ ad.Oj ad.Po
 SI:Binds K ad.Po ["_law_tape_here","_law_frame"] []
 SJ:GV K (.ref ad.Oj)=true
 SK:mg "_law_one_row"=some (.ref ad.Oj)
 SM:Fun K "_law_loop" "_law_loop" vj ad.Np ad.Nx
 SN:Binds K ad.Nx ["_law_tape_here","_law_frame","_law_deep"] []
 SO:GV K (.ref ad.Np)=true
 SQ:mg "_law_loop"=some (.ref ad.Np)
 F_q4:Fun K "_law_some_rows" "_law_some_rows" BP ad.NR ad.Ol
 Qo:Binds K ad.Ol ["_law_tape_here","_law_frame","_law_many","_law_deep"] []
 Qp:GV K (.ref ad.NR)=true
 Qq:mg "_law_some_rows"=some (.ref ad.NR)
 SS:Fun K "_law_plan" "_law_plan" xN ad.Om ad.Pp
 SU:Binds K ad.Pp ["_law_tape_here","_law_most"] []
 SV:GV K (.ref ad.Om)=true
 SW:mg "_law_plan"=some (.ref ad.Om)
 SX:Fun K "_law_stand" "_law_stand" y9 ad.Oo ad.Pq
 Qr:Binds K ad.Pq ["_law_tape_here","_law_plan_here"] []
 Qs:GV K (.ref ad.Oo)=true
 Qt:mg "_law_stand"=some (.ref ad.Oo)
 SY:Fun K "_law_set" "_law_set" vF ad.Oq ad.Pr
 S0:Binds K ad.Pr ["_law_here","_law_row"] []
 S1:GV K (.ref ad.Oq)=true
 S2:mg "_law_set"=some (.ref ad.Oq)
 S3:Fun K "_law_do" "_law_do" w4 ad.Nq ad.Ny
 NG:Binds K ad.Ny ["_law_here","_law_rows"] []
 NH:GV K (.ref ad.Nq)=true
 NI:mg "_law_do"=some (.ref ad.Nq)
 S4:Fun K "_law_begun" "_law_begun" wo ad.Ot ad.Pu
 PV:Binds K ad.Pu ["_law_plan_here","_law_stand_here","_law_most"] []
 PX:GV K (.ref ad.Ot)=true
 PY:mg "_law_begun"=some (.ref ad.Ot)
 S5:Fun K "_law_mark_by" "_law_mark_by" xK ad.Ou ad.Pw
 PZ:Binds K ad.Pw ["_law_plan_here","_law_stand_here","_law_most"] []
 P0:GV K (.ref ad.Ou)=true
 P1:mg "_law_mark_by"=some (.ref ad.Ou)
 F_q3:Fun K "_law_two_stands" "_law_two_stands" CA ad.Qh ad.Q0
 b_q3:Binds K ad.Q0 ["_law_tape_here","_law_plan_here"] []
 k_q3:GV K (.ref ad.Qh)=true
 m_q3:mg "_law_two_stands"=some (.ref ad.Qh)
 S6:Fun K "_law_fewer" "_law_fewer" wy ad.Ov ad.Px
 S7:Binds K ad.Px ["_law_tape_here","_law_plan_here","_law_one","_law_other","_law_few"] []
 S8:GV K (.ref ad.Ov)=true
 S9:mg "_law_fewer"=some (.ref ad.Ov)
 F_q6:Fun K "_law_last_row" "_law_last_row" BS ad.Qi ad.Q1
 b_q6:Binds K ad.Q1 ["_law_tape_here","_law_plan_here"] []
 k_q6:GV K (.ref ad.Qi)=true
 m_q6:mg "_law_last_row"=some (.ref ad.Qi)
 Ta:Fun K "_law_case" "_law_case" vb ad.Ow ad.Py
 Tb:Binds K ad.Py ["_law_tape_here","_law_rows","_law_most","_law_few"] []
 Tc:GV K (.ref ad.Ow)=true
 Td:mg "_law_case"=some (.ref ad.Ow)
 Te:Fun K "_law_things" "_law_things" vg ad.Ox ad.Pz
 Qu:Binds K ad.Pz ["_law_plan_here"] []
 Qv:GV K (.ref ad.Ox)=true
 Qw:mg "_law_things"=some (.ref ad.Ox)
 Tg:Fun K "_law_unlike" "_law_unlike" wq ad.Oy ad.PB
 Th:Binds K ad.PB ["_law_plan_here","_law_one","_law_other"] []
 Ti:GV K (.ref ad.Oy)=true
 Tj:mg "_law_unlike"=some (.ref ad.Oy)
 Tn:Fun K "_law_mixed" "_law_mixed" y6 ad.Oz ad.PC
 To:Binds K ad.PC ["_law_case_here","_law_mix"] []
 Tp:GV K (.ref ad.Oz)=true
 Tq:mg "_law_mixed"=some (.ref ad.Oz)
 F_q9:Fun K "_law_verdict" "_law_verdict" Cy ad.Qj ad.Q4
 b_q9:Binds K ad.Q4 ["_law_case_here","_law_mix"] []
 k_q9:GV K (.ref ad.Qj)=true
 m_q9:mg "_law_verdict"=some (.ref ad.Qj)
 Tr:Fun K "_law_is_mix" "_law_is_mix" wZ ad.OA ad.PD
 Qx:Binds K ad.PD ["_law_all","_law_thing"] []
 Qy:GV K (.ref ad.OA)=true
 Qz:mg "_law_is_mix"=some (.ref ad.OA)
 F_q1:Fun K "_law_is_narrowed" "_law_is_narrowed" Cu ad.Qk ad.Q5
 b_q1:Binds K ad.Q5 ["_law_case_here","_law_all","_law_found"] []
 k_q1:GV K (.ref ad.Qk)=true
 m_q1:mg "_law_is_narrowed"=some (.ref ad.Qk)
 F_law:Fun K "law" "law" gS ad.a_law ad.d_law
 b_law:Binds K ad.d_law ["_law_script"] []
 k_law:GV K (.ref ad.a_law)=true
 m_law:mg "law"=some (.ref ad.a_law)
 z_dict:mg "dict"=none
 z_enumerate:mg "enumerate"=none
 z_int:mg "int"=none
 z_isinstance:mg "isinstance"=none
 z_len:mg "len"=none
 z_list:mg "list"=none
 z_min:mg "min"=none
 z_range:mg "range"=none
 z_repr:mg "repr"=none
 z_str:mg "str"=none
 z_tuple:mg "tuple"=none
 z_zip:mg "zip"=none
section
variable (P:Program)(w:World)(K:GH)(mg:Str->Option Value)(base:Heap)(ad:Ad)
abbrev O1:Prop:=FnOk P w K mg base (bM P w) 1 ad.Qc ad.QU ["self","plan","stand","most"] (ay K 4 (zt ad))
abbrev O2:Prop:=FnOk P w K mg base (bM P w) 1 ad.Qd ad.QW ["self","place","number"] (ay K 3 (ql ad))
abbrev O3:Prop:=FnOk P w K mg base (bM P w) 2 ad.NU ad.OU ["self","place","name"] (ay K 3 (ld ad))
abbrev O4:Prop:=FnOk P w K mg base (bM P w) 1 ad.NZ ad.OZ ["word","y","z","wheel"] (ay K 4 (sO ad))
abbrev O5:Prop:=FnOk P w K mg base (bM P w) 1 ad.NY ad.OY ["plan","numbers","row"] (ay K 3 (sj ad))
abbrev O6:Prop:=FnOk P w K mg base (bM P w) 2 ad.NX ad.OX ["plan","numbers","pieces","row"] (ay K 4 (oY ad))
abbrev O7:Prop:=FnOk P w K mg base (bM P w) 27 ad.NV ad.OV ["plan","stand","most"] (ay K 3 (nn ad))
abbrev O8:Prop:=FnOk P w K mg base (bM P w) 28 ad.NW ad.OW ["plan","stand","most"] (ay K 3 (jU ad))
abbrev O9:Prop:=FnOk P w K mg base (bM P w) 1 ad.N0 ad.O0 ["plan"] (ay K 1 (sI ad))
abbrev O10:Prop:=FnOk P w K mg base (bM P w) 1 ad.N5 ad.Pa ["plan","stand","thing"] (ay K 3 (kW ad))
abbrev O11:Prop:=FnOk P w K mg base (bM P w) 2 ad.N6 ad.Pb ["plan","one","other"] (ay K 3 (sU ad))
abbrev O12:Prop:=FnOk P w K mg base (bM P w) 29 ad.N7 ad.Pc ["case"] (ay K 1 (si ad))
abbrev O13:Prop:=FnOk P w K mg base (bM P w) 3 ad.N8 ad.Pd ["case"] (ay K 1 (r9 ad))
abbrev O14:Prop:=FnOk P w K mg base (bM P w) 2 ad.Qe ad.QX ["case","mix","thing"] (ay K 3 (uX ad))
abbrev O15:Prop:=FnOk P w K mg base (bM P w) 3 ad.N9 ad.Pe ["case","mix"] (ay K 2 (tO ad))
abbrev O16:Prop:=FnOk P w K mg base (bM P w) 1 ad.Oa ad.Pf ["two","one"] (ay K 2 (tP ad))
abbrev O17:Prop:=FnOk P w K mg base (bM P w) 30 ad.Qf ad.QY ["self","case"] (ay K 2 (B3 ad))
abbrev O18:Prop:=FnOk P w K mg base (bM P w) 29 ad.Ob ad.Pg ["self","mix"] (ay K 2 (n_ ad))
abbrev O19:Prop:=FnOk P w K mg base (bM P w) 30 ad.Qg ad.QZ ["self","mix"] (ay K 2 (qD ad))
abbrev O20:Prop:=FnOk P w K mg base (bM P w) 31 ad.Oe ad.Pj ["askings","cause"] (ay K 2 (tR ad))
abbrev O21:Prop:=FnOk P w K mg base (bM P w) 31 ad.Of ad.Pk ["askings","cause"] (ay K 2 (sx ad))
abbrev O22:Prop:=FnOk P w K mg base (bM P w) 32 ad.Oc ad.Ph ["case"] (ay K 1 (sv ad))
abbrev O23:Prop:=FnOk P w K mg base (bM P w) 1 ad.Og ad.Pl ["_law_script"] (ay K 1 (rL ad))
abbrev u9:Prop:=FnOk P w K mg base (bM P w) 1 ad.Oh ad.Pm ["_law_tape_here","_law_many"] (ay K 2 (bA ad))
abbrev O25:Prop:=FnOk P w K mg base (bM P w) 2 ad.Oi ad.Pn ["_law_tape_here"] (ay K 1 (nz ad))
abbrev O26:Prop:=FnOk P w K mg base (bM P w) 2 ad.Oj ad.Po ["_law_tape_here","_law_frame"] (ay K 2 (sX ad))
abbrev O27:Prop:=FnOk P w K mg base (bM P w) 27 ad.Om ad.Pp ["_law_tape_here","_law_most"] (ay K 2 (tF ad))
abbrev O28:Prop:=FnOk P w K mg base (bM P w) 2 ad.Oo ad.Pq ["_law_tape_here","_law_plan_here"] (ay K 2 (oN ad))
abbrev O29:Prop:=FnOk P w K mg base (bM P w) 1 ad.Oq ad.Pr ["_law_here","_law_row"] (ay K 2 (t8 ad))
abbrev O30:Prop:=FnOk P w K mg base (bM P w) 1 ad.Ot ad.Pu ["_law_plan_here","_law_stand_here","_law_most"] (ay K 3 (jH ad))
abbrev O31:Prop:=FnOk P w K mg base (bM P w) 25 ad.Nq ad.Ny ["_law_here","_law_rows"] (ay K 2 (Mt ad 24))
abbrev O32:Prop:=FnOk P w K mg base (bM P w) 26 ad.Ou ad.Pw ["_law_plan_here","_law_stand_here","_law_most"] (ay K 3 (jA ad))
abbrev O33:Prop:=FnOk P w K mg base (bM P w) 3 ad.Qh ad.Q0 ["_law_tape_here","_law_plan_here"] (ay K 2 (zp ad))
abbrev O34:Prop:=FnOk P w K mg base (bM P w) 2 ad.Ov ad.Px ["_law_tape_here","_law_plan_here","_law_one","_law_other","_law_few"] (ay K 5 (tS ad))
abbrev O35:Prop:=FnOk P w K mg base (bM P w) 2 ad.Qi ad.Q1 ["_law_tape_here","_law_plan_here"] (ay K 2 (zD ad))
abbrev O36:Prop:=FnOk P w K mg base (bM P w) 28 ad.Ow ad.Py ["_law_tape_here","_law_rows","_law_most","_law_few"] (ay K 4 (sm ad))
abbrev O37:Prop:=FnOk P w K mg base (bM P w) 1 ad.Ox ad.Pz ["_law_plan_here"] (ay K 1 (kS ad))
abbrev O38:Prop:=FnOk P w K mg base (bM P w) 2 ad.Oy ad.PB ["_law_plan_here","_law_one","_law_other"] (ay K 3 (tY ad))
abbrev O39:Prop:=FnOk P w K mg base (bM P w) 2 ad.Oz ad.PC ["_law_case_here","_law_mix"] (ay K 2 (rF ad))
abbrev O40:Prop:=FnOk P w K mg base (bM P w) 27 ad.Qj ad.Q4 ["_law_case_here","_law_mix"] (ay K 2 (Be ad))
abbrev O41:Prop:=FnOk P w K mg base (bM P w) 1 ad.OA ad.PD ["_law_all","_law_thing"] (ay K 2 (oX ad))
abbrev O42:Prop:=FnOk P w K mg base (bM P w) 28 ad.Qk ad.Q5 ["_law_case_here","_law_all","_law_found"] (ay K 3 (zG ad))
abbrev O43:Prop:=FnOk P w K mg base (bM P w) 33 ad.a_law ad.d_law ["_law_script"] (ay K 1 (wU ad))
end
section
variable {P:Program}{w:World}{K:GH}{mg:Str->Option Value}{base:Heap}{ad:Ad}
theorem F_(En:En K mg ad)  : O1 P w K mg base ad:=by
 refine dg (k:=0) (T:=wH ad) En.F_q7 Gi fun cdv A outer s H E B EE hr ux=>?_;have hU:=hr.units;have hu:=bi hr;unfold wH
 exact (af (ff En.MF En.MK (am 0) (am 1))
  (af (ff En.MF En.Mz (am 0) (jC rfl rfl En.z_zip rfl En.z_dict (a8 (aj (ag hu) (am 1) ae (fun _ _=>rfl)) (a8 (aj (ag hu) (am 2) ae (fun _ _=>rfl)) ac))))
  (af (ff En.MF En.MH (am 0) (aj (ag hu) (am 2) ae (fun _ _=>rfl)))
  (af (ff En.MF En.MJ (am 0) (am 3))
  (ah (ff En.MF En.ME (am 0) (bE ac)))))))
theorem Fh(En:En K mg ad)  : O2 P w K mg base ad:=by
 refine dg (k:=0) (T:=wm ad) En.F_q5 Fk fun cdv A outer s H E B EE hr ux=>?_;have hU:=hr.units;have hu:=bi hr;unfold wm
 exact (af (b0 (aH wD (aJ aR rfl En.z_len a_ (a8 (bX En.MF En.ME (am 0)) ac)) (bX En.MF En.MJ (am 0)) (aD _)) (ah (jt En.OF En.mC_Dry ux rfl)) aT)
  (ah (bL (io (Or.inl rfl) Hx HB HI cw (bX En.MF En.ME (am 0)) (a8 (ba (a8 (am 1) (a8 (am 2) ac))) ac)))))
theorem CG(En:En K mg ad)(Nh:O2 P w K mg base ad):O3 P w K mg base ad:=by
 refine dg (k:=1) (T:=nR ad) En.Rf P5 fun cdv A outer s H E B EE hr ux=>?_;have hU:=hr.units;have hu:=bi hr;unfold nR
 exact (af (ax (i:=3) P5.nd rfl (Or.inl rfl) (fz (aH (bj hU) (aj (ag hu) (bX En.MF En.Mz (am 0)) (am 2) (fun _ _=>rfl)) ae (aD _)) ae ae))
  (af (bL (dk (am 0) En.MF En.Ql Nh (hr.mono (by decide)) En.Ts aF ux (a8 (am 1) (a8 (am 3) ac))))
  (ah (aC (am 3)))))
theorem Du(En:En K mg ad)  : O4 P w K mg base ad:=by
 refine dg (k:=0) (T:=nw ad) En.RJ CP fun cdv A outer s H E B EE hr ux=>?_;have hU:=hr.units;have hu:=bi hr;unfold nw
 exact (af (b0 (aH (bj hU) (am 0) av (aD _)) (ah (aC (aN bI (aq (aN aX (am 1) (am 2))) (am 3)))) aT)
  (af (b0 (aH (bj hU) (am 0) av (aD _)) (ah (aC (aN bI (aN ck (am 1) (am 2)) (am 3)))) aT)
  (af (b0 (aH (bj hU) (am 0) av (aD _)) (ah (aC (fz (aH gh (am 1) (am 2) (aD _)) ae ae))) aT)
  (ah (aC (fz (aH (bj hU) (am 1) (am 2) (aD _)) ae ae))))))
theorem D8(En:En K mg ad)  : O5 P w K mg base ad:=by
 refine dg (k:=0) (T:=ik ad) En.RF CI fun cdv A outer s H E B EE hr ux=>?_;have hU:=hr.units;have hu:=bi hr;unfold ik
 exact (af (b0 (aH (bj hU) (aj (ag hu) (am 2) ae (fun _ _=>rfl)) av (aD _)) (ah (aC (aj (ag hu) (am 2) ae (fun _ _=>rfl)))) aT)
  (af (b0 (aH (bj hU) (aj (ag hu) (am 2) ae (fun _ _=>rfl)) av (aD _)) (ah (aC (aN bI (aj (ag hu) (am 1) (aj (ag hu) (am 2) ae (fun _ _=>rfl)) (fun _ _=>rfl)) (aj (ag hu) (am 0) ae (fun _ _=>rfl))))) aT)
  (ah (aC fk))))
theorem De(En:En K mg ad)(QA:O4 P w K mg base ad)(QB:O5 P w K mg base ad):O6 P w K mg base ad:=by
 refine dg (k:=1) (T:=ij ad) En.RB Qa fun cdv A outer s H E B EE hr ux=>?_;have hU:=hr.units;have hu:=bi hr;unfold ij
 exact (af (b0 (aH (bj hU) (aj (ag hu) (am 3) ae (fun _ _=>rfl)) av (aD _)) (ah (aC (aj (ag hu) (am 3) ae (fun _ _=>rfl)))) aT)
  (af (ax (i:=4) Qa.nd rfl (Or.inl rfl) (aq (ar QB (hr.mono (by decide)) rfl En.RI En.RH En.RG aF ux (a8 (am 0) (a8 (am 1) (a8 (am 3) ac))))))
  (af (b0 (aH vG (am 4) fk (aD _)) (ah (aC (aj (ag hu) (am 2) (am 4) (fun _ _=>rfl)))) aT)
  (ah (aC (ar QA (hr.mono (by decide)) rfl En.RM En.RL En.RK aF ux (a8 (aj (ag hu) (am 3) ae (fun _ _=>rfl)) (a8 (aj (ag hu) (am 1) (aj (ag hu) (am 3) ae (fun _ _=>rfl)) (fun _ _=>rfl)) (a8 (aj (ag hu) (am 1) (aj (ag hu) (am 3) ae (fun _ _=>rfl)) (fun _ _=>rfl)) (a8 (aj (ag hu) (am 0) ae (fun _ _=>rfl)) ac))))))))))
theorem nP(En:En K mg ad)(MN:O3 P w K mg base ad)(Nh:O2 P w K mg base ad)(MS:O6 P w K mg base ad)(n:Nat)(ML:FnOk P w K mg base (bM P w) (2+n) ad.MU ad.MW ["walk","rows","place"] (ay K 3 (Mr ad n)))(M8:FnOk P w K mg base (bM P w) (2+n) ad.MX ad.Ni ["walk","row","place"] (ay K 3 (Ms ad n)))(M9:FnOk P w K mg base (bM P w) (2+n) ad.MY ad.Nj ["walk","row","place"] (ay K 3 (Mu ad n)))(Na:FnOk P w K mg base (bM P w) (2+n) ad.MZ ad.Nk ["walk","row","place"] (ay K 3 (Mv ad n))):FnOk P w K mg base (bM P w) (2+n+1) ad.MU ad.MW ["walk","rows","place"] (ay K 3 (Mr ad (n+1))):=by
 refine dg (k:=2+n) (T:=OB ad (Mr ad n) (Ms ad n) (Mu ad n) (Mv ad n)) En.Rl OH fun cdv A outer s H E B EE hr ux=>?_;have hU:=hr.units;have hu:=bi hr;unfold OB;exact (ah (dE Hj rfl (yI rfl En.z_enumerate (a8 (am 1) ac)) (gf (n:=2) rfl (bf (aS (i:=3) OH.nd rfl (Or.inl rfl)) (bf (aS (i:=4) OH.nd rfl (Or.inl rfl)) cR))) (ah (bL (ar M8 (hr.mono (by lia)) rfl En.Rq En.Ro En.Rn aF ux (a8 (am 0) (a8 (am 4) (a8 (aN aX (am 2) (ba (a8 (am 3) ac))) ac))))))))
theorem pT(En:En K mg ad)(MN:O3 P w K mg base ad)(Nh:O2 P w K mg base ad)(MS:O6 P w K mg base ad)(n:Nat)(ML:FnOk P w K mg base (bM P w) (2+n) ad.MU ad.MW ["walk","rows","place"] (ay K 3 (Mr ad n)))(M8:FnOk P w K mg base (bM P w) (2+n) ad.MX ad.Ni ["walk","row","place"] (ay K 3 (Ms ad n)))(M9:FnOk P w K mg base (bM P w) (2+n) ad.MY ad.Nj ["walk","row","place"] (ay K 3 (Mu ad n)))(Na:FnOk P w K mg base (bM P w) (2+n) ad.MZ ad.Nk ["walk","row","place"] (ay K 3 (Mv ad n))):FnOk P w K mg base (bM P w) (2+n+1) ad.MX ad.Ni ["walk","row","place"] (ay K 3 (Ms ad (n+1))):=by
 refine dg (k:=2+n) (T:=fX ad (Mr ad n) (Ms ad n) (Mu ad n) (Mv ad n)) En.Rm P8 fun cdv A outer s H E B EE hr ux=>?_;have hU:=hr.units;have hu:=bi hr;unfold fX
 exact (ah (b0 (aH (bj hU) (aj (ag hu) (am 1) ae (fun _ _=>rfl)) av (aD _)) (ah (bL (ar M9 (hr.mono (by lia)) rfl En.Rv En.Ru En.Rt aF ux (a8 (am 0) (a8 (am 1) (a8 (am 2) ac)))))) (ah (b0 (aH (bj hU) (aj (ag hu) (am 1) ae (fun _ _=>rfl)) av (aD _)) (ah (bL (ar Na (hr.mono (by lia)) rfl En.RA En.Rz En.Ry aF ux (a8 (am 0) (a8 (am 1) (a8 (am 2) ac)))))) (af (ax (i:=3) P8.nd rfl (Or.inl rfl) (aq (ar MS (hr.mono (by lia)) rfl En.RE En.RD En.RC aF ux (a8 (bX En.MF En.MK (am 0)) (a8 (bX En.MF En.Mz (am 0)) (a8 (bX En.MF En.MH (am 0)) (a8 (am 1) ac)))))))
    (af (bL (dk (am 0) En.MF En.Ql Nh (hr.mono (by lia)) En.Ts aF ux (a8 (am 2) (a8 (am 3) ac))))
    (ah (bU (am 3) (cK hu (bX En.MF En.Mz (am 0)) (aj (ag hu) (am 1) ae (fun _ _=>rfl)))))))))))
theorem ua(En:En K mg ad)(MN:O3 P w K mg base ad)(Nh:O2 P w K mg base ad)(MS:O6 P w K mg base ad)(n:Nat)(ML:FnOk P w K mg base (bM P w) (2+n) ad.MU ad.MW ["walk","rows","place"] (ay K 3 (Mr ad n)))(M8:FnOk P w K mg base (bM P w) (2+n) ad.MX ad.Ni ["walk","row","place"] (ay K 3 (Ms ad n)))(M9:FnOk P w K mg base (bM P w) (2+n) ad.MY ad.Nj ["walk","row","place"] (ay K 3 (Mu ad n)))(Na:FnOk P w K mg base (bM P w) (2+n) ad.MZ ad.Nk ["walk","row","place"] (ay K 3 (Mv ad n))):FnOk P w K mg base (bM P w) (2+n+1) ad.MY ad.Nj ["walk","row","place"] (ay K 3 (Mu ad (n+1))):=by
 refine dg (k:=2+n) (T:=OC ad (Mr ad n) (Ms ad n) (Mu ad n) (Mv ad n)) En.Rr P9 fun cdv A outer s H E B EE hr ux=>?_;have hU:=hr.units;have hu:=bi hr;unfold OC
 exact (af (ax (i:=3) P9.nd rfl (Or.inl rfl) (aq (dk (am 0) En.MF En.OL MN (hr.mono (by lia)) En.Qm aF ux (a8 (am 2) (a8 (aj (ag hu) (am 1) ae (fun _ _=>rfl)) ac)))))
  (ah (bL (ar ML (hr.mono (by lia)) rfl En.PM En.PL En.PK aF ux (a8 (am 0) (a8 (fz (aH (bj hU) (am 3) ae (aD _)) (aj (ag hu) (am 1) ae (fun _ _=>rfl)) (aj (ag hu) (am 1) ae (fun _ _=>rfl))) (a8 (aN aX (am 2) (ba (a8 (am 3) ac))) ac)))))))
theorem mv(En:En K mg ad)(MN:O3 P w K mg base ad)(Nh:O2 P w K mg base ad)(MS:O6 P w K mg base ad)(n:Nat)(ML:FnOk P w K mg base (bM P w) (2+n) ad.MU ad.MW ["walk","rows","place"] (ay K 3 (Mr ad n)))(M8:FnOk P w K mg base (bM P w) (2+n) ad.MX ad.Ni ["walk","row","place"] (ay K 3 (Ms ad n)))(M9:FnOk P w K mg base (bM P w) (2+n) ad.MY ad.Nj ["walk","row","place"] (ay K 3 (Mu ad n)))(Na:FnOk P w K mg base (bM P w) (2+n) ad.MZ ad.Nk ["walk","row","place"] (ay K 3 (Mv ad n))):FnOk P w K mg base (bM P w) (2+n+1) ad.MZ ad.Nk ["walk","row","place"] (ay K 3 (Mv ad (n+1))):=by
 refine dg (k:=2+n) (T:=OD ad (Mr ad n) (Ms ad n) (Mu ad n) (Mv ad n)) En.Rx OI fun cdv A outer s H E B EE hr ux=>?_;have hU:=hr.units;have hu:=bi hr;unfold OD
 exact (af (ax (i:=3) OI.nd rfl (Or.inl rfl) ae)
  (ah (gY Hj (aH (bj hU) (aq (dk (am 0) En.MF En.OL MN (hr.mono (by lia)) En.Qm aF ux (a8 (aN aX (am 2) (ba (a8 (am 3) ac))) (a8 (aj (ag hu) (am 1) ae (fun _ _=>rfl)) ac)))) ae (aD _)) (af (bL (ar ML (hr.mono (by lia)) rfl En.PM En.PL En.PK aF ux (a8 (am 0) (a8 (aj (ag hu) (am 1) ae (fun _ _=>rfl)) (a8 (aN aX (am 2) (ba (a8 (am 3) ac))) ac)))))
   (ah (pQ (i:=3) OI.nd rfl (Or.inl rfl) ae lO))))))
theorem il(En:En K mg ad)(MN:O3 P w K mg base ad)(Nh:O2 P w K mg base ad)(MS:O6 P w K mg base ad):∀n:Nat,FnOk P w K mg base (bM P w) (2+n) ad.MU ad.MW ["walk","rows","place"] (ay K 3 (Mr ad n))/\FnOk P w K mg base (bM P w) (2+n) ad.MX ad.Ni ["walk","row","place"] (ay K 3 (Ms ad n))/\FnOk P w K mg base (bM P w) (2+n) ad.MY ad.Nj ["walk","row","place"] (ay K 3 (Mu ad n))/\FnOk P w K mg base (bM P w) (2+n) ad.MZ ad.Nk ["walk","row","place"] (ay K 3 (Mv ad n))
 |0=>⟨gc,gc,gc,gc⟩
 |n+1=>by
  obtain ⟨ML,M8,M9,Na⟩:=il En MN Nh MS n;exact ⟨nP En MN Nh MS n ML M8 M9 Na,pT En MN Nh MS n ML M8 M9 Na,ua En MN Nh MS n ML M8 M9 Na,mv En MN Nh MS n ML M8 M9 Na⟩
theorem Ec(En:En K mg ad)(Tx:O1 P w K mg base ad)(ML:FnOk P w K mg base (bM P w) 26 ad.MU ad.MW ["walk","rows","place"] (ay K 3 (Mr ad 24))):O7 P w K mg base ad:=by
 refine dg (k:=26) (T:=pq ad) En.Rg P6 fun cdv A outer s H E B EE hr ux=>?_;have hU:=hr.units;have hu:=bi hr;unfold pq
 exact (af (ax (i:=3) P6.nd rfl (Or.inr rfl) (rC En.Nt Tx (hr.mono (by decide)) rfl En.mC_Walk En.b_q7 aF ux (a8 (am 0) (a8 (am 1) (a8 (am 2) ac)))))
  (af (qY (C:=ad.C_Dry) rfl rfl ML (hr.mono (by decide)) rfl En.PM En.PL En.PK (a8 (am 3) (a8 (aj (ag hu) (am 0) ae (fun _ _=>rfl)) (a8 (ba ac) ac))) En.OF rfl En.mC_Dry (fun ea=>(ah (aC (ba (a8 (bX En.MF En.ME (am 3)) (a8 fk ac)))))))
  (ah (aC (ba (a8 (bX En.MF En.ME (am 3)) (a8 (aI aQ rfl En.z_tuple aW (a8 (aq (cv (ls:=["name"]) (fs:=["walk"]) (js:=[3]) rfl (cD (cs:=[s.heap.objs.size+1]) rfl (by decide +kernel) (by decide +kernel) rfl rfl (eF rfl jy) (.cons rfl (.inl rfl) (.inl rfl) .nil)) (fi (aj (ag hu) (am 0) ae (fun _ _=>rfl))) (fun C' s₀ H₀ fp pl'=>⟨(aS (i:=0) (show Ih [("name":Str),("walk":Str)] from (by decide +kernel)) rfl (Or.inl rfl)),di,(aj (ag hu) (bX En.MF En.Mz (am 1)) (am 0) (fun _ _=>rfl))⟩))) ac)) ac)))))))
theorem CC(En:En K mg ad)(QC:O7 P w K mg base ad):O8 P w K mg base ad:=by
 refine dg (k:=27) (T:=o8 ad) En.Rk P7 fun cdv A outer s H E B EE hr ux=>?_;have hU:=hr.units;have hu:=bi hr;unfold o8
 exact (af (ax (i:=3) P7.nd rfl (Or.inl rfl) (aj (ag hu) (Au (ar QC (hr.mono (by decide)) rfl En.Rj En.Ri En.Rh aF ux (a8 (am 0) (a8 (am 1) (a8 (am 2) ac))))) ae (fun _ _=>rfl)))
  (af (b0 (aH mw (am 3) fk (aD _)) (ah (aC fk)) aT)
  (ah (aC (aj (ag hu) (am 3) (Bn Ju KP jE (aj (ag hu) (am 0) ae (fun _ _=>rfl)) (a8 (aj (ag hu) (am 0) ae (fun _ _=>rfl)) ac)) (fun _ _=>rfl))))))
theorem BY(En:En K mg ad)  : O9 P w K mg base ad:=by
 refine dg (k:=0) (T:=oU ad) En.RN Dp fun cdv A outer s H E B EE hr ux=>?_;have hU:=hr.units;have hu:=bi hr;unfold oU;exact (ah (aC (aN aX (aq (aI cy rfl En.z_list bt_list' (a8 (aj (ag hu) (am 0) ae (fun _ _=>rfl)) ac))) (aq (f_ rfl rfl En.z_range rfl En.z_list (a8 (aj (ag hu) (am 0) ae (fun _ _=>rfl)) ac))))))
theorem Ev(En:En K mg ad)  : O10 P w K mg base ad:=by
 refine dg (k:=0) (T:=kM ad) En.RS Ez fun cdv A outer s H E B EE hr ux=>?_;have hU:=hr.units;have hu:=bi hr;unfold kM
 exact (af (b0 (cb (aJ cF rfl En.z_isinstance cc (a8 (am 2) (a8 (pF rfl En.z_str y_) ac)))) (ah (aC (aj (ag hu) (aj (ag hu) (am 1) ae (fun _ _=>rfl)) (Bn Ju KP jE (aj (ag hu) (am 0) ae (fun _ _=>rfl)) (a8 (am 2) ac)) (fun _ _=>rfl)))) aT)
  (ah (aC (aj (ag hu) (aj (ag hu) (am 1) ae (fun _ _=>rfl)) (am 2) (fun _ _=>rfl)))))
theorem Ei(En:En K mg ad)(QD:O9 P w K mg base ad)(Nz:O10 P w K mg base ad):O11 P w K mg base ad:=by
 refine dg (k:=1) (T:=oM ad) En.RT Dn fun cdv A outer s H E B EE hr ux=>?_;have hU:=hr.units;have hu:=bi hr;unfold oM;exact (ah (aC (cv (ls:=["thing"]) (fs:=["plan","other","one"]) (js:=[0,2,1]) rfl (cD (cs:=[s.heap.objs.size+1,s.heap.objs.size+3,s.heap.objs.size+2]) rfl (by decide +kernel) (by decide +kernel) rfl rfl (eF rfl (eF rfl (eF rfl jy))) (.cons rfl (.inl rfl) (.inl rfl) (.cons rfl (.inl rfl) (.inl rfl) (.cons rfl (.inl rfl) (.inl rfl) .nil)))) (fi (aq (ar QD (hr.mono (by decide)) rfl En.RQ En.RP En.RO aF ux (a8 (am 0) ac)))) (fun C' s₀ H₀ fp pl'=>⟨(aS (i:=0) (show Ih [("thing":Str),("plan":Str),("other":Str),("one":Str)] from (by decide +kernel)) rfl (Or.inl rfl)),(my (aH (d9 hU) (aq (ar Nz (hr.mono (by decide)) rfl En.PR En.PQ En.PN fB BA (a8 (am 1) (a8 (am 3) (a8 (am 0) ac))))) (aq (ar Nz (hr.mono (by decide)) rfl En.PR En.PQ En.PN fB BA (a8 (am 1) (a8 (am 2) (a8 (am 0) ac))))) (aD _))),(am 0)⟩))))
theorem Ee(En:En K mg ad)(NA:O8 P w K mg base ad):O12 P w K mg base ad:=by
 refine dg (k:=28) (T:=o7 ad) En.RX OJ fun cdv A outer s H E B EE hr ux=>?_;have hU:=hr.units;have hu:=bi hr;unfold o7
 exact (af (ax (i:=1) OJ.nd rfl (Or.inl rfl) (aq (ar NA (hr.mono (by decide)) rfl En.PJ En.PH En.PF aF ux (a8 (aj (ag hu) (am 0) ae (fun _ _=>rfl)) (a8 (aj (ag hu) (am 0) ae (fun _ _=>rfl)) (a8 (aj (ag hu) (am 0) ae (fun _ _=>rfl)) ac))))))
  (af (ax (i:=2) OJ.nd rfl (Or.inl rfl) (aq (ar NA (hr.mono (by decide)) rfl En.PJ En.PH En.PF aF ux (a8 (aj (ag hu) (am 0) ae (fun _ _=>rfl)) (a8 (aj (ag hu) (am 0) ae (fun _ _=>rfl)) (a8 (aj (ag hu) (am 0) ae (fun _ _=>rfl)) ac))))))
  (af (b0 (dL (fW (aH mw (am 1) fk (aD _)) (g9 (aH mw (am 2) fk (aD _))))) (ah (jt En.MV En.mC_NoCase ux rfl)) aT)
  (af (b0 (aH (bj hU) (am 1) (am 2) (aD _)) (ah (jt En.MV En.mC_NoCase ux rfl)) aT)
  (ah (aC (ba (a8 (am 1) (a8 (am 2) ac)))))))))
theorem D9(En:En K mg ad)(QE:O11 P w K mg base ad):O13 P w K mg base ad:=by
 refine dg (k:=2) (T:=pi ad) En.R1 CO fun cdv A outer s H E B EE hr ux=>?_;have hU:=hr.units;have hu:=bi hr;unfold pi;exact (ah (aC (ar QE (hr.mono (by decide)) rfl En.RW En.RV En.RU aF ux (a8 (aj (ag hu) (am 0) ae (fun _ _=>rfl)) (a8 (aj (ag hu) (am 0) ae (fun _ _=>rfl)) (a8 (aj (ag hu) (am 0) ae (fun _ _=>rfl)) ac))))))
theorem ES(En:En K mg ad)(Nz:O10 P w K mg base ad):O14 P w K mg base ad:=by
 refine dg (k:=1) (T:=xh ad) En.F_q8 Fc fun cdv A outer s H E B EE hr ux=>?_;have hU:=hr.units;have hu:=bi hr;unfold xh;exact (ah (aC (ar Nz (hr.mono (by decide)) rfl En.PR En.PQ En.PN aF ux (a8 (aj (ag hu) (am 0) ae (fun _ _=>rfl)) (a8 (fz (aH (qA hU) (am 2) (am 1) (by rfl)) (aj (ag hu) (am 0) ae (fun _ _=>rfl)) (aj (ag hu) (am 0) ae (fun _ _=>rfl))) (a8 (am 2) ac))))))
theorem BM(En:En K mg ad)(Q7:O14 P w K mg base ad):O15 P w K mg base ad:=by
 refine dg (k:=2) (T:=o_ ad) En.R6 OK fun cdv A outer s H E B EE hr ux=>?_;have hU:=hr.units;have hu:=bi hr;unfold o_
 exact (af (ax (i:=2) OK.nd rfl (Or.inl rfl) (aj (ag hu) (aj (ag hu) (am 0) ae (fun _ _=>rfl)) ae (fun _ _=>rfl)))
  (af (ax (i:=3) OK.nd rfl (Or.inl rfl) (aq (f_ rfl rfl En.z_range rfl En.z_list (a8 (aj (ag hu) (aj (ag hu) (am 0) ae (fun _ _=>rfl)) ae (fun _ _=>rfl)) ac))))
  (ah (aC (ba (a8 (aI aQ rfl En.z_tuple aW (a8 (aq (cv (ls:=["name"]) (fs:=["mix","case"]) (js:=[1,0]) rfl (cD (cs:=[s.heap.objs.size+2,s.heap.objs.size+1]) rfl (by decide +kernel) (by decide +kernel) rfl rfl (eF rfl (eF rfl jy)) (.cons rfl (.inl rfl) (.inl rfl) (.cons rfl (.inl rfl) (.inl rfl) .nil))) (fi (am 2)) (fun C' s₀ H₀ fp pl'=>⟨(aS (i:=0) (show Ih [("name":Str),("mix":Str),("case":Str)] from (by decide +kernel)) rfl (Or.inl rfl)),di,(aq (ar Q7 (hr.mono (by decide)) rfl En.Tv En.Tu En.Tt fB BA (a8 (am 2) (a8 (am 1) (a8 (am 0) ac)))))⟩))) ac)) (a8 (aI aQ rfl En.z_tuple aW (a8 (aq (cv (ls:=["piece"]) (fs:=["mix","case"]) (js:=[1,0]) rfl (cD (cs:=[s.heap.objs.size+2,s.heap.objs.size+1]) rfl (by decide +kernel) (by decide +kernel) rfl rfl (eF rfl (eF rfl jy)) (.cons rfl (.inl rfl) (.inl rfl) (.cons rfl (.inl rfl) (.inl rfl) .nil))) (fi (am 3)) (fun C' s₀ H₀ fp pl'=>⟨(aS (i:=0) (show Ih [("piece":Str),("mix":Str),("case":Str)] from (by decide +kernel)) rfl (Or.inl rfl)),di,(aq (ar Q7 (hr.mono (by decide)) rfl En.Tv En.Tu En.Tt fB BA (a8 (am 2) (a8 (am 1) (a8 (am 0) ac)))))⟩))) ac)) ac)))))))
theorem Di(En:En K mg ad)  : O16 P w K mg base ad:=by
 refine dg (k:=0) (T:=kP ad) En.Sa BW fun cdv A outer s H E B EE hr ux=>?_;have hU:=hr.units;have hu:=bi hr;unfold kP
 exact (af (b0 (aH (bj hU) (am 1) (aj (ag hu) (am 0) ae (fun _ _=>rfl)) (aD _)) (ah (aC av)) aT)
  (af (b0 (aH (bj hU) (am 1) (aj (ag hu) (am 0) ae (fun _ _=>rfl)) (aD _)) (ah (aC av)) aT)
  (ah (aC av))))
theorem Fr(En:En K mg ad)(QF:O12 P w K mg base ad):O17 P w K mg base ad:=by
 refine dg (k:=29) (T:=ve ad) En.F_q2 Gd fun cdv A outer s H E B EE hr ux=>?_;have hU:=hr.units;have hu:=bi hr;unfold ve
 exact (af (ff En.Mx En.MA (am 0) (am 1))
  (af (ff En.Mx En.MG (am 0) (aq (ar QF (hr.mono (by decide)) rfl En.R0 En.RZ En.RY aF ux (a8 (am 1) ac))))
  (ah (ff En.Mx En.My (am 0) tG))))
theorem Ey(En:En K mg ad)(NA:O8 P w K mg base ad)(QG:O15 P w K mg base ad)(QH:O16 P w K mg base ad):O18 P w K mg base ad:=by
 refine dg (k:=28) (T:=nM ad) En.Sg DU fun cdv A outer s H E B EE hr ux=>?_;have hU:=hr.units;have hu:=bi hr;unfold nM
 exact (af (b0 (aH (kX hU) (aI aQ rfl En.z_tuple aW (a8 (am 1) ac)) (bX En.Mx En.My (am 0)) (by rfl)) (ah (bU (aq (ar QH (hr.mono (by decide)) rfl En.Sf En.Se En.Sb aF ux (a8 (bX En.Mx En.MG (am 0)) (a8 (aq (ar NA (hr.mono (by decide)) rfl En.PJ En.PH En.PF aF ux (a8 (aj (ag hu) (bX En.Mx En.MA (am 0)) ae (fun _ _=>rfl)) (a8 (aq (ar QG (hr.mono (by decide)) rfl En.R9 En.R8 En.R7 aF ux (a8 (bX En.Mx En.MA (am 0)) (a8 (am 1) ac)))) (a8 (aj (ag hu) (bX En.Mx En.MA (am 0)) ae (fun _ _=>rfl)) ac))))) ac)))) (cK hu (bX En.Mx En.My (am 0)) (aI aQ rfl En.z_tuple aW (a8 (am 1) ac))))) aT)
  (ah (aC (aj (ag hu) (bX En.Mx En.My (am 0)) (aI aQ rfl En.z_tuple aW (a8 (am 1) ac)) (fun _ _=>rfl)))))
theorem F0(En:En K mg ad)(NJ:O18 P w K mg base ad):O19 P w K mg base ad:=by
 refine dg (k:=29) (T:=xw ad) En.F_q0 EO fun cdv A outer s H E B EE hr ux=>?_;have hU:=hr.units;have hu:=bi hr;unfold xw;exact (ah (aC (eV (bj hU) (aq (dk (am 0) En.Mx En.OM NJ (hr.mono (by decide)) En.Qn aF ux (a8 (am 1) ac))) av (aD _))))
theorem Cj(En:En K mg ad)(ON:O19 P w K mg base ad):O20 P w K mg base ad:=by
 refine dg (k:=30) (T:=pA ad) En.Sl NO fun cdv A outer s H E B EE hr ux=>?_;have hU:=hr.units;have hu:=bi hr;unfold pA
 exact (af (gY Hj (aH c_ (aJ aR rfl En.z_len a_ (a8 (am 1) ac)) ae (aD _)) (af (ax (i:=2) NO.nd rfl (Or.inl rfl) (aN gF (aJ aR rfl En.z_len a_ (a8 (am 1) ac)) ae))
   (ah (b0 (cb (aq (dk (am 0) En.Mx En.PU ON (hr.mono (by decide)) En.Q6 aF ux (a8 (aq (bu (am 1) bG (bF (am 2)))) ac)))) (ah (ax (i:=1) NO.nd rfl (Or.inl rfl) (bu (am 1) bG (bF (am 2))))) (ah (b0 (cb (aq (dk (am 0) En.Mx En.PU ON (hr.mono (by decide)) En.Q6 aF ux (a8 (aq (bu (am 1) (bF (am 2)) bG)) ac)))) (ah (ax (i:=1) NO.nd rfl (Or.inl rfl) (bu (am 1) (bF (am 2)) bG))) (ah yg)))))))
  (ah (aC (am 1))))
theorem D3(En:En K mg ad)(ON:O19 P w K mg base ad):O21 P w K mg base ad:=by
 refine dg (k:=30) (T:=pb ad) En.Sq MP fun cdv A outer s H E B EE hr ux=>?_;have hU:=hr.units;have hu:=bi hr;unfold pb
 exact (af (ax (i:=2) MP.nd rfl (Or.inl rfl) ae)
  (af (ax (i:=3) MP.nd rfl (Or.inl rfl) ae)
  (af (gY Hj (aH gh (am 3) (aJ aR rfl En.z_len a_ (a8 (am 1) ac)) (aD _)) (af (ax (i:=2) MP.nd rfl (Or.inl rfl) (aN bI (am 2) (aJ aR rfl En.z_len a_ (a8 (am 1) ac))))
   (af (ax (i:=4) MP.nd rfl (Or.inl rfl) (aN aX (aq (bu (am 1) bG (bF (am 2)))) (aq (bu (am 1) (bF (aN aX (am 2) ae)) bG))))
   (ah (b0 (cb (aq (dk (am 0) En.Mx En.PU ON (hr.mono (by decide)) En.Q6 aF ux (a8 (am 4) ac)))) (af (ax (i:=1) MP.nd rfl (Or.inl rfl) (am 4))
    (ah (ax (i:=3) MP.nd rfl (Or.inl rfl) ae))) (af (pQ (i:=2) MP.nd rfl (Or.inl rfl) ae lO)
    (ah (pQ (i:=3) MP.nd rfl (Or.inl rfl) ae lO))))))))
  (ah (aC (am 1))))))
theorem Et(En:En K mg ad)(Tz:O17 P w K mg base ad)(NJ:O18 P w K mg base ad)(QI:O20 P w K mg base ad)(QJ:O21 P w K mg base ad)(QK:O13 P w K mg base ad):O22 P w K mg base ad:=by
 refine dg (k:=31) (T:=p8 ad) En.Sh NN fun cdv A outer s H E B EE hr ux=>?_;have hU:=hr.units;have hu:=bi hr;unfold p8
 exact (af (ax (i:=1) NN.nd rfl (Or.inl rfl) (rC En.MQ Tz (hr.mono (by decide)) rfl En.mC_Askings En.b_q2 aF ux (a8 (am 0) ac)))
  (af (ax (i:=2) NN.nd rfl (Or.inl rfl) (ar QK (hr.mono (by decide)) rfl En.R5 En.R4 En.R3 aF ux (a8 (am 0) ac)))
  (af (bL (dk (am 1) En.Mx En.OM NJ (hr.mono (by decide)) En.Qn aF ux (a8 (am 2) ac)))
  (af (ax (i:=3) NN.nd rfl (Or.inl rfl) (ar QJ (hr.mono (by decide)) rfl En.Su En.Ss En.Sr aF ux (a8 (am 1) (a8 (ar QI (hr.mono (by decide)) rfl En.So En.Sn En.Sm aF ux (a8 (am 1) (a8 (am 2) ac))) ac))))
  (ah (aC (ba (a8 (aq (cv (ls:=["mix","told"]) (fs:=[]) (js:=[]) rfl (yQ rfl (by decide +kernel) (by decide +kernel)) (xL (bX En.Mx En.My (am 1))) (fun C' s₀ H₀ fp pl'=>⟨(gf (n:=2) rfl (bf (aS (i:=0) (show Ih [("mix":Str),("told":Str)] from (by decide +kernel)) rfl (Or.inl rfl)) (bf (aS (i:=1) (show Ih [("mix":Str),("told":Str)] from (by decide +kernel)) rfl (Or.inl rfl)) cR))),di,(ba (a8 (aI cy rfl En.z_list bt_list' (a8 (am 0) ac)) (a8 (am 1) ac)))⟩))) (a8 (am 3) ac)))))))))
theorem Ef(En:En K mg ad)  : O23 P w K mg base ad:=by
 refine dg (k:=0) (T:=nu ad) En.Sv Ce fun cdv A outer s H E B EE hr ux=>?_;have hU:=hr.units;have hu:=bi hr;unfold nu;exact (ah (aC (bE (a8 (aI cy rfl En.z_list bt_list' (a8 (aq (bu (am 0) bG (bF ae))) ac)) (a8 ae (a8 ae ac))))))
theorem Eb(En:En K mg ad)  : u9 P w K mg base ad:=by
 refine dg (k:=0) (T:=oj ad) En.SA Nc fun cdv A outer s H E B EE hr ux=>?_;have hU:=hr.units;have hu:=bi hr;unfold oj
 exact (af (b0 (aH c_ (aj (ag hu) (am 0) ae (fun _ _=>rfl)) ae (aD _)) (af (ax (i:=2) Nc.nd rfl (Or.inl rfl) (aN bI (aj (ag hu) (am 0) ae (fun _ _=>rfl)) (am 1)))
   (af (bU (aN gF (aj (ag hu) (am 0) ae (fun _ _=>rfl)) (am 1)) (cK hu (am 0) ae))
   (ah (aC (am 2))))) aT)
  (af (ax (i:=3) Nc.nd rfl (Or.inl rfl) (aj (ag hu) (am 0) ae (fun _ _=>rfl)))
  (af (bU (aN aX (am 3) ae) (cK hu (am 0) ae))
  (af (ax (i:=4) Nc.nd rfl (Or.inl rfl) ae)
  (af (b0 (aH c_ (aJ aR rfl En.z_len a_ (a8 (aj (ag hu) (am 0) ae (fun _ _=>rfl)) ac)) ae (aD _)) (ah (ax (i:=4) Nc.nd rfl (Or.inl rfl) (aj (ag hu) (aj (ag hu) (am 0) ae (fun _ _=>rfl)) (aN bI (am 3) (aJ aR rfl En.z_len a_ (a8 (aj (ag hu) (am 0) ae (fun _ _=>rfl)) ac))) (fun _ _=>rfl)))) aT)
  (af (b0 (dL (dD (aH gh (am 3) (aJ aR rfl En.z_len a_ (a8 (aj (ag hu) (am 0) ae (fun _ _=>rfl)) ac)) (aD _)) (dS (aH wD (am 4) (aN zx ae ae) (aD _))))) (af (bU (aN gF (am 4) (am 1)) (cK hu (am 0) ae))
   (ah (aC (aN bI (am 4) (am 1))))) aT)
  (af (ax (i:=5) Nc.nd rfl (Or.inl rfl) (aN bI (aN ck (aN aX (aN bI (am 4) ae) ae) (aN aX (aN aX (aN ck (aN ck ae (am 3)) (am 3)) (aN ck ae (am 3))) ae)) ae))
  (af (ax (i:=5) Nc.nd rfl (Or.inl rfl) (aN bI (aN aX (aN aX (aN ck (am 5) (am 5)) (aN ck ae (am 3))) (aN bI (am 4) ae)) ae))
  (ah (aC (aN bI (aN gF (am 5) ae) (am 1))))))))))))
theorem Cq(En:En K mg ad)(Mq:u9 P w K mg base ad):O25 P w K mg base ad:=by
 refine dg (k:=1) (T:=ny ad) En.SD NP fun cdv A outer s H E B EE hr ux=>?_;have hU:=hr.units;have hu:=bi hr;unfold ny;refine af ?_ ?_
 ·refine ax (i:=1) (hs:=?_) (hf:=?_) ?_ ?_ ?_ ?_
  ·exact NP.nd
  ·rfl
  ·exact Or.inl rfl
  ·refine aj ?_ ?_ ?_ ?_
   ·exact ag hu
   ·refine aq ?_
    refine bE ?_;refine fR ?_ ?_ ?_
    ·exact (aq (bE (a8 av (a8 av (a8 av (a8 av (a8 av ac)))))))
    ·refine fR ?_ ?_ ?_
     ·exact (aq (bE (a8 av (a8 av (a8 av (a8 av (a8 av ac)))))))
     ·refine fR ?_ ?_ ?_
      ·exact (aq (bE (a8 av (a8 av (a8 av (a8 av (a8 av ac)))))))
      ·refine fR ?_ ?_ ?_
       ·exact (aq (bE (a8 av (a8 av (a8 av (a8 av (a8 av ac)))))))
       ·exact ac
       ·rfl
      ·rfl
     ·rfl
    ·rfl
   ·exact (aq (ar Mq (hr.mono (by decide)) rfl En.MD En.MC En.MB aF ux (a8 (am 0) (a8 ae ac))))
   ·exact fun _ _=>rfl
  ·rfl
  ·exact .inl rfl
 refine af ?_ ?_
 ·exact (ax (i:=2) NP.nd rfl (Or.inl rfl) (aq (ar Mq (hr.mono (by decide)) rfl En.MD En.MC En.MB aF ux (a8 (am 0) (a8 ae ac)))))
 refine af ?_ ?_
 ·exact (ax (i:=1) NP.nd rfl (Or.inl rfl) (aq (aN aX (aq (bu (am 1) (bF (am 2)) bG)) (aq (bu (am 1) bG (bF (am 2)))))))
 refine ah ?_;exact (aC (bu (am 1) bG (bF (aN aX ae (aq (ar Mq (hr.mono (by decide)) rfl En.MD En.MC En.MB aF ux (a8 (am 0) (a8 ae ac))))))))
theorem Er(En:En K mg ad)(Mq:u9 P w K mg base ad):O26 P w K mg base ad:=by
 refine dg (k:=1) (T:=oQ ad) En.SH Nl fun cdv A outer s H E B EE hr ux=>?_;have hU:=hr.units;have hu:=bi hr;unfold oQ
 exact (af (ax (i:=2) Nl.nd rfl (Or.inr rfl) (aj (ag hu) (am 1) av (fun _ _=>rfl)))
  (af (bU (aq (cv (ls:=["_law_k"]) (fs:=["_law_tape_here","_law_some"]) (js:=[0,2]) rfl (cD (cs:=[s.heap.objs.size+1,s.heap.objs.size+2]) rfl (by decide +kernel) (by decide +kernel) rfl rfl (eF rfl (eF rfl jy)) (.cons rfl (.inl rfl) (.inl rfl) (.cons rfl (.inl rfl) (.inl rfl) .nil))) (bS rfl En.z_range (a8 ae ac)) (fun C' s₀ H₀ fp pl'=>⟨(aS (i:=0) (show Ih [("_law_k":Str),("_law_tape_here":Str),("_law_some":Str)] from (by decide +kernel)) rfl (Or.inl rfl)),di,(aj (ag hu) (am 2) (aq (ar Mq (hr.mono (by decide)) rfl En.MD En.MC En.MB fB BA (a8 (am 1) (a8 (aJ aR rfl En.z_len a_ (a8 (am 2) ac)) ac)))) (fun _ _=>rfl))⟩))) (qX (n:=3) rfl (bf (aS (i:=3) Nl.nd rfl (Or.inl rfl)) (bf (aS (i:=4) Nl.nd rfl (Or.inl rfl)) (bf (aS (i:=5) Nl.nd rfl (Or.inl rfl)) cR)))))
  (af (ax (i:=6) Nl.nd rfl (Or.inl rfl) (aq (ar Mq (hr.mono (by decide)) rfl En.MD En.MC En.MB aF ux (a8 (am 0) (a8 ae ac)))))
  (af (b0 (aH c_ (am 6) ae (aD _)) (ah (aC (ba (a8 (aj (ag hu) (aq (bE (a8 av (a8 av (a8 av (a8 av (a8 av ac))))))) (aN bI (am 6) ae) (fun _ _=>rfl)) (a8 (am 3) (a8 (am 4) (a8 (am 5) ac))))))) aT)
  (af (b0 (dL (dD (aH c_ (am 6) ae (aD _)) (dS (aH c_ (aj (ag hu) (am 1) av (fun _ _=>rfl)) ae (aD _))))) (af (b0 (aH (bj hU) (am 6) ae (aD _)) (ah (aC (ba (a8 av (a8 (am 3) (a8 (am 4) ac)))))) aT)
   (ah (aC (ba (a8 av (a8 (am 3) (a8 (ar Mq (hr.mono (by decide)) rfl En.MD En.MC En.MB aF ux (a8 (am 0) (a8 (aj (ag hu) (am 1) av (fun _ _=>rfl)) ac))) ac))))))) aT)
  (ah (aC (ba (a8 av (a8 (am 3) (a8 (ar Mq (hr.mono (by decide)) rfl En.MD En.MC En.MB aF ux (a8 (am 0) (a8 (aj (ag hu) (am 1) av (fun _ _=>rfl)) ac))) ac)))))))))))
theorem ko(En:En K mg ad)(Mq:u9 P w K mg base ad)(Nr:O26 P w K mg base ad)(n:Nat)(NK:FnOk P w K mg base (bM P w) (2+n) ad.Np ad.Nx ["_law_tape_here","_law_frame","_law_deep"] (ay K 3 (Mp ad n)))(NB:FnOk P w K mg base (bM P w) (2+n) ad.NR ad.Ol ["_law_tape_here","_law_frame","_law_many","_law_deep"] (ay K 4 (Mw ad n))):FnOk P w K mg base (bM P w) (2+n+1) ad.Np ad.Nx ["_law_tape_here","_law_frame","_law_deep"] (ay K 3 (Mp ad (n+1))):=by
 refine dg (k:=2+n) (T:=oW ad (Mp ad n) (Mw ad n)) En.SM Nd fun cdv A outer s H E B EE hr ux=>?_;have hU:=hr.units;have hu:=bi hr;unfold oW
 exact (af (ax (i:=3) Nd.nd rfl (Or.inr rfl) (aj (ag hu) (am 1) av (fun _ _=>rfl)))
  (af (bU (aq (cv (ls:=["_law_k"]) (fs:=["_law_tape_here","_law_some"]) (js:=[0,3]) rfl (cD (cs:=[s.heap.objs.size+1,s.heap.objs.size+2]) rfl (by decide +kernel) (by decide +kernel) rfl rfl (eF rfl (eF rfl jy)) (.cons rfl (.inl rfl) (.inl rfl) (.cons rfl (.inl rfl) (.inl rfl) .nil))) (bS rfl En.z_range (a8 ae ac)) (fun C' s₀ H₀ fp pl'=>⟨(aS (i:=0) (show Ih [("_law_k":Str),("_law_tape_here":Str),("_law_some":Str)] from (by decide +kernel)) rfl (Or.inl rfl)),di,(aj (ag hu) (am 2) (aq (ar Mq (hr.mono (by lia)) rfl En.MD En.MC En.MB fB BA (a8 (am 1) (a8 (aJ aR rfl En.z_len a_ (a8 (am 2) ac)) ac)))) (fun _ _=>rfl))⟩))) (qX (n:=2) rfl (bf (aS (i:=4) Nd.nd rfl (Or.inl rfl)) (bf (aS (i:=5) Nd.nd rfl (Or.inl rfl)) cR))))
  (af (ax (i:=6) Nd.nd rfl (Or.inl rfl) (aq (ar Mq (hr.mono (by lia)) rfl En.MD En.MC En.MB aF ux (a8 (am 0) (a8 ae ac)))))
  (af (ax (i:=7) Nd.nd rfl (Or.inl rfl) (aq (ar NB (hr.mono (by lia)) rfl En.Qq En.Qp En.Qo aF ux (a8 (am 0) (a8 (am 1) (a8 (aq (ar Mq (hr.mono (by lia)) rfl En.MD En.MC En.MB aF ux (a8 (am 0) (a8 ae ac)))) (a8 (aN dh (am 2) ae) ac)))))))
  (af (b0 (aH (bj hU) (am 6) ae (aD _)) (ah (aC (bE (a8 (ba (a8 av (a8 (am 4) (a8 (aI aQ rfl En.z_tuple aW (a8 (am 7) ac)) ac)))) ac)))) aT)
  (af (b0 (dL (fW (aH (bj hU) (am 6) ae (aD _)) (g9 (aH (bj hU) (am 4) (am 5) (aD _))))) (ah (aC (bE (a8 (ba (a8 av (a8 (am 4) (a8 (aI aQ rfl En.z_tuple aW (a8 (aq (aN aX (am 7) (aq (bE (a8 (ba (a8 av (a8 (am 4) (a8 ae ac)))) ac))))) ac)) ac)))) ac)))) aT)
  (af (ax (i:=8) Nd.nd rfl (Or.inl rfl) (aq (aN zY (bE (a8 (ba (a8 av (a8 (am 4) (a8 (ar Mq (hr.mono (by lia)) rfl En.MD En.MC En.MB aF ux (a8 (am 0) (a8 (aJ (li rfl) rfl En.z_min sV (a8 ae (a8 (aj (ag hu) (am 1) av (fun _ _=>rfl)) ac))) ac))) ac)))) ac)) (aI dq rfl En.z_int fE (a8 (eV (bj hU) (am 6) ae (aD _)) ac)))))
  (ah (aC (aN aX (am 8) (aq (bE (a8 (ba (a8 av (a8 (am 5) (a8 (aN dh (aj (ag hu) (am 1) av (fun _ _=>rfl)) ae) ac)))) (a8 (ba (a8 av (a8 (am 4) (a8 (aI aQ rfl En.z_tuple aW (a8 (aq (aN aX (am 7) (aq (bE (a8 (ba (a8 av (a8 (am 4) (a8 (am 4) (a8 (am 5) ac))))) ac))))) ac)) ac)))) ac))))))))))))))
theorem gi(En:En K mg ad)(Mq:u9 P w K mg base ad)(Nr:O26 P w K mg base ad)(n:Nat)(NK:FnOk P w K mg base (bM P w) (2+n) ad.Np ad.Nx ["_law_tape_here","_law_frame","_law_deep"] (ay K 3 (Mp ad n)))(NB:FnOk P w K mg base (bM P w) (2+n) ad.NR ad.Ol ["_law_tape_here","_law_frame","_law_many","_law_deep"] (ay K 4 (Mw ad n))):FnOk P w K mg base (bM P w) (2+n+1) ad.NR ad.Ol ["_law_tape_here","_law_frame","_law_many","_law_deep"] (ay K 4 (Mw ad (n+1))):=by
 refine dg (k:=2+n) (T:=vT ad (Mp ad n) (Mw ad n)) En.F_q4 Nm fun cdv A outer s H E B EE hr ux=>?_;have hU:=hr.units;have hu:=bi hr;unfold vT
 exact (af (ax (i:=4) Nm.nd rfl (Or.inl rfl) (bE ac))
  (af (dE Hj rfl (bS rfl En.z_range (a8 (am 2) ac)) (aS (i:=5) Nm.nd rfl (Or.inl rfl)) (af (bU (aN dh (aj (ag hu) (am 1) av (fun _ _=>rfl)) ae) (cK hu (am 1) av))
   (af (ax (i:=6) Nm.nd rfl (Or.inl rfl) (aq (ar Mq (hr.mono (by lia)) rfl En.MD En.MC En.MB aF ux (a8 (am 0) (a8 ae ac)))))
   (ah (b0 (dL (dD (aH c_ (am 3) ae (aD _)) (dD (aH c_ (aj (ag hu) (am 1) av (fun _ _=>rfl)) ae (aD _)) (dS (aH (bj hU) (am 6) ae (aD _)))))) (ah (bL (io (Or.inl rfl) Hx LO PySem.F.type_list_extend pP (am 4) (a8 (aq (ar NK (hr.mono (by lia)) rfl En.SQ En.SO En.SN aF ux (a8 (am 0) (a8 (am 1) (a8 (am 3) ac))))) ac)))) (ah (b0 (dL (dD (aH c_ (am 3) ae (aD _)) (dD (aH c_ (aj (ag hu) (am 1) av (fun _ _=>rfl)) ae (aD _)) (dS (aH gh (am 6) ae (aD _)))))) (af (ax (i:=7) Nm.nd rfl (Or.inl rfl) (aj (ag hu) (am 1) av (fun _ _=>rfl)))
     (af (ax (i:=8) Nm.nd rfl (Or.inl rfl) (aj (ag hu) (am 7) (aq (ar Mq (hr.mono (by lia)) rfl En.MD En.MC En.MB aF ux (a8 (am 0) (a8 (aJ aR rfl En.z_len a_ (a8 (am 7) ac)) ac)))) (fun _ _=>rfl)))
     (af (ax (i:=9) Nm.nd rfl (Or.inl rfl) (aq (ar NB (hr.mono (by lia)) rfl En.Qq En.Qp En.Qo aF ux (a8 (am 0) (a8 (am 1) (a8 (aq (ar Mq (hr.mono (by lia)) rfl En.MD En.MC En.MB aF ux (a8 (am 0) (a8 ae ac)))) (a8 (aN dh (am 3) ae) ac)))))))
     (af (ax (i:=10) Nm.nd rfl (Or.inl rfl) (aq (ar NB (hr.mono (by lia)) rfl En.Qq En.Qp En.Qo aF ux (a8 (am 0) (a8 (am 1) (a8 (aq (ar Mq (hr.mono (by lia)) rfl En.MD En.MC En.MB aF ux (a8 (am 0) (a8 ae ac)))) (a8 (aN dh (am 3) ae) ac)))))))
     (ah (bL (io (Or.inl rfl) Hx HB HI cw (am 4) (a8 (ba (a8 av (a8 (am 8) (a8 (aI aQ rfl En.z_tuple aW (a8 (am 9) ac)) (a8 (aI aQ rfl En.z_tuple aW (a8 (am 10) ac)) ac))))) ac)))))))) (ah (bL (io (Or.inl rfl) Hx HB HI cw (am 4) (a8 (aq (ar Nr (hr.mono (by lia)) rfl En.SK En.SJ En.SI aF ux (a8 (am 0) (a8 (am 1) ac)))) ac)))))))))))
  (ah (aC (am 4)))))
theorem fV(En:En K mg ad)(Mq:u9 P w K mg base ad)(Nr:O26 P w K mg base ad):∀n:Nat,FnOk P w K mg base (bM P w) (2+n) ad.Np ad.Nx ["_law_tape_here","_law_frame","_law_deep"] (ay K 3 (Mp ad n))/\FnOk P w K mg base (bM P w) (2+n) ad.NR ad.Ol ["_law_tape_here","_law_frame","_law_many","_law_deep"] (ay K 4 (Mw ad n))
 |0=>⟨gc,gc⟩
 |n+1=>by
  obtain ⟨NK,NB⟩:=fV En Mq Nr n;exact ⟨ko En Mq Nr n NK NB,gi En Mq Nr n NK NB⟩
theorem Cp(En:En K mg ad)(Mq:u9 P w K mg base ad)(QL:O25 P w K mg base ad)(NB:FnOk P w K mg base (bM P w) 26 ad.NR ad.Ol ["_law_tape_here","_law_frame","_law_many","_law_deep"] (ay K 4 (Mw ad 24))):O27 P w K mg base ad:=by
 refine dg (k:=26) (T:=oJ ad) En.SS Nu fun cdv A outer s H E B EE hr ux=>?_;have hU:=hr.units;have hu:=bi hr;unfold oJ;refine af ?_ ?_
 ·refine ax (i:=2) (hs:=?_) (hf:=?_) ?_ ?_ ?_ ?_
  ·exact Nu.nd
  ·rfl
  ·exact Or.inl rfl
  ·refine aj ?_ ?_ ?_ ?_
   ·exact ag hu
   ·refine aq ?_
    refine bE ?_;refine fR ?_ ?_ ?_
    ·exact ae
    ·refine fR ?_ ?_ ?_
     ·exact ae
     ·refine fR ?_ ?_ ?_
      ·exact ae
      ·refine fR ?_ ?_ ?_
       ·exact ae
       ·refine fR ?_ ?_ ?_
        ·exact ae
        ·refine fR ?_ ?_ ?_
         ·exact ae
         ·refine fR ?_ ?_ ?_
          ·exact ae
          ·refine fR ?_ ?_ ?_
           ·exact ae
           ·exact ac
           ·rfl
          ·rfl
         ·rfl
        ·rfl
       ·rfl
      ·rfl
     ·rfl
    ·rfl
   ·exact (aq (ar Mq (hr.mono (by decide)) rfl En.MD En.MC En.MB aF ux (a8 (am 0) (a8 ae ac))))
   ·exact fun _ _=>rfl
  ·rfl
  ·exact .inl rfl
 refine af ?_ ?_
 ·exact (ax (i:=3) Nu.nd rfl (Or.inl rfl) (lP (tab:=[("wheel",(aa 2)),("names",(aB (aA (nz ad) EE 1 (a9 (aa 0) dNil)))),("left",(au fA (dC (.int 4)) (aa 1)))]) (bY (am 2) (bY (aq (ar QL (hr.mono (by decide)) rfl En.SG En.SF En.SE aF ux (a8 (am 0) ac))) (bY (aN ck ae (am 1)) mW))) rfl rfl (by simp) (by simp)))
 refine af ?_ ?_
 ·exact (bU (aj (ag hu) (aq (bE (a8 ae (a8 ae (a8 ae (a8 ae (a8 ae (a8 ae ac)))))))) (aq (ar Mq (hr.mono (by decide)) rfl En.MD En.MC En.MB aF ux (a8 (am 0) (a8 ae ac)))) (fun _ _=>rfl)) (cK hu (am 3) av))
 refine af ?_ ?_
 ·exact (ax (i:=4) Nu.nd rfl (Or.inl rfl) (aq (ar NB (hr.mono (by decide)) rfl En.Qq En.Qp En.Qo aF ux (a8 (am 0) (a8 (am 3) (a8 (aq (ar Mq (hr.mono (by decide)) rfl En.MD En.MC En.MB aF ux (a8 (am 0) (a8 (aN aX (am 1) ae) ac)))) (a8 ae ac)))))))
 refine af ?_ ?_
 ·exact (ax (i:=5) Nu.nd rfl (Or.inl rfl) (aj (ag hu) (aj (ag hu) (am 3) av (fun _ _=>rfl)) (aq (ar Mq (hr.mono (by decide)) rfl En.MD En.MC En.MB aF ux (a8 (am 0) (a8 (aJ aR rfl En.z_len a_ (a8 (aj (ag hu) (am 3) av (fun _ _=>rfl)) ac)) ac)))) (fun _ _=>rfl)))
 refine ah ?_;exact (aC (ba (a8 (am 2) (a8 (aI aQ rfl En.z_tuple aW (a8 (aj (ag hu) (am 3) av (fun _ _=>rfl)) ac)) (a8 (aj (ag hu) (am 3) av (fun _ _=>rfl)) (a8 (aI aQ rfl En.z_tuple aW (a8 (am 4) ac)) (a8 (am 5) ac)))))))
theorem BT(En:En K mg ad)(Mq:u9 P w K mg base ad):O28 P w K mg base ad:=by
 refine dg (k:=1) (T:=o6 ad) En.SX Nv fun cdv A outer s H E B EE hr ux=>?_;have hU:=hr.units;have hu:=bi hr;unfold o6
 exact (af (ax (i:=2) Nv.nd rfl (Or.inl rfl) (bE ac))
  (af (dE Hj rfl (bS rfl En.z_range (a8 (aq (aN aX (aJ aR rfl En.z_len a_ (a8 (aj (ag hu) (am 1) ae (fun _ _=>rfl)) ac)) (aj (ag hu) (am 1) ae (fun _ _=>rfl)))) ac)) (aS (i:=3) Nv.nd rfl (Or.inl rfl)) (af (ax (i:=4) Nv.nd rfl (Or.inl rfl) (aq (ar Mq (hr.mono (by decide)) rfl En.MD En.MC En.MB aF ux (a8 (am 0) (a8 (aj (ag hu) (am 1) ae (fun _ _=>rfl)) ac)))))
   (ah (bL (io (Or.inl rfl) Hx HB HI cw (am 2) (a8 (aj (ag hu) (aq (bE (a8 (am 4) (a8 ae (a8 (aN bI (aN bI (am 4) ae) (aj (ag hu) (am 1) ae (fun _ _=>rfl))) ac))))) (aq (ar Mq (hr.mono (by decide)) rfl En.MD En.MC En.MB aF ux (a8 (am 0) (a8 ae ac)))) (fun _ _=>rfl)) ac))))))
  (af (ax (i:=5) Nv.nd rfl (Or.inl rfl) (aJ aR rfl En.z_len a_ (a8 (aj (ag hu) (am 1) ae (fun _ _=>rfl)) ac)))
  (ah (aC (ba (a8 (aI aQ rfl En.z_tuple aW (a8 (aq (bu (am 2) bG (bF (am 5)))) ac)) (a8 (aI aQ rfl En.z_tuple aW (a8 (aq (bu (am 2) (bF (am 5)) bG)) ac)) ac))))))))
theorem DZ(En:En K mg ad)  : O29 P w K mg base ad:=by
 refine dg (k:=0) (T:=iC ad) En.SY Ng fun cdv A outer s H E B EE hr ux=>?_;have hU:=hr.units;have hu:=bi hr;unfold iC
 exact (af (ax (i:=2) Ng.nd rfl (Or.inl rfl) (aj (ag hu) (am 0) av (fun _ _=>rfl)))
  (ah (b0 (aH (bj hU) (aj (ag hu) (am 1) ae (fun _ _=>rfl)) av (aD _)) (ah (bU (aj (ag hu) (am 1) ae (fun _ _=>rfl)) (cK hu (am 2) (aj (ag hu) (am 1) ae (fun _ _=>rfl))))) (ah (b0 (dL (fW (aH (bj hU) (aj (ag hu) (am 1) ae (fun _ _=>rfl)) av (aD _)) (g9 (aH (bj hU) (aj (ag hu) (am 1) ae (fun _ _=>rfl)) av (aD _))))) (af (ax (i:=3) Ng.nd rfl (Or.inl rfl) (aj (ag hu) (am 1) ae (fun _ _=>rfl)))
    (af (b0 (aH (bj hU) (aj (ag hu) (am 1) ae (fun _ _=>rfl)) av (aD _)) (ah (ax (i:=3) Ng.nd rfl (Or.inl rfl) (aN bI (aj (ag hu) (am 2) (aj (ag hu) (am 1) ae (fun _ _=>rfl)) (fun _ _=>rfl)) (aJ aR rfl En.z_len a_ (a8 (aj (ag hu) (am 0) av (fun _ _=>rfl)) ac))))) aT)
    (af (b0 (aH (kX hU) (am 3) (aj (ag hu) (am 0) av (fun _ _=>rfl)) (by rfl)) (ah (bL (io (Or.inl rfl) Hx HB HI cw (aj (ag hu) (am 0) av (fun _ _=>rfl)) (a8 (am 3) ac)))) aT)
    (ah (bU (aj (ag hu) (aj (ag hu) (am 0) av (fun _ _=>rfl)) (am 3) (fun _ _=>rfl)) (cK hu (am 2) (aj (ag hu) (am 1) ae (fun _ _=>rfl)))))))) (af (ax (i:=4) Ng.nd rfl (Or.inl rfl) (aj (ag hu) (am 2) (aj (ag hu) (am 1) ae (fun _ _=>rfl)) (fun _ _=>rfl)))
    (af (ax (i:=5) Ng.nd rfl (Or.inl rfl) (aj (ag hu) (am 2) (aj (ag hu) (am 1) ae (fun _ _=>rfl)) (fun _ _=>rfl)))
    (af (ax (i:=6) Ng.nd rfl (Or.inl rfl) (lP (tab:=[("sum",(au dP (aB (au bR (aa 4) (aa 5))) (au aO (aa 0) (dC (.str "wheel"))))),("less",(bD kx (a9 (au v0 (aa 4) (aa 5)) dNil))),("by",(au dP (au fA (aa 4) (aa 5)) (au aO (aa 0) (dC (.str "wheel"))))),("same",(bD kx (a9 (au eJ (aa 4) (aa 5)) dNil)))]) (bY (aN bI (aq (aN aX (am 4) (am 5))) (aj (ag hu) (am 0) av (fun _ _=>rfl))) (bY (aI dq rfl En.z_int fE (a8 (eV gh (am 4) (am 5) (aD _)) ac)) (bY (aN bI (aN ck (am 4) (am 5)) (aj (ag hu) (am 0) av (fun _ _=>rfl))) (bY (aI dq rfl En.z_int fE (a8 (eV (bj hU) (am 4) (am 5) (aD _)) ac)) mW)))) rfl rfl (by simp) (by simp)))
    (ah (bU (aj (ag hu) (am 6) (aj (ag hu) (am 1) ae (fun _ _=>rfl)) (fun _ _=>rfl)) (cK hu (am 2) (aj (ag hu) (am 1) ae (fun _ _=>rfl)))))))))))))
theorem oC(En:En K mg ad)(NL:O29 P w K mg base ad)(n:Nat)(Nb:FnOk P w K mg base (bM P w) (1+n) ad.Nq ad.Ny ["_law_here","_law_rows"] (ay K 2 (Mt ad n))):FnOk P w K mg base (bM P w) (1+n+1) ad.Nq ad.Ny ["_law_here","_law_rows"] (ay K 2 (Mt ad (n+1))):=by
 refine dg (k:=1+n) (T:=OE ad (Mt ad n)) En.S3 Nw fun cdv A outer s H E B EE hr ux=>?_;have hU:=hr.units;have hu:=bi hr;unfold OE
 exact (af (dE Hj rfl (fi (am 1)) (aS (i:=2) Nw.nd rfl (Or.inl rfl)) (af (ax (i:=3) Nw.nd rfl (Or.inl rfl) db)
   (af (gY Hj (cb (am 3)) (af (bU (aN dh (aj (ag hu) (am 0) av (fun _ _=>rfl)) ae) (cK hu (am 0) av))
    (af (b0 (aH gh (aj (ag hu) (am 0) av (fun _ _=>rfl)) ae (aD _)) (ah (aC db)) aT)
    (af (ax (i:=4) Nw.nd rfl (Or.inl rfl) (eV (d9 hU) (aj (ag hu) (aj (ag hu) (am 0) av (fun _ _=>rfl)) (aj (ag hu) (am 2) ae (fun _ _=>rfl)) (fun _ _=>rfl)) ae (aD _)))
    (af (ax (i:=3) Nw.nd rfl (Or.inl rfl) (BL (eV (bj hU) (aj (ag hu) (am 2) ae (fun _ _=>rfl)) av (aD _)) (Dj (am 4))))
    (af (b0 (dL (dD (aH (bj hU) (aj (ag hu) (am 2) ae (fun _ _=>rfl)) av (aD _)) (dS (d_ (cb (aq (ar Nb (hr.mono (by lia)) rfl En.NI En.NH En.NG aF ux (a8 (am 0) (a8 (aj (ag hu) (am 2) (aN dh ae (aI dq rfl En.z_int fE (a8 (am 4) ac))) (fun _ _=>rfl)) ac))))))))) (ah (aC db)) aT)
    (ah (b0 (dL (dD (cb (am 3)) (dS (d_ (cb (aq (ar Nb (hr.mono (by lia)) rfl En.NI En.NH En.NG aF ux (a8 (am 0) (a8 (aj (ag hu) (am 2) ae (fun _ _=>rfl)) ac))))))))) (ah (aC db)) aT))))))))
   (ah (b0 (dL (dD (aH (d9 hU) (aj (ag hu) (am 2) ae (fun _ _=>rfl)) av (aD _)) (dS (aH (d9 hU) (aj (ag hu) (am 2) ae (fun _ _=>rfl)) av (aD _))))) (ah (bL (ar NL (hr.mono (by lia)) rfl En.S2 En.S1 En.S0 aF ux (a8 (am 0) (a8 (am 2) ac))))) aT)))))
  (ah (aC db)))
theorem iy(En:En K mg ad)(NL:O29 P w K mg base ad):∀n:Nat,FnOk P w K mg base (bM P w) (1+n) ad.Nq ad.Ny ["_law_here","_law_rows"] (ay K 2 (Mt ad n))
 |0=>gc
 |n+1=>oC En NL n (iy En NL n)
theorem DV(En:En K mg ad)  : O30 P w K mg base ad:=by
 refine dg (k:=0) (T:=nY ad) En.S4 El fun cdv A outer s H E B EE hr ux=>?_;have hU:=hr.units;have hu:=bi hr;unfold nY;exact (ah (aC (lP (tab:=[("numbers",(gC (a9 (au aO (aa 0) (dC (.int 1))) (a9 (au aO (aa 1) (dC (.int 0))) dNil)))),("pieces",(au aO (aa 1) (dC (.int 1)))),("read",(ce dNil)),("wheel",(au aO (aa 0) (dC (.int 0)))),("left",(aa 2))]) (bY (jC rfl rfl En.z_zip rfl En.z_dict (a8 (aj (ag hu) (am 0) ae (fun _ _=>rfl)) (a8 (aj (ag hu) (am 1) ae (fun _ _=>rfl)) ac))) (bY (aj (ag hu) (am 1) ae (fun _ _=>rfl)) (bY (bE ac) (bY (aj (ag hu) (am 0) ae (fun _ _=>rfl)) (bY (am 2) mW))))) rfl rfl (by simp) (by simp))))
theorem BR(En:En K mg ad)(NC:O30 P w K mg base ad)(Nb:O31 P w K mg base ad):O32 P w K mg base ad:=by
 refine dg (k:=25) (T:=p7 ad) En.S5 Qb fun cdv A outer s H E B EE hr ux=>?_;have hU:=hr.units;have hu:=bi hr;unfold p7
 exact (af (ax (i:=3) Qb.nd rfl (Or.inl rfl) (ar NC (hr.mono (by decide)) rfl En.PY En.PX En.PV aF ux (a8 (am 0) (a8 (am 1) (a8 (am 2) ac)))))
  (af (b0 (d_ (cb (aq (ar Nb (hr.mono (by decide)) rfl En.NI En.NH En.NG aF ux (a8 (am 3) (a8 (aj (ag hu) (am 0) ae (fun _ _=>rfl)) ac)))))) (ah (aC fk)) aT)
  (ah (aC (aj (ag hu) (aj (ag hu) (am 3) av (fun _ _=>rfl)) (aj (ag hu) (am 0) ae (fun _ _=>rfl)) (fun _ _=>rfl))))))
theorem G7(En:En K mg ad)(Mq:u9 P w K mg base ad)(P2:O28 P w K mg base ad):O33 P w K mg base ad:=by
 refine dg (k:=2) (T:=ye ad) En.F_q3 ND fun cdv A outer s H E B EE hr ux=>?_;have hU:=hr.units;have hu:=bi hr;unfold ye
 exact (af (ax (i:=2) ND.nd rfl (Or.inl rfl) (aq (ar P2 (hr.mono (by decide)) rfl En.Qt En.Qs En.Qr aF ux (a8 (am 0) (a8 (am 1) ac)))))
  (af (ax (i:=3) ND.nd rfl (Or.inl rfl) (aq (ar P2 (hr.mono (by decide)) rfl En.Qt En.Qs En.Qr aF ux (a8 (am 0) (a8 (am 1) ac)))))
  (af (ax (i:=4) ND.nd rfl (Or.inl rfl) (bE ac))
  (af (dE Hj rfl (vw rfl En.z_zip (a8 (am 2) (a8 (am 3) ac))) (gf (n:=2) rfl (bf (aS (i:=5) ND.nd rfl (Or.inl rfl)) (bf (aS (i:=6) ND.nd rfl (Or.inl rfl)) cR))) (ah (bL (io (Or.inl rfl) Hx HB HI cw (am 4) (a8 (aI aQ rfl En.z_tuple aW (a8 (aq (cv (ls:=["_law_number","_law_another"]) (fs:=["_law_tape_here"]) (js:=[0]) rfl (cD (cs:=[s.heap.objs.size+1]) rfl (by decide +kernel) (by decide +kernel) rfl rfl (eF rfl jy) (.cons rfl (.inl rfl) (.inl rfl) .nil)) (vw rfl En.z_zip (a8 (am 5) (a8 (am 6) ac))) (fun C' s₀ H₀ fp pl'=>⟨(gf (n:=2) rfl (bf (aS (i:=0) (show Ih [("_law_number":Str),("_law_another":Str),("_law_tape_here":Str)] from (by decide +kernel)) rfl (Or.inl rfl)) (bf (aS (i:=1) (show Ih [("_law_number":Str),("_law_another":Str),("_law_tape_here":Str)] from (by decide +kernel)) rfl (Or.inl rfl)) cR))),di,(aj (ag hu) (aq (bE (a8 (am 0) (a8 (am 1) ac)))) (aq (ar Mq (hr.mono (by decide)) rfl En.MD En.MC En.MB fB BA (a8 (am 2) (a8 ae ac)))) (fun _ _=>rfl))⟩))) ac)) ac)))))
  (ah (aC (ba (a8 (am 2) (a8 (aI aQ rfl En.z_tuple aW (a8 (am 4) ac)) ac)))))))))
theorem Dc(En:En K mg ad)(Mq:u9 P w K mg base ad):O34 P w K mg base ad:=by
 refine dg (k:=1) (T:=nH ad) En.S6 MT fun cdv A outer s H E B EE hr ux=>?_;have hU:=hr.units;have hu:=bi hr;unfold nH
 exact (af (ax (i:=5) MT.nd rfl (Or.inl rfl) (aq (aI cy rfl En.z_list bt_list' (a8 (aq (aN aX (aj (ag hu) (am 2) ae (fun _ _=>rfl)) (aj (ag hu) (am 2) ae (fun _ _=>rfl)))) ac))))
  (af (ax (i:=6) MT.nd rfl (Or.inl rfl) (aI cy rfl En.z_list bt_list' (a8 (aq (aN aX (aj (ag hu) (am 3) ae (fun _ _=>rfl)) (aj (ag hu) (am 3) ae (fun _ _=>rfl)))) ac)))
  (af (ax (i:=7) MT.nd rfl (Or.inl rfl) (aq (ar Mq (hr.mono (by decide)) rfl En.MD En.MC En.MB aF ux (a8 (am 0) (a8 (aJ aR rfl En.z_len a_ (a8 (am 5) ac)) ac)))))
  (af (dE Hj rfl (bS rfl En.z_range (a8 (aJ aR rfl En.z_len a_ (a8 (am 5) ac)) ac)) (aS (i:=8) MT.nd rfl (Or.inl rfl)) (af (ax (i:=9) MT.nd rfl (Or.inl rfl) (aN bI (aq (aN aX (am 8) (am 7))) (aJ aR rfl En.z_len a_ (a8 (am 5) ac))))
   (ah (b0 (aH (d9 hU) (aj (ag hu) (am 5) (am 9) (fun _ _=>rfl)) (aj (ag hu) (am 6) (am 9) (fun _ _=>rfl)) (aD _)) (ah (b0 (aH (bj hU) (am 4) ae (aD _)) (ah (bU (aj (ag hu) (am 5) (am 9) (fun _ _=>rfl)) (cK hu (am 6) (am 9)))) (ah (ax (i:=4) MT.nd rfl (Or.inl rfl) (aN dh (am 4) ae))))) aT))))
  (af (ax (i:=10) MT.nd rfl (Or.inl rfl) (aJ aR rfl En.z_len a_ (a8 (aj (ag hu) (am 1) ae (fun _ _=>rfl)) ac)))
  (ah (aC (ba (a8 (aI aQ rfl En.z_tuple aW (a8 (aq (bu (am 6) bG (bF (am 10)))) ac)) (a8 (aI aQ rfl En.z_tuple aW (a8 (aq (bu (am 6) (bF (am 10)) bG)) ac)) ac))))))))))
theorem FG(En:En K mg ad)(Mq:u9 P w K mg base ad):O35 P w K mg base ad:=by
 refine dg (k:=1) (T:=ya ad) En.F_q6 NS fun cdv A outer s H E B EE hr ux=>?_;have hU:=hr.units;have hu:=bi hr;unfold ya
 exact (af (ax (i:=2) NS.nd rfl (Or.inr rfl) (aj (ag hu) (am 1) ae (fun _ _=>rfl)))
  (af (ax (i:=3) NS.nd rfl (Or.inl rfl) (aj (ag hu) (aq (bE (a8 av (a8 av (a8 av (a8 av ac)))))) (aq (ar Mq (hr.mono (by decide)) rfl En.MD En.MC En.MB aF ux (a8 (am 0) (a8 ae ac)))) (fun _ _=>rfl)))
  (af (bU (aq (cv (ls:=["_law_k"]) (fs:=["_law_tape_here","_law_all"]) (js:=[0,2]) rfl (cD (cs:=[s.heap.objs.size+1,s.heap.objs.size+2]) rfl (by decide +kernel) (by decide +kernel) rfl rfl (eF rfl (eF rfl jy)) (.cons rfl (.inl rfl) (.inl rfl) (.cons rfl (.inl rfl) (.inl rfl) .nil))) (bS rfl En.z_range (a8 ae ac)) (fun C' s₀ H₀ fp pl'=>⟨(aS (i:=0) (show Ih [("_law_k":Str),("_law_tape_here":Str),("_law_all":Str)] from (by decide +kernel)) rfl (Or.inl rfl)),di,(aj (ag hu) (am 2) (aq (ar Mq (hr.mono (by decide)) rfl En.MD En.MC En.MB fB BA (a8 (am 1) (a8 (aJ aR rfl En.z_len a_ (a8 (am 2) ac)) ac)))) (fun _ _=>rfl))⟩))) (qX (n:=2) rfl (bf (aS (i:=4) NS.nd rfl (Or.inl rfl)) (bf (aS (i:=5) NS.nd rfl (Or.inl rfl)) cR))))
  (ah (aC (ba (a8 (am 3) (a8 (aj (ag hu) (am 1) ae (fun _ _=>rfl)) (a8 (am 4) (a8 (am 5) ac))))))))))
theorem Dq(En:En K mg ad)(NC:O30 P w K mg base ad)(Nb:O31 P w K mg base ad)(Mq:u9 P w K mg base ad)(QM:O34 P w K mg base ad)(TB:O35 P w K mg base ad)(QN:O27 P w K mg base ad)(TC:O33 P w K mg base ad):O36 P w K mg base ad:=by
 refine dg (k:=27) (T:=nV ad) En.Ta MI fun cdv A outer s H E B EE hr ux=>?_;have hU:=hr.units;have hu:=bi hr;unfold nV;refine af ?_ ?_
 ·exact (ax (i:=4) MI.nd rfl (Or.inr rfl) (aq (ar QN (hr.mono (by decide)) rfl En.SW En.SV En.SU aF ux (a8 (am 0) (a8 (am 1) ac)))))
 refine af ?_ ?_
 ·exact (b0 (aH c_ (aq (ar Mq (hr.mono (by decide)) rfl En.MD En.MC En.MB aF ux (a8 (am 0) (a8 ae ac)))) ae (aD _)) (af (ax (i:=5) MI.nd rfl (Or.inl rfl) (aN aX (aj (ag hu) (am 4) ae (fun _ _=>rfl)) (ba (a8 (aq (ar TB (hr.mono (by decide)) rfl En.m_q6 En.k_q6 En.b_q6 aF ux (a8 (am 0) (a8 (am 4) ac)))) ac))))
   (ah (ax (i:=4) MI.nd rfl (Or.inr rfl) (aN aX (aq (bu (am 4) bG (bF ae))) (ba (a8 (am 5) (a8 (aj (ag hu) (am 4) ae (fun _ _=>rfl)) ac))))))) aT)
 refine af ?_ ?_
 ·exact (dE Hj rfl (bS rfl En.z_range (a8 ae ac)) (aS (i:=6) MI.nd rfl (Or.inl rfl)) (af (bU (aq (ar TC (hr.mono (by decide)) rfl En.m_q3 En.k_q3 En.b_q3 aF ux (a8 (am 0) (a8 (am 4) ac)))) (gf (n:=2) rfl (bf (aS (i:=7) MI.nd rfl (Or.inl rfl)) (bf (aS (i:=8) MI.nd rfl (Or.inl rfl)) cR))))
   (af (ax (i:=8) MI.nd rfl (Or.inl rfl) (aq (ar QM (hr.mono (by decide)) rfl En.S9 En.S8 En.S7 aF ux (a8 (am 0) (a8 (am 4) (a8 (am 7) (a8 (am 8) (a8 (am 3) ac))))))))
   (af (ax (i:=9) MI.nd rfl (Or.inl rfl) (ar NC (hr.mono (by decide)) rfl En.PY En.PX En.PV aF ux (a8 (am 4) (a8 (am 7) (a8 (am 2) ac)))))
   (af (ax (i:=10) MI.nd rfl (Or.inl rfl) (ar NC (hr.mono (by decide)) rfl En.PY En.PX En.PV aF ux (a8 (am 4) (a8 (am 8) (a8 (am 2) ac)))))
   (ah (b0 (dL (dD (cb (aq (ar Nb (hr.mono (by decide)) rfl En.NI En.NH En.NG aF ux (a8 (am 9) (a8 (aj (ag hu) (am 4) ae (fun _ _=>rfl)) ac))))) (dD (cb (aq (ar Nb (hr.mono (by decide)) rfl En.NI En.NH En.NG aF ux (a8 (am 10) (a8 (aj (ag hu) (am 4) ae (fun _ _=>rfl)) ac))))) (dS (aH (d9 hU) (aj (ag hu) (aj (ag hu) (am 9) av (fun _ _=>rfl)) (aj (ag hu) (am 4) ae (fun _ _=>rfl)) (fun _ _=>rfl)) (aj (ag hu) (aj (ag hu) (am 10) av (fun _ _=>rfl)) (aj (ag hu) (am 4) ae (fun _ _=>rfl)) (fun _ _=>rfl)) (aD _)))))) (af (ax (i:=11) MI.nd rfl (Or.inl rfl) (aN aX (aN dh (am 2) (aJ (li rfl) rfl En.z_min sV (a8 (aj (ag hu) (am 9) av (fun _ _=>rfl)) (a8 (aj (ag hu) (am 10) av (fun _ _=>rfl)) ac)))) (aq (ar Mq (hr.mono (by decide)) rfl En.MD En.MC En.MB aF ux (a8 (am 0) (a8 ae ac))))))
    (ah (aC (ba (a8 (am 4) (a8 (am 7) (a8 (am 8) (a8 (aj (ag hu) (aq (bE (a8 (am 2) (a8 (am 11) ac)))) (aq (ar Mq (hr.mono (by decide)) rfl En.MD En.MC En.MB aF ux (a8 (am 0) (a8 ae ac)))) (fun _ _=>rfl)) ac)))))))) aT)))))))
 refine af ?_ ?_
 ·exact (ax (i:=12) MI.nd rfl (Or.inl rfl) (aN ck (ba (a8 ae ac)) (aJ aR rfl En.z_len a_ (a8 (aj (ag hu) (am 4) ae (fun _ _=>rfl)) ac))))
 refine af ?_ ?_
 ·exact (ax (i:=13) MI.nd rfl (Or.inl rfl) (aN ck (ba (a8 ae ac)) (aj (ag hu) (am 4) ae (fun _ _=>rfl))))
 refine af ?_ ?_
 ·exact (ax (i:=14) MI.nd rfl (Or.inl rfl) (aI aQ rfl En.z_tuple aW (a8 (aq (cv (ls:=["_law_name"]) (fs:=["_law_plan_here"]) (js:=[4]) rfl (cD (cs:=[s.heap.objs.size+1]) rfl (by decide +kernel) (by decide +kernel) rfl rfl (eF rfl jy) (.cons rfl (.inl rfl) (.inl rfl) .nil)) (fi (aj (ag hu) (am 4) ae (fun _ _=>rfl))) (fun C' s₀ H₀ fp pl'=>⟨(aS (i:=0) (show Ih [("_law_name":Str),("_law_plan_here":Str)] from (by decide +kernel)) rfl (Or.inl rfl)),di,(aI dq rfl En.z_int fE (a8 (eV (bj hU) (am 0) (aj (ag hu) (am 1) ae (fun _ _=>rfl)) (aD _)) ac))⟩))) ac)))
 refine ah ?_;refine aC ?_;refine ba ?_;refine fR ?_ ?_ ?_
 ·exact (aN aX (aq (bu (am 4) bG (bF ae))) (ba (a8 (ba ac) (a8 (aj (ag hu) (am 4) ae (fun _ _=>rfl)) ac))))
 ·refine fR ?_ ?_ ?_
  ·exact (ba (a8 (am 12) (a8 (am 13) ac)))
  ·refine fR ?_ ?_ ?_
   ·exact (ba (a8 (am 14) (a8 (am 13) ac)))
   ·refine fR ?_ ?_ ?_
    ·exact (am 2)
    ·exact ac
    ·rfl
   ·rfl
  ·rfl
 ·rfl
theorem DP(En:En K mg ad)  : O37 P w K mg base ad:=by
 refine dg (k:=0) (T:=nJ ad) En.Te Ds fun cdv A outer s H E B EE hr ux=>?_;have hU:=hr.units;have hu:=bi hr;unfold nJ;exact (ah (aC (aN aX (aq (aI cy rfl En.z_list bt_list' (a8 (aj (ag hu) (am 0) ae (fun _ _=>rfl)) ac))) (aq (f_ rfl rfl En.z_range rfl En.z_list (a8 (aj (ag hu) (am 0) ae (fun _ _=>rfl)) ac))))))
theorem Cm(En:En K mg ad)(NM:O37 P w K mg base ad):O38 P w K mg base ad:=by
 refine dg (k:=1) (T:=nD ad) En.Tg NQ fun cdv A outer s H E B EE hr ux=>?_;have hU:=hr.units;have hu:=bi hr;unfold nD
 exact (af (ax (i:=3) NQ.nd rfl (Or.inr rfl) (aq (ar NM (hr.mono (by decide)) rfl En.Qw En.Qv En.Qu aF ux (a8 (am 0) ac))))
  (af (ax (i:=4) NQ.nd rfl (Or.inr rfl) (aq (aN aX (aj (ag hu) (am 1) ae (fun _ _=>rfl)) (aj (ag hu) (am 1) ae (fun _ _=>rfl)))))
  (af (ax (i:=5) NQ.nd rfl (Or.inr rfl) (aq (aN aX (aj (ag hu) (am 2) ae (fun _ _=>rfl)) (aj (ag hu) (am 2) ae (fun _ _=>rfl)))))
  (ah (aC (cv (ls:=["_law_k"]) (fs:=["_law_others","_law_numbers","_law_all"]) (js:=[5,4,3]) rfl (cD (cs:=[s.heap.objs.size+3,s.heap.objs.size+2,s.heap.objs.size+1]) rfl (by decide +kernel) (by decide +kernel) rfl rfl (eF rfl (eF rfl (eF rfl jy))) (.cons rfl (.inl rfl) (.inl rfl) (.cons rfl (.inl rfl) (.inl rfl) (.cons rfl (.inl rfl) (.inl rfl) .nil)))) (bS rfl En.z_range (a8 (aJ aR rfl En.z_len a_ (a8 (am 3) ac)) ac)) (fun C' s₀ H₀ fp pl'=>⟨(aS (i:=0) (show Ih [("_law_k":Str),("_law_others":Str),("_law_numbers":Str),("_law_all":Str)] from (by decide +kernel)) rfl (Or.inl rfl)),(my (aH (d9 hU) (aj (ag hu) (am 2) (am 0) (fun _ _=>rfl)) (aj (ag hu) (am 1) (am 0) (fun _ _=>rfl)) (aD _))),(aj (ag hu) (am 3) (am 0) (fun _ _=>rfl))⟩)))))))
theorem BQ(En:En K mg ad)(NM:O37 P w K mg base ad):O39 P w K mg base ad:=by
 refine dg (k:=1) (T:=oH ad) En.Tn MM fun cdv A outer s H E B EE hr ux=>?_;have hU:=hr.units;have hu:=bi hr;unfold oH
 exact (af (bU (am 0) (gf (n:=4) rfl (bf (aS (i:=2) MM.nd rfl (Or.inl rfl)) (bf (aS (i:=3) MM.nd rfl (Or.inl rfl)) (bf (aS (i:=4) MM.nd rfl (Or.inl rfl)) (bf (aS (i:=5) MM.nd rfl (Or.inl rfl)) cR))))))
  (af (ax (i:=6) MM.nd rfl (Or.inl rfl) (aq (ar NM (hr.mono (by decide)) rfl En.Qw En.Qv En.Qu aF ux (a8 (am 2) ac))))
  (af (ax (i:=7) MM.nd rfl (Or.inl rfl) (aI cy rfl En.z_list bt_list' (a8 (aq (aN aX (aj (ag hu) (am 3) ae (fun _ _=>rfl)) (aj (ag hu) (am 3) ae (fun _ _=>rfl)))) ac)))
  (af (ax (i:=8) MM.nd rfl (Or.inl rfl) (aq (aN aX (aj (ag hu) (am 4) ae (fun _ _=>rfl)) (aj (ag hu) (am 4) ae (fun _ _=>rfl)))))
  (af (dE Hj rfl (bS rfl En.z_range (a8 (aJ aR rfl En.z_len a_ (a8 (am 6) ac)) ac)) (aS (i:=9) MM.nd rfl (Or.inl rfl)) (ah (b0 (aH (qA hU) (aj (ag hu) (am 6) (am 9) (fun _ _=>rfl)) (am 1) (by rfl)) (ah (bU (aj (ag hu) (am 8) (am 9) (fun _ _=>rfl)) (cK hu (am 7) (am 9)))) aT)))
  (af (ax (i:=10) MM.nd rfl (Or.inl rfl) (aJ aR rfl En.z_len a_ (a8 (aj (ag hu) (am 2) ae (fun _ _=>rfl)) ac)))
  (ah (aC (ba (a8 (aI aQ rfl En.z_tuple aW (a8 (aq (bu (am 7) bG (bF (am 10)))) ac)) (a8 (aI aQ rfl En.z_tuple aW (a8 (aq (bu (am 7) (bF (am 10)) bG)) ac)) ac)))))))))))
theorem Ga(En:En K mg ad)(OG:O32 P w K mg base ad)(QO:O39 P w K mg base ad):O40 P w K mg base ad:=by
 refine dg (k:=26) (T:=w8 ad) En.F_q9 NF fun cdv A outer s H E B EE hr ux=>?_;have hU:=hr.units;have hu:=bi hr;unfold w8
 exact (af (bU (am 0) (gf (n:=4) rfl (bf (aS (i:=2) NF.nd rfl (Or.inl rfl)) (bf (aS (i:=3) NF.nd rfl (Or.inl rfl)) (bf (aS (i:=4) NF.nd rfl (Or.inl rfl)) (bf (aS (i:=5) NF.nd rfl (Or.inl rfl)) cR))))))
  (af (ax (i:=6) NF.nd rfl (Or.inl rfl) (aq (ar OG (hr.mono (by decide)) rfl En.P1 En.P0 En.PZ aF ux (a8 (am 2) (a8 (aq (ar QO (hr.mono (by decide)) rfl En.Tq En.Tp En.To aF ux (a8 (am 0) (a8 (am 1) ac)))) (a8 (am 5) ac))))))
  (af (b0 (aH (bj hU) (am 6) (aq (ar OG (hr.mono (by decide)) rfl En.P1 En.P0 En.PZ aF ux (a8 (am 2) (a8 (am 3) (a8 (am 5) ac))))) (aD _)) (ah (aC av)) aT)
  (ah (aC (aj (ag hu) (aq (bE (a8 av (a8 av ac)))) (aI dq rfl En.z_int fE (a8 (eV (bj hU) (am 6) (aq (ar OG (hr.mono (by decide)) rfl En.P1 En.P0 En.PZ aF ux (a8 (am 2) (a8 (am 4) (a8 (am 5) ac))))) (aD _)) ac)) (fun _ _=>rfl)))))))
theorem CF(En:En K mg ad)  : O41 P w K mg base ad:=by
 refine dg (k:=0) (T:=oO ad) En.Tr BZ fun cdv A outer s H E B EE hr ux=>?_;have hU:=hr.units;have hu:=bi hr;unfold oO
 exact (af (b0 (d_ (cb (aJ cF rfl En.z_isinstance cc (a8 (am 1) (a8 (pF rfl En.z_list bt_list') ac))))) (ah (aC db)) aT)
  (ah (aC (eV (bj hU) (aJ (jv hr.gd hU) rfl En.z_repr gm (a8 (am 1) ac)) (aJ (jv hr.gd hU) rfl En.z_repr gm (a8 (aq (cv (ls:=["_law_one"]) (fs:=["_law_thing"]) (js:=[1]) rfl (cD (cs:=[s.heap.objs.size+1]) rfl (by decide +kernel) (by decide +kernel) rfl rfl (eF rfl jy) (.cons rfl (.inl rfl) (.inl rfl) .nil)) (fi (am 0)) (fun C' s₀ H₀ fp pl'=>⟨(aS (i:=0) (show Ih [("_law_one":Str),("_law_thing":Str)] from (by decide +kernel)) rfl (Or.inl rfl)),(my (aH (qA hU) (am 0) (am 1) (by rfl))),(am 0)⟩))) ac)) (aD _)))))
theorem G9(En:En K mg ad)(P4:O41 P w K mg base ad)(TF:O40 P w K mg base ad):O42 P w K mg base ad:=by
 refine dg (k:=27) (T:=xl ad) En.F_q1 NT fun cdv A outer s H E B EE hr ux=>?_;have hU:=hr.units;have hu:=bi hr;unfold xl
 exact (af (b0 (dL (fW (d_ (cb (aJ cF rfl En.z_isinstance cc (a8 (am 2) (a8 (pF rfl En.z_tuple aW) ac))))) (fW (aH (d9 hU) (aJ aR rfl En.z_len a_ (a8 (am 2) ac)) ae (aD _)) (g9 (d_ (cb (aJ cF rfl En.z_isinstance cc (a8 (aj (ag hu) (am 2) ae (fun _ _=>rfl)) (a8 (pF rfl En.z_list bt_list') ac))))))))) (ah (aC db)) aT)
  (af (ax (i:=3) NT.nd rfl (Or.inl rfl) tG)
  (af (dE Hj rfl (fi (aj (ag hu) (am 2) ae (fun _ _=>rfl))) (aS (i:=4) NT.nd rfl (Or.inl rfl)) (af (b0 (dL (fW (d_ (cb (aJ cF rfl En.z_isinstance cc (a8 (am 4) (a8 (pF rfl En.z_tuple aW) ac))))) (fW (aH (d9 hU) (aJ aR rfl En.z_len a_ (a8 (am 4) ac)) ae (aD _)) (g9 (d_ (cb (aq (ar P4 (hr.mono (by decide)) rfl En.Qz En.Qy En.Qx aF ux (a8 (am 1) (a8 (aj (ag hu) (am 4) ae (fun _ _=>rfl)) ac)))))))))) (ah (aC db)) aT)
   (af (b0 (aH (d9 hU) (aJ (jp hr.gd hU) rfl En.z_repr gm (a8 (aj (ag hu) (am 4) ae (fun _ _=>rfl)) ac)) (aJ (jp hr.gd hU) rfl En.z_repr gm (a8 (aq (ar TF (hr.mono (by decide)) rfl En.m_q9 En.k_q9 En.b_q9 aF ux (a8 (am 0) (a8 (aj (ag hu) (am 4) ae (fun _ _=>rfl)) ac)))) ac)) (aD _)) (ah (aC db)) aT)
   (ah (bU (aj (ag hu) (am 4) ae (fun _ _=>rfl)) (cK hu (am 3) (aI aQ rfl En.z_tuple aW (a8 (aj (ag hu) (am 4) ae (fun _ _=>rfl)) ac))))))))
  (af (b0 (dL (fW (aH gh (aJ qZ rfl En.z_len a_ (a8 (am 3) ac)) (aJ aR rfl En.z_len a_ (a8 (aj (ag hu) (am 2) ae (fun _ _=>rfl)) ac)) (aD _)) (fW (aH (Db hU) (aj (ag hu) (am 2) ae (fun _ _=>rfl)) (aq (bE ac)) (aD _)) (g9 (aH (d9 hU) (aj (ag hu) (aj (ag hu) (aj (ag hu) (am 2) ae (fun _ _=>rfl)) ae (fun _ _=>rfl)) ae (fun _ _=>rfl)) (am 1) (aD _)))))) (ah (aC db)) aT)
  (af (ax (i:=5) NT.nd rfl (Or.inl rfl) (aj (ag hu) (am 2) ae (fun _ _=>rfl)))
  (af (b0 (dL (fW (d_ (cb (aq (ar P4 (hr.mono (by decide)) rfl En.Qz En.Qy En.Qx aF ux (a8 (am 1) (a8 (am 5) ac)))))) (g9 (aH (d9 hU) (Ag hU (am 3) (aI aQ rfl En.z_tuple aW (a8 (am 5) ac)) ⟨rfl,rfl,rfl,rfl⟩) av (aD _))))) (ah (aC db)) aT)
  (af (dE Hj rfl (bS rfl En.z_range (a8 (aJ aR rfl En.z_len a_ (a8 (am 5) ac)) ac)) (aS (i:=6) NT.nd rfl (Or.inl rfl)) (ah (b0 (aH (bj hU) (Af hU (am 3) (aI aQ rfl En.z_tuple aW (a8 (aq (aN aX (aq (bu (am 5) bG (bF (am 6)))) (aq (bu (am 5) (bF (aN aX (am 6) ae)) bG)))) ac)) av ⟨rfl,rfl,rfl,rfl⟩) av (aD _)) (ah (aC db)) aT)))
  (ah (aC db)))))))))
theorem EA(En:En K mg ad)(QP:O36 P w K mg base ad)(Mq:u9 P w K mg base ad)(TH:O42 P w K mg base ad)(QR:O23 P w K mg base ad)(QS:O38 P w K mg base ad)(QT:O22 P w K mg base ad):O43 P w K mg base ad:=by
 refine dg (k:=32) (T:=nK ad) En.F_law sc_law fun cdv A outer s H E B EE hr ux=>?_;have hU:=hr.units;have hu:=bi hr;unfold nK
 exact (af (ax (i:=1) sc_law.nd rfl (Or.inl rfl) (ar QR (hr.mono (by decide)) rfl En.Sz En.Sy En.Sw aF ux (a8 (am 0) ac)))
  (af (ax (i:=2) sc_law.nd rfl (Or.inl rfl) (aq (ar QP (hr.mono (by decide)) rfl En.Td En.Tc En.Tb aF ux (a8 (am 1) (a8 ae (a8 ae (a8 (aj (ag hu) (aq (bE (a8 ae (a8 ae (a8 ae (a8 ae ac)))))) (aq (ar Mq (hr.mono (by decide)) rfl En.MD En.MC En.MB aF ux (a8 (am 1) (a8 ae ac)))) (fun _ _=>rfl)) ac)))))))
  (af (ax (i:=3) sc_law.nd rfl (Or.inl rfl) (aq (ar QS (hr.mono (by decide)) rfl En.Tj En.Ti En.Th aF ux (a8 (aj (ag hu) (am 2) ae (fun _ _=>rfl)) (a8 (aj (ag hu) (am 2) ae (fun _ _=>rfl)) (a8 (aj (ag hu) (am 2) ae (fun _ _=>rfl)) ac))))))
  (af (dE Hj rfl (bS rfl En.z_range (a8 ae ac)) (aS (i:=4) sc_law.nd rfl (Or.inl rfl)) (af (ax (i:=5) sc_law.nd rfl (Or.inl rfl) (ar QT (hr.mono (by decide)) rfl En.Sk En.Sj En.Si aF ux (a8 (am 2) ac)))
   (af (b0 (d_ (cb (aq (ar TH (hr.mono (by decide)) rfl En.m_q1 En.k_q1 En.b_q1 aF ux (a8 (am 2) (a8 (am 3) (a8 (am 5) ac))))))) (ah (aC db)) aT)
   (af (b0 (aH c_ (aJ aR rfl En.z_len a_ (a8 (aj (ag hu) (am 5) ae (fun _ _=>rfl)) ac)) (aN aX (aN aX (aN ck (aJ aR rfl En.z_len a_ (a8 (am 3) ac)) (aJ aR rfl En.z_len a_ (a8 (am 3) ac))) (aN ck ae (aJ aR rfl En.z_len a_ (a8 (am 3) ac)))) ae) (aD _)) (ah (aC db)) aT)
   (af (bL (C5 (Or.inl rfl) Hx L0 PySem.F.type_list_clear uL (aj (ag hu) (aj (ag hu) (aj (ag hu) (am 5) ae (fun _ _=>rfl)) ae (fun _ _=>rfl)) ae (fun _ _=>rfl)) ))
   (ah (bL (io (Or.inl rfl) Hx HB HI cw (aj (ag hu) (am 5) ae (fun _ _=>rfl)) (a8 av ac)))))))))
  (ah (aC db))))))
theorem C8(En:En K mg ad):O43 P w K mg base ad:=by
 have Tx:=F_ (P:=P) (w:=w) (base:=base) En;have Nh:=Fh (P:=P) (w:=w) (base:=base) En;have MN:=CG (P:=P) (w:=w) (base:=base) En Nh;have QA:=Du (P:=P) (w:=w) (base:=base) En;have QB:=D8 (P:=P) (w:=w) (base:=base) En;have MS:=De (P:=P) (w:=w) (base:=base) En QA QB;obtain ⟨ML,M8,M9,Na⟩:=il (P:=P) (w:=w) (base:=base) En MN Nh MS 24;have QC:=Ec (P:=P) (w:=w) (base:=base) En Tx ML;have NA:=CC (P:=P) (w:=w) (base:=base) En QC;have QD:=BY (P:=P) (w:=w) (base:=base) En;have Nz:=Ev (P:=P) (w:=w) (base:=base) En;have QE:=Ei (P:=P) (w:=w) (base:=base) En QD Nz;have QF:=Ee (P:=P) (w:=w) (base:=base) En NA;have QK:=D9 (P:=P) (w:=w) (base:=base) En QE;have Q7:=ES (P:=P) (w:=w) (base:=base) En Nz;have QG:=BM (P:=P) (w:=w) (base:=base) En Q7;have QH:=Di (P:=P) (w:=w) (base:=base) En;have Tz:=Fr (P:=P) (w:=w) (base:=base) En QF;have NJ:=Ey (P:=P) (w:=w) (base:=base) En NA QG QH;have ON:=F0 (P:=P) (w:=w) (base:=base) En NJ;have QI:=Cj (P:=P) (w:=w) (base:=base) En ON;have QJ:=D3 (P:=P) (w:=w) (base:=base) En ON;have QT:=Et (P:=P) (w:=w) (base:=base) En Tz NJ QI QJ QK;have QR:=Ef (P:=P) (w:=w) (base:=base) En;have Mq:=Eb (P:=P) (w:=w) (base:=base) En;have QL:=Cq (P:=P) (w:=w) (base:=base) En Mq;have Nr:=Er (P:=P) (w:=w) (base:=base) En Mq;obtain ⟨NK,NB⟩:=fV (P:=P) (w:=w) (base:=base) En Mq Nr 24;have QN:=Cp (P:=P) (w:=w) (base:=base) En Mq QL NB;have P2:=BT (P:=P) (w:=w) (base:=base) En Mq;have NL:=DZ (P:=P) (w:=w) (base:=base) En;have Nb:=iy (P:=P) (w:=w) (base:=base) En NL 24;have NC:=DV (P:=P) (w:=w) (base:=base) En;have OG:=BR (P:=P) (w:=w) (base:=base) En NC Nb;have TC:=G7 (P:=P) (w:=w) (base:=base) En Mq P2;have QM:=Dc (P:=P) (w:=w) (base:=base) En Mq;have TB:=FG (P:=P) (w:=w) (base:=base) En Mq;have QP:=Dq (P:=P) (w:=w) (base:=base) En NC Nb Mq QM TB QN TC;have NM:=DP (P:=P) (w:=w) (base:=base) En;have QS:=Cm (P:=P) (w:=w) (base:=base) En NM;have QO:=BQ (P:=P) (w:=w) (base:=base) En NM;have TF:=Ga (P:=P) (w:=w) (base:=base) En OG QO;have P4:=CF (P:=P) (w:=w) (base:=base) En;have TH:=G9 (P:=P) (w:=w) (base:=base) En P4 TF;have G_law:=EA (P:=P) (w:=w) (base:=base) En QP Mq TH QR QS QT;exact G_law
end
end Tw
namespace L3
open PySem L2
theorem bt{T:Sd}{EE:DX}{ds:List D}{M:Mem}{Q:DK}{b:BxQ EE Q}{d:D}(hm:∀Q' E',Q' d M->T ds M Q' E')(h:Q d M):calls T EE ds M Q b:=
 calls_of fun Q' E' hq _=>hm Q' E' (hq d M h)
theorem cr{α:Type}{xs:List α}{i:Int}(h:0<=i):atI xs i=xs[i.toNat]?:=by
 unfold atI tN;rw [if_pos h]
 by_cases hi:i<xs.length
 ·rw [if_pos hi];rfl
 ·rw [if_neg hi,HG (by lia)];rfl
@[simp] theorem atI_0 {α:Type} {xs:List α}:atI xs 0=xs[0]?:=cr (by decide)
@[simp] theorem atI_1 {α:Type} {xs:List α}:atI xs 1=xs[1]?:=cr (by decide)
@[simp] theorem atI_2 {α:Type} {xs:List α}:atI xs 2=xs[2]?:=cr (by decide)
@[simp] theorem atI_3 {α:Type} {xs:List α}:atI xs 3=xs[3]?:=cr (by decide)
@[simp] theorem atI_4 {α:Type} {xs:List α}:atI xs 4=xs[4]?:=cr (by decide)
theorem forD_inv{g:jh}{tb:aG}{DD:DEnds}{ok:Mem->Prop}{b:BxF g tb DD ok}(I:List D->Dl->Mem->Prop)(hok:∀xs δ M,I xs δ M->ok M)(h0:∀δ M,I [] δ M->DD.nx δ M)
  (hs:∀x xs δ M,I (x::xs) δ M->∀D':DEnds,(∀δ' M',I xs δ' M'->D'.nx δ' M')->(∀δ' M',I xs δ' M'->D'.ct δ' M')->D'.rt=DD.rt->D'.bk=DD.nx->g x δ M fun δ2 M2=>tb D' δ2 M2):∀xs δ M,I xs δ M->qE g tb DD ok b xs δ M
 |[],δ,M,h=>⟨hok _ _ _ h,h0 δ M h⟩
 |x::xs,δ,M,h=>⟨hok _ _ _ h,hs x xs δ M h _ (fun δ' M' h'=>forD_inv I hok h0 hs xs δ' M' h') (fun δ' M' h'=>forD_inv I hok h0 hs xs δ' M' h') rfl rfl⟩
theorem cB{g:jh}{tt:fb}{te:bN}{ok:Mem->Prop}{Q:List D->Mem->Prop}{b:BxC g tt te ok Q}(I:List D->List D->Dl->Mem->Prop)(hok:∀xs acc δ M,I xs acc δ M->ok M)(h0:∀acc δ M,I [] acc δ M->Q acc M)
  (hs:∀x xs acc δ M,I (x::xs) acc δ M->∀N:Bool->D->Dl->Mem->Prop,(∀y δ' M',acc.length<sizeLine->I xs (acc++[y]) δ' M'->N true y δ' M')->(∀y δ' M',I xs acc δ' M'->N false y δ' M')->g x δ M fun δ2 M2=>tt δ2 M2 fun c M3=>if c=true then te δ2 M3 fun y M4=>N true y δ2 M4 else N false .non δ2 M3)
  (hl:∀x xs acc δ M,I (x::xs) acc δ M->acc.length<sizeLine):∀xs acc δ M,I xs acc δ M->cW g tt te ok Q b xs acc δ M
 |[],acc,δ,M,h=>⟨hok _ _ _ _ h,h0 acc δ M h⟩
 |x::xs,acc,δ,M,h=>⟨hok _ _ _ _ h,hs x xs acc δ M h (fun k y δ' M'=>if k=true then acc.length<sizeLine/\cW g tt te ok Q b xs (acc++[y]) δ' M' else cW g tt te ok Q b xs acc δ' M')
   (fun y δ' M' hlen h'=>by rw [if_pos rfl];exact ⟨hlen,cB I hok h0 hs hl xs _ δ' M' h'⟩) (fun y δ' M' h'=>by rw [if_neg (by simp)];exact cB I hok h0 hs hl xs _ δ' M' h') |> fun z=>by simpa using z⟩
theorem szl{n:Nat}(h:n<=1000000):n<=sizeLine:=Hd h (by decide)
theorem g_{n:Nat}(h:n<1000000):n<sizeLine:=GS h (by decide)
end L3
namespace Tw
open PySem L2 L3
inductive Rw where
 |put (x:Str) (k:Int)|take (x:Str) (i:Int)|pick (x y:Str)|two (w x y z:Str)|ifr (x:Str) (a b:List Rw)|again (x:Str) (a:List Rw)
mutual
def Rw.d:Rw->D
 |.put x k=>.tup [.str "put",.str x,.int k]
 |.take x i=>.tup [.str "take",.str x,.int i]
 |.pick x y=>.tup [.str "pick",.str x,.str y]
 |.two w x y z=>.tup [.str w,.str x,.str y,.str z]
 |.ifr x a b=>.tup [.str "if",.str x,.tup (aK a),.tup (aK b)]
 |.again x a=>.tup [.str "again",.str x,.tup (aK a)]
def aK:List Rw->List D
 |[]=>[]
 |r::rs=>r.d::aK rs
end
abbrev hG:=List (Str×Int)
def gN(n:hG)(x:Str):Option Int:=(n.find? fun p=>decide (p.1=x)).map (·.2)
def nm(n:hG)(x:Str):Int:=(gN n x).getD 0
def sN(n:hG)(x:Str)(v:Int):hG:=n.map fun p=>if p.1=x then (p.1,v) else p
def kvD(n:hG):List (aP×D):=n.map fun p=>(GQ p.1,D.int p.2)
theorem Bw:∀{n:hG} {x:Str},x∈n.map (·.1)->gN n x=some (nm n x)
 |[],_,h=>by simp at h
 |(y,v)::n,x,h=>by
  by_cases e:y=x
  ·simp [gN,nm,e]
  ·have:=Bw (n:=n) (x:=x) (by simpa [Hw e,eq_comm,e] using h)
   simpa [gN,nm,e] using this
theorem cS:∀{n:hG} {x:Str},cn (kvD n) (GQ x)=(gN n x).map D.int
 |[],x=>rfl
 |(y,v)::n,x=>by
  by_cases e:y=x
  ·simp [cn,kvD,gN,e]
  ·have:=cS (n:=n) (x:=x)
   simpa [cn,kvD,gN,e] using this
theorem vQ:∀{n:hG} {x:Str},x∈n.map (·.1)->((kvD n).any fun kv=>decide (kv.1=GQ x))=true
 |[],_,h=>by simp at h
 |(y,v)::n,x,h=>by
  by_cases e:y=x
  ·simp [kvD,e]
  ·have:=vQ (n:=n) (x:=x) (by simpa [Hw e,eq_comm,e] using h)
   simp only [kvD,GR,Iy,Bool.or_eq_true] at this ⊢;exact .inr this
theorem je{n:hG}{x:Str}{v:Int}(h:x∈n.map (·.1)):cX (kvD n) (GQ x) (.int v)=kvD (sN n x v):=by
 unfold cX;rw [vQ h,if_pos rfl];simp only [kvD,sN,HH];apply Hs;intro p _
 by_cases e:p.1=x
 ·simp [e]
 ·simp [e]
theorem B7{n:hG}{x:Str}{v:Int}:(sN n x v).map (·.1)=n.map (·.1):=by
 simp only [sN,HH];apply Hs;intro p _
 by_cases e:p.1=x<;>simp [e]
structure Cf where
 m:Int
 pieces:List Int
 most:Nat
structure Sx where
 nums:hG
 steps:List (List Int×Int)
def Ao(w:Str)(y z m:Int):Int:=if w="sum" then (y+z) % m else if w="by" then y*z % m else if w="less" then (if y<z then 1 else 0) else if y=z then 1 else 0
def num(c:Cf)(n:hG):Rw->Int
 |.put _ k=>k
 |.take _ i=>(c.pieces[i.toNat]?).getD 0
 |.pick _ y=>(c.pieces[(nm n y % (c.pieces.length:Int)).toNat]?).getD 0
 |.two w _ y z=>Ao w (nm n y) (nm n z) c.m
 |_=>0
def pK:Rw->Str
 |.put x _=>x
 |.take x _=>x
 |.pick x _=>x
 |.two _ x _ _=>x
 |.ifr x _ _=>x
 |.again x _=>x
def nt(c:Cf)(pl:List Int)(v:Int)(s:Sx):Bool×Sx:=if s.steps.length<c.most then (true,⟨s.nums,s.steps++[(pl,v)]⟩) else (false,s)
def lk(n:hG)(x:Str):Int:=if nm n x=0 then 0 else 1
def bT(c:Cf)(x:Str)(pl:List Int)(body:Nat->Sx->Bool×Sx):Nat->Nat->Sx->Bool×Sx
 |0,_,s=>(false,s)
 |f+1,t,s=>if (nt c (pl++[(t:Int)]) (lk s.nums x) s).1=true then
   (if lk s.nums x=1 then
    (if (body t (nt c (pl++[(t:Int)]) (lk s.nums x) s).2).1=true then bT c x pl body f (t+1) (body t (nt c (pl++[(t:Int)]) (lk s.nums x) s).2).2 else body t (nt c (pl++[(t:Int)]) (lk s.nums x) s).2)
   else nt c (pl++[(t:Int)]) (lk s.nums x) s)
  else nt c (pl++[(t:Int)]) (lk s.nums x) s
mutual
def exR(c:Cf):Rw->List Int->Sx->Bool×Sx
 |.ifr x a b,pl,s=>if (nt c pl (lk s.nums x) s).1=true then (if lk s.nums x=1 then bv c a (pl++[lk s.nums x]) 0 (nt c pl (lk s.nums x) s).2 else bv c b (pl++[lk s.nums x]) 0 (nt c pl (lk s.nums x) s).2) else nt c pl (lk s.nums x) s
 |.again x a,pl,s=>bT c x pl (fun t s=>bv c a (pl++[(t:Int)]) 0 s) (c.most+1) 0 s
 |.put x k,pl,s=>if (nt c pl (num c s.nums (.put x k)) s).1=true then (true,⟨sN s.nums x (num c s.nums (.put x k)),(nt c pl (num c s.nums (.put x k)) s).2.steps⟩) else nt c pl (num c s.nums (.put x k)) s
 |.take x i,pl,s=>if (nt c pl (num c s.nums (.take x i)) s).1=true then (true,⟨sN s.nums x (num c s.nums (.take x i)),(nt c pl (num c s.nums (.take x i)) s).2.steps⟩) else nt c pl (num c s.nums (.take x i)) s
 |.pick x y,pl,s=>if (nt c pl (num c s.nums (.pick x y)) s).1=true then (true,⟨sN s.nums x (num c s.nums (.pick x y)),(nt c pl (num c s.nums (.pick x y)) s).2.steps⟩) else nt c pl (num c s.nums (.pick x y)) s
 |.two w x y z,pl,s=>if (nt c pl (num c s.nums (.two w x y z)) s).1=true then (true,⟨sN s.nums x (num c s.nums (.two w x y z)),(nt c pl (num c s.nums (.two w x y z)) s).2.steps⟩) else nt c pl (num c s.nums (.two w x y z)) s
def bv(c:Cf):List Rw->List Int->Nat->Sx->Bool×Sx
 |[],_,_,s=>(true,s)
 |r::rs,pl,j,s=>if (exR c r (pl++[(j:Int)]) s).1=true then bv c rs pl (j+1) (exR c r (pl++[(j:Int)]) s).2 else exR c r (pl++[(j:Int)]) s
end
def eD(c:Cf)(r:Rw)(pl:List Int)(s:Sx):Bool×Sx:=if s.steps.length<c.most then (true,⟨sN s.nums (pK r) (num c s.nums r),s.steps++[(pl,num c s.nums r)]⟩) else (false,s)
def t_:Rw->Bool
 |.ifr _ _ _=>false
 |.again _ _=>false
 |_=>true
theorem br{c:Cf}{r:Rw}{pl:List Int}{s:Sx}(h:t_ r=true):exR c r pl s=eD c r pl s:=by
 cases r with
 |ifr x a b=>simp [t_] at h
 |again x a=>simp [t_] at h
 |put x k=>simp only [exR,eD,nt,pK];split<;>simp_all
 |take x k=>simp only [exR,eD,nt,pK];split<;>simp_all
 |pick x k=>simp only [exR,eD,nt,pK];split<;>simp_all
 |two w x y z=>simp only [exR,eD,nt,pK];split<;>simp_all
theorem bC(a b:String):(Hy a=Hy b)=(a=b):=by
 refine propext ⟨fun h=>?_,fun h=>by rw [h]⟩
 rw [Str.ofString_eq_byList] at h;have h1:=congrArg (fun x:Str=>x.cps.toList) h;simp only [Str.ofStringByList] at h1;exact String.toList_inj.mp ((List.map_inj_right fun x y e=>Char.toNat_inj.mp e).mp h1)
end Tw
open PySem L2 L3 Tw
local macro_rules | `(tactic| simp! [$a,*]) => do let p <- ("Dh Eh Dw C4 zo yG za yT Am AB A3 zB AZ Ba zr zC yB Bh yS AK AO Bi zb AT B9 zN Aw Ay AQ Bc t4 mD rD iY rP AX vk lq j6 mM sM ji mE mG mY rJ j5 rR n6 rX sW mO zK zW yN Ax zM zy jd sZ sk nN oB gL yW A7 A0 zg AR z7 zF zE yx Av A6 yK AY AV B5 zh z6 z9 AW yC B2 D1 Ch DC DB C6 D7 qK w6 pM yV AI AJ zX Bg A_ zT B0 rN mC sH iW ss Aa AL A9 mV gR mF jg tL iP pj gM fu ft rV mP dW sy rZ i_ zw eS j4 dB mQ ll qN qW vt vH xR so tW jf tm mL tD tj tX qL yb wa rO lI tZ jm j2 rT tu sF j9 jK oA nB gO gx oF iQ sR tH iV sJ mz tU tQ rM s_ pO lj yd iZ lV lD mR v9 mm ma m_ qo qq nc jl lB lM ja mK sP rj kx wn kT Do wr gr sS qO ib we xQ rA mr k8 CQ lF bh startN aw bp aL cY tru au eJ pW dv cj dI bc gK aa dC aZ EK bn fQ iI qd BB oI yr fA aO cm seqL aB frz bR vM wQ xV aE ap fM bB eM fc wB a9 dNil bJ ce bD bK fj cTuple fY cO zu dl gB bZ rf cH mj dTM lE i9 gC eN dA oq kh n4 uk oSl jx ci bw aA dY w_ i6 cU BC x8 srcOf dO Bm frzT frzs Fm vW qx BH jz".splitOn " ").toArray.mapM (fun s => `(Lean.Parser.Tactic.simpLemma| ↓$(Lean.mkIdent s.toName):ident)); let q <- ("List.map_cons List.map_nil List.cons_append List.nil_append List.length_cons List.length_nil List.getElem?_cons_succ List.getElem?_cons_zero List.set_cons_succ List.set_cons_zero Nat.zero_add Nat.reduceAdd Nat.reduceSub List.replicate_succ List.replicate_zero List.append_nil true_and and_true if_true if_false Bool.false_eq_true decide_eq_true_eq decide_eq_false_iff_not Bool.not_true Bool.not_false Bool.and_true Bool.true_and Bool.and_false Bool.false_and Mem.upd_same Option.isSome_some Option.isSome_none bC String.reduceEq".splitOn " ").toArray.mapM (fun s => `(Lean.Parser.Tactic.simpLemma| $(Lean.mkIdent s.toName):ident)); let r : Lean.TSyntaxArray [`Lean.Parser.Tactic.simpStar, `Lean.Parser.Tactic.simpErase, `Lean.Parser.Tactic.simpLemma] := (p.map (⟨·.raw⟩)) ++ (q.map (⟨·.raw⟩)) ++ a.getElems; `(tactic| simp -dsimp only [$r,*])
namespace Tw
open PySem L2 L3
theorem oy{ad:Ad}{M:Mem}{Q:DK}{E:DX}{w:Str}{y z m:Int}(hm:0<m)(hy:0<=y)(hy2:y<1000)(h:Q (.int (Ao w y z m)) M):sO ad [.str w,.int y,.int z,.int m] M Q E:=by
 have hc:CMul y z:=.inl ⟨by lia,by lia⟩
 unfold Ao at h;simp! [ER,nw]
 split
 ·rename_i e;rw [if_pos e] at h;exact ⟨hm,drp_id h⟩
 ·rename_i e;rw [if_neg e] at h
  split
  ·rename_i e;rw [if_pos e] at h;exact ⟨hc,hm,drp_id h⟩
  ·rename_i e;rw [if_neg e] at h
   split
   ·rename_i e;rw [if_pos e] at h
    split<;>rename_i e2
    ·rw [if_pos e2] at h;exact drp_id h
    ·rw [if_neg e2] at h;exact drp_id h
   ·rename_i e;rw [if_neg e] at h
    split<;>rename_i e2
    ·rw [if_pos e2] at h;exact drp_id h
    ·rw [if_neg e2] at h;exact drp_id h
def RwOk(names:List Str)(m many:Int):Rw->Prop
 |.put x k=>x∈names/\0<=k/\k<m
 |.take x i=>x∈names/\0<=i/\i<many
 |.pick x y=>x∈names/\y∈names/\0<many
 |.two w x y z=>(w="sum"\/w="by"\/w="less"\/w="same")/\x∈names/\y∈names/\z∈names
 |_=>False
structure NOk(names:List Str)(m:Int)(n:hG):Prop where
 keys:n.map (·.1)=names
 rng:∀p∈n,0<=p.2/\p.2<m
theorem NOk.at{names:List Str}{m:Int}{n:hG}(h:NOk names m n){x:Str}(hx:x∈names):gN n x=some (nm n x)/\0<=nm n x/\nm n x<m:=by
 have e:gN n x=some (nm n x):=Bw (by rw [h.keys];exact hx)
 refine ⟨e,?_⟩;unfold gN at e;obtain ⟨p,hp,hv⟩:=IC.mp e;rw [<- hv];exact h.rng p (List.mem_of_find?_eq_some hp)
theorem Ae{w:Str}{y z m:Int}(h2:2<=m):0<=Ao w y z m/\Ao w y z m<m:=by
 unfold Ao;have a1:=I0 (y+z) (show m≠0 by lia)
 have a2:=IF (y+z) (show 0<m by lia)
 have a3:=I0 (y*z) (show m≠0 by lia)
 have a4:=IF (y*z) (show 0<m by lia)
 repeat' split
 all_goals lia
structure COk(c:Cf):Prop where
 m2:2<=c.m
 m1:c.m<=997
 rng:∀v∈c.pieces,0<=v/\v<c.m
 few:c.pieces.length<=1000
 most:c.most<=10000
theorem COk.piece{c:Cf}(h:COk c){i:Nat}(hi:i<c.pieces.length):c.pieces[i]?=some ((c.pieces[i]?).getD 0)/\0<=(c.pieces[i]?).getD 0/\(c.pieces[i]?).getD 0<c.m:=by
 rw [GG hi];exact ⟨rfl,h.rng _ (KA hi)⟩
theorem AU{c:Cf}(h:COk c){names:List Str}{n:hG}(hn:NOk names c.m n){r:Rw}(hr:RwOk names c.m c.pieces.length r):0<=num c n r/\num c n r<c.m:=by
 cases r with
 |put x k=>exact hr.2
 |take x i=>exact (h.piece (i:=i.toNat) (by have:=hr.2;lia)).2
 |pick x y=>
  have h0:=hr.2.2;have h1:=I0 (nm n y) (show (c.pieces.length:Int)≠0 by lia)
  have h2:=IF (nm n y) h0;exact (h.piece (i:=(nm n y % (c.pieces.length:Int)).toNat) (by lia)).2
 |two w x y z=>exact Ae h.m2
 |ifr=>exact hr.elim
 |again=>exact hr.elim
def planD(c:Cf)(names:List Str)(rows:List Rw)(mk:Str):D:=.tup [.int c.m,.tup (names.map D.str),.int (c.pieces.length:Nat),.tup (aK rows),.str mk]
theorem d8{ad:Ad}{M:Mem}{Q:DK}{E:DX}{c:Cf}{names:List Str}{rows:List Rw}{mk:Str}{dn:Addr}{n:hG}{r:Rw}(hn:NOk names c.m n)(hr:RwOk names c.m c.pieces.length r)(hd:M dn=some (.dK (kvD n)))
  (h:Q (match r with|.take _ i=>.int i|.pick _ y=>.int (nm n y % (c.pieces.length:Int))|_=>.non) M):sj ad [planD c names rows mk,.ref dn,r.d] M Q E:=by
 cases r with
 |put x k=>(simp! [r_,ik,planD,Rw.d,atI_0,atI_2];exact drp_id h)
 |take x i=>(simp! [r_,ik,planD,Rw.d,atI_0,atI_2];exact drp_id h)
 |pick x y=>
  simp! [r_,ik,planD,Rw.d,atI_0,atI_2,hd,cS,(hn.at hr.2.1).1,Ib];exact ⟨hr.2.2,drp_id h⟩
 |two w x y z=>
  obtain ⟨hw,_⟩:=hr;rcases hw with rfl|rfl|rfl|rfl<;>(simp! [r_,ik,planD,Rw.d,atI_0,atI_2];exact drp_id h)
 |ifr=>exact hr.elim
 |again=>exact hr.elim
theorem jW{ad:Ad}{M:Mem}{Q:DK}{E:DX}{c:Cf}{names:List Str}{rows:List Rw}{mk:Str}{dn:Addr}{n:hG}{r:Rw}(hc:COk c)(hn:NOk names c.m n)(hr:RwOk names c.m c.pieces.length r)(hd:M dn=some (.dK (kvD n)))
  (h:Q (.int (num c n r)) M):oY ad [planD c names rows mk,.ref dn,.tup (c.pieces.map D.int),r.d] M Q E:=by
 have hm1:=hc.m1;have hm2:=hc.m2;cases r with
 |put x k=>
  simp! [tM,ij,planD,Rw.d,atI_0,atI_2];exact drp_id h
 |take x i=>
  have hr':=hr;obtain ⟨hx,h0,h1⟩:=hr';have hp:=hc.piece (i:=i.toNat) (by lia)
  have e1:(c.pieces.map D.int)[i.toNat]?=some (.int (num c n (.take x i))):=by rw [GU,hp.1];rfl
  simp! [tM,ij,planD,Rw.d,atI_0,atI_2];refine bt (d:=.int i) (fun _ _ q=>d8 (c:=c) (names:=names) (rows:=rows) (mk:=mk) (r:=.take x i) hn hr hd q) ?_;simp! [cr h0,e1];exact drp_id h
 |pick x y=>
  have hr':=hr;obtain ⟨hx,hy,h0⟩:=hr';have g0:=I0 (nm n y) (show (c.pieces.length:Int)≠0 by lia)
  have g1:=IF (nm n y) h0;have hp:=hc.piece (i:=(nm n y % (c.pieces.length:Int)).toNat) (by lia)
  have e1:(c.pieces.map D.int)[(nm n y % (c.pieces.length:Int)).toNat]?=some (.int (num c n (.pick x y))):=by rw [GU,hp.1];rfl
  simp! [tM,ij,planD,Rw.d,atI_0,atI_2];refine bt (d:=.int (nm n y % (c.pieces.length:Int))) (fun _ _ q=>d8 (c:=c) (names:=names) (rows:=rows) (mk:=mk) (r:=.pick x y) hn hr hd q) ?_;simp! [cr g0,e1];exact drp_id h
 |two w x y z=>
  have hr':=hr;obtain ⟨hw,hx,hy,hz⟩:=hr';have a1:=hn.at hy;have a2:=hn.at hz;have hw1:((w=Hy "put")=False):=by rcases hw with rfl|rfl|rfl|rfl<;>exact eq_false (by decide +kernel)
  simp! [tM,ij,planD,Rw.d,atI_0,atI_2,hw1];refine bt (d:=.non) (fun _ _ q=>d8 (c:=c) (names:=names) (rows:=rows) (mk:=mk) (r:=.two w x y z) hn hr hd q) ?_;simp! [atI_0,atI_2,atI_3,hd,cS,a1.1,a2.1,Ib];exact bt (d:=.int (num c n (.two w x y z))) (fun _ _ q=>oy (by lia) (by lia) (by lia) q) (drp_id h)
 |ifr=>exact hr.elim
 |again=>exact hr.elim
structure Wk where
 a:Addr
 dn:Addr
 ls:Addr
 h1:a≠dn
 h2:a≠ls
 h3:dn≠ls
def plD(l:List Int):D:=.tup (l.map D.int)
def BE(l:List (List Int×Int)):List D:=l.map fun p=>.tup [plD p.1,.int p.2]
def wM(ad:Ad)(k:Wk)(c:Cf)(pD:D)(s:Sx)(M:Mem):Mem:=
 ((M.upd k.a (.ins ad.C_Walk [("plan",pD),("numbers",.ref k.dn),("pieces",.tup (c.pieces.map D.int)),("most",.int (c.most:Nat)),("steps",.ref k.ls)])).upd k.dn (.dK (kvD s.nums))).upd k.ls (.lst (BE s.steps))
section
variable {ad:Ad}{k:Wk}{c:Cf}{pD:D}{s:Sx}{M:Mem}
theorem wM_a:wM ad k c pD s M k.a=some (.ins ad.C_Walk [("plan",pD),("numbers",.ref k.dn),("pieces",.tup (c.pieces.map D.int)),("most",.int (c.most:Nat)),("steps",.ref k.ls)]):=by
 unfold wM;rw [ai k.h2,ai k.h1,Mem.upd_same]
theorem k7:wM ad k c pD s M k.dn=some (.dK (kvD s.nums)):=by unfold wM;rw [ai k.h3,Mem.upd_same]
theorem Bv:wM ad k c pD s M k.ls=some (.lst (BE s.steps)):=by unfold wM;rw [Mem.upd_same]
theorem vq{x:List (List Int×Int)}:(wM ad k c pD s M).upd k.ls (.lst (BE x))=wM ad k c pD ⟨s.nums,x⟩ M:=by unfold wM;rw [Mem.upd_upd]
theorem At{x:hG}:(wM ad k c pD s M).upd k.dn (.dK (kvD x))=wM ad k c pD ⟨x,s.steps⟩ M:=by
 unfold wM;rw [bb (Hw k.h3),Mem.upd_upd]
theorem lf0:Hu ("plan":Str) [(("plan":Str),x0),(("numbers":Str),x1),(("pieces":Str),x2),(("most":Str),x3),(("steps":Str),x4)]=some (x0:D):=rfl
theorem yw:Hu ("numbers":Str) [(("plan":Str),x0),(("numbers":Str),x1),(("pieces":Str),x2),(("most":Str),x3),(("steps":Str),x4)]=some (x1:D):=rfl
theorem lf2:Hu ("pieces":Str) [(("plan":Str),x0),(("numbers":Str),x1),(("pieces":Str),x2),(("most":Str),x3),(("steps":Str),x4)]=some (x2:D):=rfl
theorem lf3:Hu ("most":Str) [(("plan":Str),x0),(("numbers":Str),x1),(("pieces":Str),x2),(("most":Str),x3),(("steps":Str),x4)]=some (x3:D):=rfl
theorem lf4:Hu ("steps":Str) [(("plan":Str),x0),(("numbers":Str),x1),(("pieces":Str),x2),(("most":Str),x3),(("steps":Str),x4)]=some (x4:D):=rfl
theorem lfm:Hu ("note_step":Str) [(("plan":Str),x0),(("numbers":Str),x1),(("pieces":Str),x2),(("most":Str),x3),(("steps":Str),x4)]=(none:Option D):=rfl
theorem lfl:Hu ("look":Str) [(("plan":Str),x0),(("numbers":Str),x1),(("pieces":Str),x2),(("most":Str),x3),(("steps":Str),x4)]=(none:Option D):=rfl
theorem fg{Q:DK}{E:DX}{pl:List Int}{v:Int}(hc:c.most<=10000)(h1:(nt c pl v s).1=true->Q .non (wM ad k c pD (nt c pl v s).2 M))(h2:(nt c pl v s).1=false->E ad.C_Dry (wM ad k c pD (nt c pl v s).2 M)):
  ql ad [.ref k.a,plD pl,.int v] (wM ad k c pD s M) Q E:=by
 unfold nt at h1 h2;simp! [u_q5,wm,wM_a,Bv,lf3,lf4,BE,GF]
 split
 ·rename_i e
  have:¬s.steps.length<c.most:=by lia
  rw [if_neg this] at h2;exact dU (h2 rfl)
 ·rename_i e
  have hl:s.steps.length<c.most:=by lia
  rw [if_pos hl] at h1;refine ⟨szl (by decide),g_ (by lia),drp_id ?_⟩
  have:=h1 rfl;rw [<- vq] at this;simpa [BE] using this
end
end Tw
namespace L3
open PySem L2
def jX:Nat->List D->List D
 |_,[]=>[]
 |k,x::xs=>.tup [.int (k:Nat),x]::jX (k+1) xs
theorem pE:∀(xs:List D) (k:Nat),(xs.zipIdx k).map (fun p=>D.tup [.int (p.2:Nat),p.1])=jX k xs
 |[],_=>rfl
 |x::xs,k=>by rw [Kx,GR,pE xs (k+1)];rfl
theorem enumD_eq(xs:List D):oZ xs=jX 0 xs:=pE xs 0
theorem bQ{xs:List D}{M:Mem}:DIt.ok ⟨xs,[]⟩ M:=fun _ h=>by cases h
end L3
namespace Tw
open PySem L2 L3
mutual
def OkR(names:List Str)(m many:Int):Rw->Prop
 |.ifr x a b=>x∈names/\cN names m many a/\cN names m many b
 |.again x a=>x∈names/\cN names m many a
 |.put x k=>RwOk names m many (.put x k)
 |.take x k=>RwOk names m many (.take x k)
 |.pick x k=>RwOk names m many (.pick x k)
 |.two w x y z=>RwOk names m many (.two w x y z)
def cN(names:List Str)(m many:Int):List Rw->Prop
 |[]=>True
 |r::rs=>OkR names m many r/\cN names m many rs
end
mutual
def hR:Rw->Nat
 |.ifr _ a b=>1+max (fO a) (fO b)
 |.again _ a=>1+fO a
 |_=>0
def fO:List Rw->Nat
 |[]=>0
 |r::rs=>max (hR r) (fO rs)
end
section
variable {c:Cf}{names:List Str}
theorem Gb{n:hG}(hn:NOk names c.m n){x:Str}{v:Int}(hv:0<=v/\v<c.m):NOk names c.m (sN n x v):=by
 refine ⟨by rw [B7];exact hn.keys,fun p hp=>?_⟩
 simp only [sN,Hc] at hp;obtain ⟨q,hq,rfl⟩:=hp
 split
 ·exact hv
 ·exact hn.rng q hq
theorem iR{pl:List Int}{v:Int}{s:Sx}:(nt c pl v s).2.nums=s.nums:=by unfold nt;split<;>rfl
theorem j8(hc:COk c){r:Rw}(hr:RwOk names c.m c.pieces.length r){pl:List Int}{s:Sx}(hn:NOk names c.m s.nums):NOk names c.m (eD c r pl s).2.nums:=by
 unfold eD
 split
 ·exact Gb hn (AU hc hn hr)
 ·exact hn
theorem sQ{x:Str}{pl:List Int}{body:Nat->Sx->Bool×Sx}(hb:∀t s,NOk names c.m s.nums->NOk names c.m (body t s).2.nums):∀(f t:Nat) (s:Sx),NOk names c.m s.nums->NOk names c.m (bT c x pl body f t s).2.nums
 |0,_,s,h=>h
 |f+1,t,s,h=>by
  have h1:NOk names c.m (nt c (pl++[(t:Int)]) (lk s.nums x) s).2.nums:=by rw [iR];exact h
  unfold bT
  split
  ·split
   ·split
    ·exact sQ hb f (t+1) _ (hb t _ h1)
    ·exact hb t _ h1
   ·exact h1
  ·exact h1
mutual
theorem m7(hc:COk c):∀(r:Rw),OkR names c.m c.pieces.length r->∀(pl:List Int) (s:Sx),NOk names c.m s.nums->NOk names c.m (exR c r pl s).2.nums
 |.ifr x a b,h,pl,s,hn=>by
  have h1:NOk names c.m (nt c pl (lk s.nums x) s).2.nums:=by rw [iR];exact hn
  simp only [OkR] at h;unfold exR
  split
  ·split
   ·exact cQ hc a h.2.1 _ _ _ h1
   ·exact cQ hc b h.2.2 _ _ _ h1
  ·exact h1
 |.again x a,h,pl,s,hn=>by
  simp only [OkR] at h;unfold exR;exact sQ (fun t s hs=>cQ hc a h.2 _ _ _ hs) _ _ _ hn
 |.put x k,h,pl,s,hn=>by rw [br rfl];exact j8 hc (by simpa only [OkR] using h) hn
 |.take x k,h,pl,s,hn=>by rw [br rfl];exact j8 hc (by simpa only [OkR] using h) hn
 |.pick x k,h,pl,s,hn=>by rw [br rfl];exact j8 hc (by simpa only [OkR] using h) hn
 |.two w x y z,h,pl,s,hn=>by rw [br rfl];exact j8 hc (by simpa only [OkR] using h) hn
theorem cQ(hc:COk c):∀(rs:List Rw),cN names c.m c.pieces.length rs->∀(pl:List Int) (j:Nat) (s:Sx),NOk names c.m s.nums->NOk names c.m (bv c rs pl j s).2.nums
 |[],_,_,_,s,hn=>by simpa only [bv] using hn
 |r::rs,h,pl,j,s,hn=>by
  simp only [cN] at h;unfold bv
  split
  ·exact cQ hc rs h.2 _ _ _ (m7 hc r h.1 _ _ hn)
  ·exact m7 hc r h.1 _ _ hn
end
end
def Post(ad:Ad)(k:Wk)(c:Cf)(pD:D)(r:Bool×Sx)(M:Mem)(d:D)(Q:DK)(E:DX):Prop:=(r.1=true->Q d (wM ad k c pD r.2 M))/\(r.1=false->E ad.C_Dry (wM ad k c pD r.2 M))
theorem calls_post{ad:Ad}{k:Wk}{c:Cf}{pD:D}{r:Bool×Sx}{M M0:Mem}{d:D}{T:Sd}{ds:List D}{Q:DK}{E:DX}(hm:∀Q' E',Post ad k c pD r M d Q' E'->T ds M0 Q' E'){b:BxQ E Q}(h:Post ad k c pD r M d Q E):calls T E ds M0 Q b:=
 calls_of fun Q' E' hq he=>hm Q' E' ⟨fun e=>hq _ _ (h.1 e),fun e=>he _ _ (h.2 e)⟩
theorem Post.drp{ad:Ad}{k:Wk}{c:Cf}{pD:D}{r:Bool×Sx}{M:Mem}{d:D}{Q:DK}{E:DX}(h:Post ad k c pD r M d Q E):Post ad k c pD r M d (L3.drp Q) (aU E):=⟨fun e=>drp_id (h.1 e),fun e=>dU (h.2 e)⟩
section
variable {ad:Ad}{k:Wk}{c:Cf}{s:Sx}{M:Mem}{names:List Str}{rows0:List Rw}{mk:Str}
theorem kF{Q:DK}{E:DX}{pl:List Int}{x:Str}(hc:COk c)(hn:NOk names c.m s.nums)(hx:x∈names)(h:Post ad k c (planD c names rows0 mk) (nt c pl (lk s.nums x) s) M (.int (lk s.nums x)) Q E):
  ld ad [.ref k.a,plD pl,.str x] (wM ad k c (planD c names rows0 mk) s M) Q E:=by
 have hv:=hn.at hx;have key:∀v:Int,v=lk s.nums x->calls (ql ad) (aU E) [.ref k.a,plD pl,.int v] (wM ad k c (planD c names rows0 mk) s M) (fun _ M1=>L3.drp Q (.int v) M1) ⟨⟩:=by
  rintro v rfl
  exact calls_post (d:=.non) (fun Q' E' z=>fg hc.most z.1 z.2) ⟨fun e=>drp_id (h.1 e),fun e=>dU (h.2 e)⟩
 simp! [FD,nR,wM_a,k7,yw,lfm,cS,hv.1,Ib]
 split
 ·rename_i e
  exact key 0 (by unfold lk;rw [if_pos e])
 ·rename_i e
  exact key 1 (by unfold lk;rw [if_neg e])
theorem dj{n:Nat}{Q:DK}{E:DX}{pl:List Int}{r:Rw}(hnl:names.length<=1000)(hc:COk c)(hn:NOk names c.m s.nums)(hr:RwOk names c.m c.pieces.length r)(h:Post ad k c (planD c names rows0 mk) (eD c r pl s) M .non Q E):
  Ms ad (n+1) [.ref k.a,r.d,plD pl] (wM ad k c (planD c names rows0 mk) s M) Q E:=by
 have fin:calls (oY ad) (aU E) [planD c names rows0 mk,.ref k.dn,.tup (c.pieces.map D.int),r.d] (wM ad k c (planD c names rows0 mk) s M) (fun d M'=>frz d M' fun x M1=>
   ap 3 x [some (.ref k.a),some r.d,some (plD pl),none] M1 fun δ M2=>aw (bZ (dY ad.C_Walk "note_step" (ql ad) (aU E) 3 (aa 0) (a9 (aa 2) (a9 (aa 3) dNil))))
    (aE (aa 3) (fc (dl ad.C_Walk (aa 0) "numbers") (au aO (aa 1) (dC (.int 1))))) { nx:=fun _ M'=>L3.drp Q .non M',rt:=L3.drp Q } δ M2) ⟨⟩:=by
  refine bt (d:=.int (num c s.nums r)) (fun _ _ q=>jW hc hn hr k7 q) ?_;simp! [wM_a,lfm];refine calls_post (r:=nt c pl (num c s.nums r) s) (d:=.non) (fun Q' E' z=>fg hc.most z.1 z.2) ?_;unfold eD at h;unfold nt;have hkeys:pK r∈s.nums.map (·.1):=by
   rw [hn.keys];cases r with
   |put x k=>exact hr.1
   |take x k=>exact hr.1
   |pick x k=>exact hr.1
   |two w x y z=>exact hr.2.1
   |ifr=>exact hr.elim
   |again=>exact hr.elim
  split
  ·rename_i hl
   rw [if_pos hl] at h;refine ⟨fun _=>?_,fun e=>by simp at e⟩
   have h2:=h.1 rfl;have e2:wM ad k c (planD c names rows0 mk) ⟨sN s.nums (pK r) (num c s.nums r),s.steps++[(pl,num c s.nums r)]⟩ M=(wM ad k c (planD c names rows0 mk) ⟨s.nums,s.steps++[(pl,num c s.nums r)]⟩ M).upd k.dn (.dK (cX (kvD s.nums) (GQ (pK r)) (.int (num c s.nums r)))):=by
    rw [je hkeys,At]
   rw [e2] at h2;have hlen:(kvD s.nums).length<sizeLine:=by rw [kvD,GF,<- GF (f:=(·.1)),hn.keys];exact g_ (by lia)
   cases r with
   |put x kk=>simp! [Rw.d,wM_a,k7,yw,atI_1];exact ⟨hlen,drp_id h2⟩
   |take x kk=>simp! [Rw.d,wM_a,k7,yw,atI_1];exact ⟨hlen,drp_id h2⟩
   |pick x kk=>simp! [Rw.d,wM_a,k7,yw,atI_1];exact ⟨hlen,drp_id h2⟩
   |two w x y z=>simp! [Rw.d,wM_a,k7,yw,atI_1];exact ⟨hlen,drp_id h2⟩
   |ifr=>exact hr.elim
   |again=>exact hr.elim
  ·rename_i hl
   rw [if_neg hl] at h;exact ⟨fun e=>by simp at e,fun _=>dU (h.2 rfl)⟩
 cases r with
 |put x kk=>simp! [kU,fX,Rw.d,wM_a,lf0,yw,lf2,atI_0];exact fin
 |take x kk=>simp! [kU,fX,Rw.d,wM_a,lf0,yw,lf2,atI_0];exact fin
 |pick x kk=>simp! [kU,fX,Rw.d,wM_a,lf0,yw,lf2,atI_0];exact fin
 |two w x y z=>
  have hw1:((w=Hy "if")=False):=by rcases hr.1 with rfl|rfl|rfl|rfl<;>exact eq_false (by decide +kernel)
  have hw2:((w=Hy "again")=False):=by rcases hr.1 with rfl|rfl|rfl|rfl<;>exact eq_false (by decide +kernel)
  simp! [kU,fX,Rw.d,wM_a,lf0,yw,lf2,atI_0,hw1,hw2];exact fin
 |ifr=>exact hr.elim
 |again=>exact hr.elim
end
end Tw
namespace Tw
open PySem L2 L3
section
variable {c:Cf}
def Gr(c:Cf)(s s':Sx):Prop:=s.steps.length<=s'.steps.length/\(s.steps.length<=c.most->s'.steps.length<=c.most)
theorem Gr.refl{s:Sx}:Gr c s s:=⟨GO _,id⟩
theorem Gr.trans{s s1 s2:Sx}(a:Gr c s s1)(b:Gr c s1 s2):Gr c s s2:=⟨Hd a.1 b.1,fun h=>b.2 (a.2 h)⟩
theorem nt_gr{pl:List Int}{v:Int}{s:Sx}:Gr c s (nt c pl v s).2:=by
 unfold nt
 split
 ·refine ⟨by simp,fun _=>?_⟩;simp;lia
 ·exact Gr.refl
theorem jk{r:Rw}{pl:List Int}{s:Sx}:Gr c s (eD c r pl s).2:=by
 unfold eD
 split
 ·refine ⟨by simp,fun _=>?_⟩;simp;lia
 ·exact Gr.refl
theorem u3{x:Str}{pl:List Int}{body:Nat->Sx->Bool×Sx}(hb:∀t s,Gr c s (body t s).2):∀(f t:Nat) (s:Sx),Gr c s (bT c x pl body f t s).2
 |0,_,s=>Gr.refl
 |f+1,t,s=>by
  unfold bT
  split
  ·split
   ·split
    ·exact nt_gr.trans ((hb t _).trans (u3 hb f (t+1) _))
    ·exact nt_gr.trans (hb t _)
   ·exact nt_gr
  ·exact nt_gr
mutual
theorem jJ:∀(r:Rw) (pl:List Int) (s:Sx),Gr c s (exR c r pl s).2
 |.ifr x a b,pl,s=>by
  unfold exR
  split
  ·split
   ·exact nt_gr.trans (cE a _ _ _)
   ·exact nt_gr.trans (cE b _ _ _)
  ·exact nt_gr
 |.again x a,pl,s=>by
  unfold exR;exact u3 (fun t s=>cE a _ _ _) _ _ _
 |.put x k,pl,s=>by rw [br rfl];exact jk
 |.take x k,pl,s=>by rw [br rfl];exact jk
 |.pick x k,pl,s=>by rw [br rfl];exact jk
 |.two w x y z,pl,s=>by rw [br rfl];exact jk
theorem cE:∀(rs:List Rw) (pl:List Int) (j:Nat) (s:Sx),Gr c s (bv c rs pl j s).2
 |[],_,_,s=>by unfold bv;exact Gr.refl
 |r::rs,pl,j,s=>by
  unfold bv
  split
  ·exact (jJ r _ _).trans (cE rs _ _ _)
  ·exact jJ r _ _
end
end
theorem fD{pl:List Int}{v:Int}:D.tup (pl.map D.int++[D.int v])=plD (pl++[v]):=by simp [plD]
section
variable {ad:Ad}{k:Wk}{c:Cf}{names:List Str}{rows0:List Rw}{mk:Str}
def sg(ad:Ad)(k:Wk)(c:Cf)(names:List Str)(rows0:List Rw)(mk:Str)(n:Nat):Prop:=∀(rs:List Rw) (pl:List Int) (s:Sx) (M:Mem) (Q:DK) (E:DX),cN names c.m c.pieces.length rs->3*fO rs+2<=n->pl.length+2*fO rs+2<=1000->NOk names c.m s.nums->s.steps.length<=c.most->
 Post ad k c (planD c names rows0 mk) (bv c rs pl 0 s) M .non Q E->Mr ad n [.ref k.a,.tup (aK rs),plD pl] (wM ad k c (planD c names rows0 mk) s M) Q E
def D_(ad:Ad)(k:Wk)(c:Cf)(names:List Str)(rows0:List Rw)(mk:Str)(n:Nat):Prop:=∀(r:Rw) (pl:List Int) (s:Sx) (M:Mem) (Q:DK) (E:DX),OkR names c.m c.pieces.length r->3*hR r+1<=n->pl.length+2*hR r+1<=1000->NOk names c.m s.nums->s.steps.length<=c.most->
 Post ad k c (planD c names rows0 mk) (exR c r pl s) M .non Q E->Ms ad n [.ref k.a,r.d,plD pl] (wM ad k c (planD c names rows0 mk) s M) Q E
def PIf(ad:Ad)(k:Wk)(c:Cf)(names:List Str)(rows0:List Rw)(mk:Str)(n:Nat):Prop:=∀(x:Str) (a b:List Rw) (pl:List Int) (s:Sx) (M:Mem) (Q:DK) (E:DX),OkR names c.m c.pieces.length (.ifr x a b)->3*hR (.ifr x a b)<=n->pl.length+2*hR (.ifr x a b)+1<=1000->NOk names c.m s.nums->s.steps.length<=c.most->
 Post ad k c (planD c names rows0 mk) (exR c (.ifr x a b) pl s) M .non Q E->Mu ad n [.ref k.a,(Rw.ifr x a b).d,plD pl] (wM ad k c (planD c names rows0 mk) s M) Q E
def PAg(ad:Ad)(k:Wk)(c:Cf)(names:List Str)(rows0:List Rw)(mk:Str)(n:Nat):Prop:=∀(x:Str) (a:List Rw) (pl:List Int) (s:Sx) (M:Mem) (Q:DK) (E:DX),OkR names c.m c.pieces.length (.again x a)->3*hR (.again x a)<=n->pl.length+2*hR (.again x a)+1<=1000->NOk names c.m s.nums->s.steps.length<=c.most->
 Post ad k c (planD c names rows0 mk) (exR c (.again x a) pl s) M .non Q E->Mv ad n [.ref k.a,(Rw.again x a).d,plD pl] (wM ad k c (planD c names rows0 mk) s M) Q E
theorem uV(hc:COk c){n:Nat}(ih:D_ ad k c names rows0 mk n):sg ad k c names rows0 mk (n+1):=by
 intro rs pl s M Q E hok hn hpl hno hst h;simp! [TJ,OB,dFor,enumD_eq]
 refine forD_inv (fun xs δ M'=>∃(rs':List Rw) (j:Nat) (s':Sx) (c3 c4:Option D),xs=jX j (aK rs')/\δ=[some (.ref k.a),some (.tup (aK rs)),some (plD pl),c3,c4]/\M'=wM ad k c (planD c names rows0 mk) s' M/\cN names c.m c.pieces.length rs'/\3*fO rs'+2<=n+1/\pl.length+2*fO rs'+2<=1000/\NOk names c.m s'.nums/\s'.steps.length<=c.most/\
  Post ad k c (planD c names rows0 mk) (bv c rs' pl j s') M .non Q E) (fun _ _ _ _=>bQ) ?_ ?_ _ _ _ ⟨rs,0,s,none,none,rfl,rfl,rfl,hok,hn,hpl,hno,hst,h⟩
 ·rintro δ M' ⟨rs',j,s',c3,c4,e1,rfl,rfl,hok,hn,hpl,hno,hst,h⟩
  cases rs' with
  |nil=>exact drp_id (by simpa [bv] using h.1 (by simp [bv]))
  |cons r rs=>simp [aK,jX] at e1
 ·rintro x xs δ M' ⟨rs',j,s',c3,c4,e1,rfl,rfl,hok,hn,hpl,hno,hst,h⟩ D' hnx _ _ _
  cases rs' with
  |nil=>simp [aK,jX] at e1
  |cons r rs'=>
   simp only [aK,jX,IQ] at e1;obtain ⟨rfl,rfl⟩:=e1;simp only [cN] at hok;have h1:hR r<=fO (r::rs')/\fO rs'<=fO (r::rs'):=by simp only [fO];lia
   simp! [plD,GP,GF];refine ⟨szl (by decide),szl (by lia),?_⟩
   rw [fD];refine calls_post (r:=exR c r (pl++[(j:Int)]) s') (d:=.non) (fun Q' E' z=>ih r (pl++[(j:Int)]) s' M Q' E' hok.1 (by lia) (by simp;lia) hno hst z) ?_
   simp only [bv] at h;cases hb:(exR c r (pl++[(j:Int)]) s').1 with
   |true=>
    rw [if_pos hb] at h;refine ⟨fun _=>hnx _ _ ⟨rs',j+1,_,_,_,rfl,rfl,rfl,hok.2,by lia,by lia,m7 hc r hok.1 _ _ hno,(jJ r _ _).2 hst,h⟩,fun e=>by rw [hb] at e;cases e⟩
   |false=>
    rw [if_neg (by rw [hb];simp)] at h
    exact ⟨fun e=>(by rw [hb] at e;cases e),fun _=>dU (h.2 hb)⟩
theorem vz(hnl:names.length<=1000)(hc:COk c){n:Nat}(ihf:PIf ad k c names rows0 mk n)(iha:PAg ad k c names rows0 mk n):D_ ad k c names rows0 mk (n+1):=by
 intro r pl s M Q E hok hn hpl hno hst h;cases r with
 |put x kk=>rw [br rfl] at h;exact dj hnl hc hno (by simpa only [OkR] using hok) h
 |take x kk=>rw [br rfl] at h;exact dj hnl hc hno (by simpa only [OkR] using hok) h
 |pick x kk=>rw [br rfl] at h;exact dj hnl hc hno (by simpa only [OkR] using hok) h
 |two w x y z=>rw [br rfl] at h;exact dj hnl hc hno (by simpa only [OkR] using hok) h
 |ifr x a b=>
  have hf:=fun Q' E' z=>ihf x a b pl s M Q' E' hok (by lia) hpl hno hst z
  simp only [Rw.d] at hf;simp! [kU,fX,Rw.d,atI_0];exact calls_post hf h.drp
 |again x a=>
  have hf:=fun Q' E' z=>iha x a pl s M Q' E' hok (by lia) hpl hno hst z
  simp only [Rw.d] at hf;simp! [kU,fX,Rw.d,atI_0];exact calls_post hf h.drp
theorem AF(hc:COk c){n:Nat}(ih:sg ad k c names rows0 mk n):PIf ad k c names rows0 mk (n+1):=by
 intro x a b pl s M Q E hok hn hpl hno hst h;simp only [OkR] at hok;simp only [hR] at hn hpl;simp! [TK,OC,Rw.d,wM_a,lfl,atI_1,atI_2,atI_3];refine calls_post (r:=nt c pl (lk s.nums x) s) (d:=.int (lk s.nums x)) (fun Q' E' z=>kF hc hno hok.1 z) ?_;have hl:lk s.nums x=0\/lk s.nums x=1:=by unfold lk;split<;>simp
 have hno1:NOk names c.m (nt c pl (lk s.nums x) s).2.nums:=by rw [iR];exact hno
 have hst1:=(nt_gr (c:=c) (pl:=pl) (v:=lk s.nums x) (s:=s)).2 hst;unfold exR at h;cases hb:(nt c pl (lk s.nums x) s).1 with
 |false=>
  rw [if_neg (by rw [hb];simp)] at h
  exact ⟨fun e=>(by rw [hb] at e;cases e),fun _=>dU (h.2 hb)⟩
 |true=>
  rw [if_pos hb] at h;refine ⟨fun _=>?_,fun e=>by rw [hb] at e;cases e⟩
  rcases hl with hl|hl
  ·rw [if_neg (by rw [hl];decide)] at h
   rw [hl] at h hno1 hst1 ⊢;simp! [atI_2,atI_3,plD,GP,GF,show ((0:Int)=1)=False from eq_false (by decide)]
   refine ⟨szl (by decide),szl (by lia),?_⟩
   rw [fD];exact calls_post (fun Q' E' z=>ih b (pl++[0]) _ M Q' E' hok.2.2 (by lia) (by simp;lia) hno1 hst1 z) h.drp
  ·rw [if_pos hl] at h
   rw [hl] at h hno1 hst1 ⊢;simp! [atI_2,atI_3,plD,GP,GF];refine ⟨szl (by decide),szl (by lia),?_⟩
   rw [fD];exact calls_post (fun Q' E' z=>ih a (pl++[1]) _ M Q' E' hok.2.1 (by lia) (by simp;lia) hno1 hst1 z) h.drp
end
end Tw
namespace Tw
open PySem L2 L3
section
variable {ad:Ad}{k:Wk}{c:Cf}{names:List Str}{rows0:List Rw}{mk:Str}
theorem qJ(hc:COk c){n:Nat}(ih:sg ad k c names rows0 mk n):PAg ad k c names rows0 mk (n+1):=by
 intro x a pl s M Q E hok hn hpl hno hst h;simp only [OkR] at hok;simp only [hR] at hn hpl;simp! [TL,OD,Rw.d,dWhile];refine ⟨c.most+1,?_⟩;unfold exR at h
 have key:∀(f t:Nat) (s:Sx) (tc:fb) (tb:aG) (DD:DEnds) (b:BxW tc tb DD),NOk names c.m s.nums->s.steps.length<=c.most->c.most<s.steps.length+f->
   tc=aL (au eJ (aB (dY ad.C_Walk "look" (ld ad) (aU E) 3 (aa 0) (a9 (au bR (aa 2) (bJ (a9 (aa 3) dNil))) (a9 (au aO (aa 1) (dC (.int 1))) dNil)))) (dC (.int 1)))->
   tb=aw (bZ (aA (Mr ad n) (aU E) 3 (a9 (aa 0) (a9 (au aO (aa 1) (dC (.int 2))) (a9 (au bR (aa 2) (bJ (a9 (aa 3) dNil))) dNil))))) (uk 3 (dC (.int 1)) nL)->
   DD.nx=(fun _ M'=>L3.drp Q .non M')->
   Post ad k c (planD c names rows0 mk) (bT c x pl (fun t s=>bv c a (pl++[(t:Int)]) 0 s) f t s) M .non Q E->
   whileD tc tb DD b f [some (.ref k.a),some (.tup [.str "again",.str x,.tup (aK a)]),some (plD pl),some (.int (t:Int))] (wM ad k c (planD c names rows0 mk) s M):=by
  intro f
  induction f with
  |zero=>intro t s tc tb DD b hno hst hf;lia
  |succ f ihf=>
   intro t s tc tb DD b hno hst hf htc htb hDD h;unfold whileD;subst htc;simp! [wM_a,lfl,atI_1,plD,GP,GF];refine ⟨szl (by decide),szl (by lia),?_⟩
   rw [fD];refine calls_post (r:=nt c (pl++[(t:Int)]) (lk s.nums x) s) (d:=.int (lk s.nums x)) (fun Q' E' z=>kF hc hno hok.1 z) ?_;have hl:lk s.nums x=0\/lk s.nums x=1:=by unfold lk;split<;>simp
   have hno1:NOk names c.m (nt c (pl++[(t:Int)]) (lk s.nums x) s).2.nums:=by rw [iR];exact hno
   have hst1:=(nt_gr (c:=c) (pl:=pl++[(t:Int)]) (v:=lk s.nums x) (s:=s)).2 hst;unfold bT at h;cases hb:(nt c (pl++[(t:Int)]) (lk s.nums x) s).1 with
   |false=>
    rw [if_neg (by rw [hb];simp)] at h
    exact ⟨fun e=>(by rw [hb] at e;cases e),fun _=>dU (h.2 hb)⟩
   |true=>
    rw [if_pos hb] at h;refine ⟨fun _=>?_,fun e=>by rw [hb] at e;cases e⟩
    have hlen:(nt c (pl++[(t:Int)]) (lk s.nums x) s).2.steps.length=s.steps.length+1:=by
     unfold nt at hb ⊢
     split at hb
     ·rename_i q;rw [if_pos q];simp
     ·cases hb
    rcases hl with hl|hl
    ·rw [if_neg (by rw [hl];decide)] at h
     rw [hl] at h ⊢;simp! [show ((0:Int)=1)=False from eq_false (by decide)]
     rw [hDD];rw [hl] at hb;exact drp_id (h.1 hb)
    ·rw [if_pos hl] at h
     rw [hl] at h hno1 hst1 hlen ⊢;simp! [];subst htb;simp! [atI_2,plD,GP,GF];refine ⟨szl (by decide),szl (by lia),?_⟩
     rw [fD];refine calls_post (r:=bv c a (pl++[(t:Int)]) 0 (nt c (pl++[(t:Int)]) 1 s).2) (fun Q' E' z=>ih a (pl++[(t:Int)]) _ M Q' E' hok.2 (by lia) (by simp;lia) hno1 hst1 z) ?_
     have hg:=cE (c:=c) a (pl++[(t:Int)]) 0 (nt c (pl++[(t:Int)]) 1 s).2;cases hb2:(bv c a (pl++[(t:Int)]) 0 (nt c (pl++[(t:Int)]) 1 s).2).1 with
     |true=>
      rw [if_pos hb2] at h;refine ⟨fun _=>?_,fun e=>by rw [hb2] at e;cases e⟩
      simp! [];exact ihf (t+1) _ _ _ _ _ (cQ hc a hok.2 _ _ _ hno1) (hg.2 hst1) (by have:=hg.1;lia) rfl rfl hDD h
     |false=>
      rw [if_neg (by rw [hb2];simp)] at h
      exact ⟨fun e=>(by rw [hb2] at e;cases e),fun _=>dU (h.2 hb2)⟩
 exact key (c.most+1) 0 s _ _ _ _ hno hst (by lia) rfl rfl rfl h
theorem nU(hnl:names.length<=1000)(hc:COk c):∀n:Nat,sg ad k c names rows0 mk n/\D_ ad k c names rows0 mk n/\PIf ad k c names rows0 mk n/\PAg ad k c names rows0 mk n
 |0=>⟨fun rs pl s M Q E _ h=>by lia,fun r pl s M Q E _ h=>by lia,fun x a b pl s M Q E _ h=>by simp only [hR] at h;lia,fun x a pl s M Q E _ h=>by simp only [hR] at h;lia⟩
 |n+1=>by
  obtain ⟨h1,h2,h3,h4⟩:=nU hnl hc n;exact ⟨uV hc h2,vz hnl hc h3 h4,AF hc h1,qJ hc h1⟩
end
end Tw
namespace Tw
open PySem L2 L3
theorem nv:∀(names:List Str) (nums:List Int) (acc:hG),names.length=nums.length->(acc.map (·.1)++names).Nodup->
  ((names.map (fun x=>(GQ x:aP))).zip (nums.map D.int)).foldl (fun a p=>cX a p.1 p.2) (kvD acc)=kvD (acc++names.zip nums)
 |[],nums,acc,_,_=>by simp
 |x::names,[],acc,h,_=>by simp at h
 |x::names,v::nums,acc,h,nd=>by
  have hx:x∉acc.map (·.1):=by
   have:=(JD.mp nd).2.2;exact fun hm=>this x hm x (by simp) rfl
  have hany:((kvD acc).any fun kv=>decide (kv.1=GQ x))=false:=by
   rw [List.any_eq_false];intro p hp;simp only [kvD,Hc] at hp;obtain ⟨q,hq,rfl⟩:=hp;simp only [decide_eq_true_eq];intro e;have:q.1=x:=Lp e;exact hx (by rw [<- this];exact List.mem_map_of_mem hq)
  simp only [GR,Jr,Ir];have e1:cX (kvD acc) (GQ x) (.int v)=kvD (acc++[(x,v)]):=by
   unfold cX;rw [hany];simp [kvD]
  rw [e1,nv names nums (acc++[(x,v)]) (by simpa using h) (by simpa using nd)]
  simp
theorem keysOf_strs:∀names:List Str,eN (names.map D.str)=some (names.map fun x=>(GQ x:aP))
 |[]=>rfl
 |x::names=>by simp [eN,dA,keysOf_strs names]
theorem iA{names:List Str}{nums:List Int}(h:names.length=nums.length)(nd:names.Nodup):eY (names.map fun x=>(GQ x:aP)) (nums.map D.int)=kvD (names.zip nums):=by
 have:=nv names nums [] h (by simpa using nd)
 simpa [eY,kvD] using this
theorem dp1{d:D}:eA "plan" d []=[(("plan":Str),d)]:=rfl
theorem dp2{a d:D}:eA "numbers" d [(("plan":Str),a)]=[(("plan":Str),a),(("numbers":Str),d)]:=rfl
theorem dp3{a b d:D}:eA "pieces" d [(("plan":Str),a),(("numbers":Str),b)]=[(("plan":Str),a),(("numbers":Str),b),(("pieces":Str),d)]:=rfl
theorem dp4{a b e d:D}:eA "most" d [(("plan":Str),a),(("numbers":Str),b),(("pieces":Str),e)]=[(("plan":Str),a),(("numbers":Str),b),(("pieces":Str),e),(("most":Str),d)]:=rfl
theorem dp5{a b e g d:D}:eA "steps" d [(("plan":Str),a),(("numbers":Str),b),(("pieces":Str),e),(("most":Str),g)]=[(("plan":Str),a),(("numbers":Str),b),(("pieces":Str),e),(("most":Str),g),(("steps":Str),d)]:=rfl
def standD(nums pieces:List Int):D:=.tup [.tup (nums.map D.int),.tup (pieces.map D.int)]
section
variable {ad:Ad}{c:Cf}{names:List Str}{rows:List Rw}{mk:Str}{M:Mem}{nums:List Int}
theorem uT{a:Addr}{Q:DK}{E:DX}(ha:M a=none)(hl:names.length=nums.length)(nd:names.Nodup)(h0:0<names.length)(h1:names.length<=1000)
  (h:∀(k:Wk),k.a=a->M k.dn=none->M k.ls=none->Q .non (wM ad k c (planD c names rows mk) ⟨names.zip nums,[]⟩ M)):
  zt ad [.ref a,planD c names rows mk,standD nums c.pieces,.int (c.most:Nat)] (M.upd a (.ins ad.C_Walk [])) Q E:=by
 simp! [u_q7,wH,planD,standD,Mem.upd_upd,atI_0,atI_1,keysOf_strs,GF,dp1];refine ⟨by decide,hl,h0,h1,fun dn hdn=>?_⟩
 have n1:a≠dn:=Mem.ne Mem.upd_same hdn;have hdn':M dn=none:=by rw [ai (Hw n1)] at hdn;exact hdn
 simp! [ai n1,Mem.upd_same,dp2,bb (Hw n1),Mem.upd_upd,iA hl nd];refine ⟨by simp,?_⟩
 simp! [ai n1,Mem.upd_same,dp3,bb (Hw n1),Mem.upd_upd];refine ⟨by simp,?_⟩
 simp! [ai n1,Mem.upd_same,dp4,bb (Hw n1),Mem.upd_upd];refine ⟨by simp,szl (by simp),fun ls hls=>?_⟩
 have n2:a≠ls:=by
  intro e;subst e;rw [ai n1,Mem.upd_same] at hls;cases hls
 have n3:dn≠ls:=by
  intro e;subst e;rw [Mem.upd_same] at hls;cases hls
 have hls':M ls=none:=by rw [ai (Hw n3),ai (Hw n2)] at hls;exact hls
 simp! [ai n2,ai n1,Mem.upd_same,dp5];refine ⟨by simp,drp_id ?_⟩
 have:=h ⟨a,dn,ls,n1,n2,n3⟩ rfl hdn' hls';have e:wM ad ⟨a,dn,ls,n1,n2,n3⟩ c (planD c names rows mk) ⟨names.zip nums,[]⟩ M=(((M.upd a (.ins ad.C_Walk [("plan",planD c names rows mk),("numbers",.ref dn),("pieces",.tup (c.pieces.map D.int)),("most",.int (c.most:Nat))])).upd dn (.dK (kvD (names.zip nums)))).upd ls (.lst [])).upd a (.ins ad.C_Walk [("plan",planD c names rows mk),("numbers",.ref dn),("pieces",.tup (c.pieces.map D.int)),("most",.int (c.most:Nat)),("steps",.ref ls)]):=by
  unfold wM;rw [bb (Hw n2),bb (Hw n1),Mem.upd_upd];rfl
 rw [e] at this;exact this
def fS(c:Cf)(names:List Str)(rows:List Rw)(nums:List Int):Bool×Sx:=bv c rows [] 0 ⟨names.zip nums,[]⟩
def qH(names:List Str)(r:Bool×Sx):D:=if r.1=true then .tup (names.map fun x=>.int (nm r.2.nums x)) else .non
structure PlOk(c:Cf)(names:List Str)(rows:List Rw)(nums:List Int):Prop where
 co:COk c
 ln:names.length=nums.length
 nd:names.Nodup
 l0:0<names.length
 l1:names.length<=1000
 rng:∀v∈nums,0<=v/\v<c.m
 ok:cN names c.m c.pieces.length rows
 h:fO rows<=7
theorem pw:∀{names:List Str} {nums:List Int},names.length=nums.length->(names.zip nums).map (·.1)=names
 |[],[],_=>rfl
 |[],_::_,h=>by simp at h
 |_::_,[],h=>by simp at h
 |x::xs,v::vs,h=>by simp [pw (by simpa using h)]
theorem PlOk.nok(p:PlOk c names rows nums):NOk names c.m (names.zip nums):=⟨pw p.ln,fun q hq=>p.rng _ (JV hq).2⟩
theorem x6{Q:DK}{E:DX}(p:PlOk c names rows nums)(h:∀l,M l=none->Q (.tup [.ref l,qH names (fS c names rows nums)]) (M.upd l (.lst (BE (fS c names rows nums).2.steps)))):
  nn ad [planD c names rows mk,standD nums c.pieces,.int (c.most:Nat)] M Q E:=by
 simp! [FH,pq];intro a ha;refine calls_of fun Q' E' hq _=>uT ha p.ln p.nd p.l0 p.l1 fun k hk hdn hls=>hq _ _ ?_;subst hk;have hsub:∀(s':Sx),∀b o,(M.upd k.ls (.lst (BE s'.steps))) b=some o->wM ad k c (planD c names rows mk) s' M b=some o:=by
  intro s' b o e
  by_cases h1:b=k.ls
  ·subst h1;rw [Mem.upd_same] at e;rw [Bv];exact e
  ·rw [ai h1] at e
   have h2:b≠k.dn:=by rintro rfl;rw [hdn] at e;cases e
   have h3:b≠k.a:=by rintro rfl;rw [ha] at e;cases e
   unfold wM;rw [ai h1,ai h2,ai h3];exact e
 have hr:=(nU (ad:=ad) (k:=k) (rows0:=rows) (mk:=mk) p.l1 p.co 24).1 rows [] ⟨names.zip nums,[]⟩ M;unfold planD at hr;simp! [planD,atI_3];refine ⟨szl (by decide),?_⟩
 refine calls_of fun Q2 E2 hq2 he2=>hr Q2 E2 p.ok (by have:=p.h;lia) (by have:=p.h;simp;lia) p.nok (Hn _) ⟨fun e=>hq2 _ _ ?_,fun e=>he2 _ _ ⟨rfl,?_⟩⟩
 ·have hn:NOk names c.m (fS c names rows nums).2.nums:=cQ p.co rows p.ok [] 0 ⟨names.zip nums,[]⟩ p.nok
  have e':(fS c names rows nums).1=true:=e;simp! [wM_a,lf4,atI_1,bV]
  refine cB (fun xs acc δ M'=>∃n1 n2 c0,names=n1++n2/\xs=n2.map D.str/\acc=n1.map (fun x=>D.int (nm (fS c names rows nums).2.nums x))/\δ=[c0,some (.ref k.a)]/\M'=wM ad k c (planD c names rows mk) (fS c names rows nums).2 M)
   (fun _ _ _ _ _=>bQ) ?_ ?_ ?_ _ _ _ _ ⟨[],names,none,rfl,rfl,rfl,rfl,rfl⟩
  ·rintro acc δ M' ⟨n1,n2,c0,e1,e2,rfl,rfl,rfl⟩
   have:n2=[]:=by cases n2 with|nil=>rfl|cons _ _=>simp at e2
   subst this;intro q hq;simp! [Mem.upd_upd,Mem.upd_del,ao hq];refine ⟨szl (by decide),⟨_,hsub _,?_⟩⟩
   have:=h k.ls hls;unfold qH at this;rw [if_pos e'] at this;have en:n1=names:=by simpa using e1.symm
   rw [en];exact this
  ·rintro x xs acc δ M' ⟨n1,n2,c0,e1,e2,rfl,rfl,rfl⟩ N hN _
   cases n2 with
   |nil=>simp at e2
   |cons y n2=>
    simp only [GR,IQ] at e2;obtain ⟨rfl,rfl⟩:=e2;have hy:y∈names:=by rw [e1];simp
    simp! [wM_a,k7,yw,cS,(hn.at hy).1,Ib];refine hN _ _ _ ?_ ⟨n1++[y],n2,_,by simp [e1],rfl,by simp,rfl,rfl⟩
    have hl:=congrArg Iu e1;have:=p.l1;simp at hl ⊢;exact g_ (by lia)
  ·rintro x xs acc δ M' ⟨n1,n2,c0,e1,e2,rfl,rfl,rfl⟩
   have hl:=congrArg Iu e1;have:=p.l1;simp at hl ⊢;exact g_ (by lia)
 ·have e':(fS c names rows nums).1=false:=e
  simp! [wM_a,lf4];refine ⟨szl (by decide),⟨_,hsub _,?_⟩⟩
  have:=h k.ls hls;unfold qH at this;rw [if_neg (by rw [e'];simp)] at this
  exact this
end
end Tw
namespace Tw
open PySem L2 L3
structure Pt where
 p:Addr
 q:Addr
 ne:p≠q
def Has(k:Pt)(b:Nat)(M:Mem):Prop:=∃(cells:List Int) (t h:Int),cells.length<=63/\0<=t/\t+b<=2 ^ 50/\M k.p=some (.lst [.ref k.q,.int t,.int h])/\M k.q=some (.lst (cells.map D.int))
def Dr(k:Pt)(b:Nat)(M M':Mem):Prop:=Has k b M'/\∀x,x≠k.p->x≠k.q->M' x=M x
section
variable {k:Pt}{b c:Nat}{M M1 M2:Mem}{l:Addr}{o:MO}
theorem Has.le(h:Has k b M)(e:c<=b):Has k c M:=by
 obtain ⟨cells,t,hh,a1,a2,a3,e1,e2⟩:=h;exact ⟨cells,t,hh,a1,a2,by lia,e1,e2⟩
theorem Dr.le(h:Dr k b M M1)(e:c<=b):Dr k c M M1:=⟨h.1.le e,h.2⟩
theorem Has.refl(h:Has k b M):Dr k b M M:=⟨h,fun _ _ _=>rfl⟩
theorem Dr.trans(x:Dr k b M M1)(y:Dr k c M1 M2):Dr k c M M2:=⟨y.1,fun z h1 h2=>(y.2 z h1 h2).trans (x.2 z h1 h2)⟩
theorem Has.nep(h:Has k b M)(hl:M l=none):l≠k.p/\l≠k.q:=by
 obtain ⟨cells,t,hh,_,_,_,e1,e2⟩:=h;exact ⟨fun e=>(by rw [e,e1] at hl;cases hl),fun e=>(by rw [e,e2] at hl;cases hl)⟩
theorem Has.upd(h:Has k b M)(h1:l≠k.p/\l≠k.q):Has k b (M.upd l o):=by
 obtain ⟨cells,t,hh,a1,a2,a3,e1,e2⟩:=h;exact ⟨cells,t,hh,a1,a2,a3,by rw [ai (Hw h1.1)];exact e1,by rw [ai (Hw h1.2)];exact e2⟩
theorem Dr.none(h0:Has k c M)(h:Dr k b M M1)(hl:M l=none):M1 l=none:=by
 have:=h0.nep hl;rw [h.2 l this.1 this.2];exact hl
end
theorem atL0{α:Type}{x:α}{xs:List α}:atI (x::xs) 0=some x:=by rw [atI_0];rfl
theorem cV{a m:Int}(h:0<m):0<=a % m/\a % m<m:=⟨I0 _ (by lia),IF _ h⟩
theorem yj{n:Nat}{i:Int}(h:0<=i)(h2:i<n):tN n i=some i.toNat:=by unfold tN;rw [if_pos h,if_pos h2]
theorem Gs:tN 3 1=some 1:=rfl
theorem Bx:tN 3 2=some 2:=rfl
section
variable {ad:Ad}{EE:DX}{D0:DEnds}{M:Mem}{k:Pt}
theorem xB{t cell many:Int}{x0:D}{c2 c5:Option D}(h0:0<many)(ht:0<=t)(ht2:t<2 ^ 51)(h:∀r,D0.rt (.int (r % many)) M):
  jd ad EE D0 [some x0,some (.int many),c2,some (.int t),some (.int cell),c5] M:=by
 simp! [];have a1:=cV (a:=cell) (m:=1000003) (by decide)
 have a2:=cV (a:=(cell % 1000003+1)*(7919*t*t+104729*t+12345)) (m:=2147483647) (by decide)
 exact ⟨by decide,.inl ⟨by decide,by decide⟩,.inr ⟨by lia,by lia⟩,.inl ⟨by decide,by decide⟩,.inl ⟨by lia,by lia⟩,by decide,.inl ⟨by lia,by lia⟩,.inl ⟨by decide,by decide⟩,by decide,by decide,⟨by decide,by decide⟩,h0,h _⟩
theorem uQ{Q:DK}{E:DX}{b:Nat}{many:Int}(hp:Has k (b+1) M)(h0:0<many)(h1:many<2 ^ 62)(h:∀r M',0<=r->r<many->Dr k b M M'->Q (.int r) M'):bA ad [.ref k.p,.int many] M Q E:=by
 obtain ⟨cells,t,hh,a1,a2,a3,e1,e2⟩:=hp;have hne:=k.ne;have fin:∀(r t' h':Int) (M':Mem),(t'=t\/t'=t+1)->(∀x,x≠k.p->M' x=M x)->M' k.p=some (.lst [.ref k.q,.int t',.int h'])->drp Q (.int (r % many)) M':=fun r t' h' M' c1 c2 c3=>
  drp_id (h _ _ (cV h0).1 (cV h0).2 ⟨⟨cells,t',h',a1,by lia,by lia,c3,by rw [c2 _ (Hw hne)];exact e2⟩,fun x h1 _=>c2 x h1⟩)
 have g1:∀o,(M.upd k.p o) k.q=some (.lst (cells.map D.int)):=fun o=>by rw [ai (Hw hne)];exact e2
 rw [G6 (n:=0)];unfold oj;have t12:gL ad (aU E) { nx:=fun _ M'=>drp Q .non M',rt:=drp Q } [some (.ref k.p),some (.int many),none,none,none,none] M:=by
  unfold gL oB nN sk sZ;have t7:∀cell:Int,jd ad (aU E) { nx:=fun _ M'=>drp Q .non M',rt:=drp Q } [some (.ref k.p),some (.int many),none,some (.int t),some (.int cell),none] (M.upd k.p (.lst [.ref k.q,.int (t+1),.int hh])):=fun cell=>
   xB h0 a2 (by lia) fun r=>fin r (t+1) hh _ (.inr rfl) (fun x hx=>ai hx) Mem.upd_same
  generalize jd ad (aU E)=K7 at t7 ⊢;simp! [e1,atI_1,atI_2,atL0,Gs,g1,GF]
  by_cases c1:(0:Int)<(cells.length:Nat)
  ·rw [if_pos c1]
   have a4:=cV (a:=t) c1;obtain ⟨y,ey⟩:∃y,atI (cells.map D.int) (t % (cells.length:Nat))=some (.int y):=by
    have hr:(t % (cells.length:Nat)).toNat<cells.length:=by lia
    exact ⟨cells[(t % (cells.length:Nat)).toNat],by rw [cr a4.1,GU,GG hr];rfl⟩
   refine ⟨c1,?_⟩;simp! [ey]
   by_cases c2:t<(cells.length:Nat)
   ·rw [if_pos c2]
    refine ⟨⟨by decide,by decide,by decide⟩,?_⟩
    simp! [Bx]
    by_cases c3:10 ^ Jf 18<=y
    ·rw [if_pos c3]
     exact ⟨⟨h0,by lia⟩,h0,fin y (t+1) _ _ (.inr rfl) (fun x hx=>by rw [ai hx,ai hx]) Mem.upd_same⟩
    ·rw [if_neg c3];exact t7 y
   ·rw [if_neg c2];exact t7 y
  ·rw [if_neg c1,if_neg (by lia)]
   exact t7 0
 generalize gL ad (aU E)=K12 at t12 ⊢;simp! [e1,atI_2]
 by_cases c:0<hh
 ·rw [if_pos c]
  simp! [e1,atI_2,Bx];exact ⟨h0,⟨h0,by lia⟩,fin hh t _ _ (.inl rfl) (fun x hx=>ai hx) Mem.upd_same⟩
 ·rw [if_neg c]
  exact t12
theorem aV{Q:DK}{b:Nat}{many:Int}{bx:BxQ EE Q}(hp:Has k (b+1) M)(h0:0<many)(h1:many<2 ^ 62)(h:∀r M',0<=r->r<many->Dr k b M M'->Q (.int r) M'):calls (bA ad) EE [.ref k.p,.int many] M Q bx:=
 calls_of fun Q' E' hq _=>uQ hp h0 h1 fun r M' a b d=>hq _ _ (h r M' a b d)
theorem df{xs:List D}{k:Nat}:gq xs none (some (k:Int))=xs.take k:=by
 unfold gq;rw [HT.oR,HT.sY,List.drop_zero,Nat.sub_zero];rcases Nat.le_total k xs.length with h|h
 ·rw [Nat.min_eq_left h]
 ·rw [Nat.min_eq_right h,JO (GO _),JO h]
theorem gA{xs:List D}{k:Nat}:gq xs (some (k:Int)) none=xs.drop k:=by
 unfold gq;rw [HT.oR,HT.sY];rcases Nat.le_total k xs.length with h|h
 ·rw [Nat.min_eq_left h,JO (by simp)]
 ·rw [Nat.min_eq_right h,LJ (GO _),LJ h];simp
theorem uo{Q:DK}{E:DX}{ns:List Int}(h:∀(k:Pt) M',Has k (2 ^ 49) M'->(∀b,b≠k.p->b≠k.q->M' b=M b)->Q (.ref k.p) M'):rL ad [.ml (ns.map D.int)] M Q E:=by
 have c63:gq (ns.map D.int) none (some 63)=(ns.take 63).map D.int:=by rw [Kc];exact df (k:=63)
 simp! [Go,nu,c63];intro b hb;rw [Mem.upd_del,ao hb];intro q hq;refine ⟨szl (by decide),fun p hp=>?_⟩
 have ne:p≠q:=by intro e;subst e;rw [Mem.upd_same] at hp;cases hp
 refine drp_id (h ⟨p,q,ne⟩ _ ⟨ns.take 63,0,0,by simp;lia,by decide,by decide,Mem.upd_same,?_⟩ fun b b1 b2=>?_)
 ·show ((M.upd q _).upd p _) q=_
  rw [ai (Hw ne),Mem.upd_same]
 ·rw [ai b1,ai b2]
end
end Tw
namespace Tw
open PySem L2 L3
def pool:List (List Str):=[["a","b","c","d","e"],["x","xx","xxx","xxxx","xxxxx"],["if","end","else","piece","pick"],["mark","again","names","plan","wheel"]]
def lb(i j l:Nat):List Str:=(((pool[i]?).getD []).drop j++((pool[i]?).getD []).take j).take (1+l)
structure NmOk(names:List Str):Prop where
 nd:names.Nodup
 n0:0<names.length
 n1:names.length<=5
 w:∀x∈names,x∈pool.flatten
theorem vx:∀i<4,∀j<5,∀l<5,0<(lb i j l).length/\(lb i j l).length<=5:=by decide +kernel
theorem z_:∀i<4,((pool[i]?).getD []).Pairwise (fun a b=>¬a=b):=by decide +kernel
theorem nS{i:Nat}{x:Str}(h:x∈(pool[i]?).getD []):x∈pool.flatten:=by
 cases e:pool[i]? with
 |none=>rw [e] at h;simp at h
 |some l=>rw [e] at h;exact List.mem_flatten.mpr ⟨l,J3 e,h⟩
theorem v5{i j l:Nat}{x:Str}(h:x∈lb i j l):x∈pool.flatten:=by
 rcases Hm.mp (J2 h) with z|z
 ·exact nS (L7 z)
 ·exact nS (J2 z)
theorem A8{i j l:Nat}(hi:i<4)(hj:j<5)(hl:l<5):NmOk (lb i j l):=by
 obtain ⟨n0,n1⟩:=vx i hi j hj l hl;refine ⟨?_,n0,n1,fun x hx=>v5 hx⟩;have nd:((pool[i]?).getD []).Nodup:=z_ i hi;have p:(((pool[i]?).getD []).drop j++((pool[i]?).getD []).take j).Perm ((pool[i]?).getD []):=List.perm_append_comm.trans (by rw [List.take_append_drop])
 exact (p.nodup_iff.mpr nd).sublist (Km ..)
theorem yy{r:Int}(h0:0<=r)(h1:r<4):atI (pool.map fun l=>D.lst (l.map D.str)) r=some (.lst (((pool[r.toNat]?).getD []).map D.str)):=by
 have hr:r.toNat<pool.length:=by show r.toNat<4;lia
 rw [cr h0,GU,GG hr];rfl
section
variable {ad:Ad}{M:Mem}{k:Pt}{Q:DK}{E:DX}
theorem qM{b:Nat}(hp:Has k (b+3) M)(h:∀names M' q,NmOk names->Dr k b M M'->M' q=none->Q (.ref q) (M'.upd q (.lst (names.map D.str)))):nz ad [.ref k.p] M Q E:=by
 simp! [FE,ny];refine ⟨szl (by decide),fun p1 h1=>?_⟩
 simp only [Mem.upd_del,ao h1];refine ⟨szl (by decide),fun p2 h2=>?_⟩
 simp only [Mem.upd_del,ao h2];refine ⟨szl (by decide),fun p3 h3=>?_⟩
 simp only [Mem.upd_del,ao h3];refine ⟨szl (by decide),fun p4 h4=>?_⟩
 simp only [Mem.upd_del,ao h4];refine ⟨szl (by decide),fun p5 h5=>?_⟩
 simp only [Mem.upd_del,ao h5];refine aV (b:=b+2) hp (by decide) (by decide) fun x1 M1 a1 b1 d1=>?_
 have e1:=yy a1 b1;have l5:((pool[x1.toNat]?).getD []).length<=5:=by
  have:∀i<4,((pool[i]?).getD []).length<=5:=by decide +kernel
  exact this _ (by lia)
 generalize hL:(pool[x1.toNat]?).getD []=L at e1 l5;simp only [pool,GR,HL] at e1;simp! [e1];refine aV (b:=b+1) d1.1 (by decide) (by decide) fun x2 M2 a2 b2 d2=>?_
 obtain ⟨j,rfl⟩:=Ii a2;simp! [gA,df];intro q1 g1;simp only [Mem.upd_del,ao g1];intro q2 g2;simp only [Mem.upd_del,ao g2];refine ⟨szl (by simp only [HW,HN,GF];lia),fun q3 g3=>?_⟩
 simp! [Mem.upd_del,ao g3];refine aV (b:=b) d2.1 (by decide) (by decide) fun x3 M3 a3 b3 d3=>?_
 obtain ⟨l,rfl⟩:=Ii a3;have e3:(1:Int)+(l:Nat)=((1+l:Nat):Int):=by lia
 simp! [e3,df];intro q4 g4;have e4:((L.map D.str).drop j++(L.map D.str).take j).take (1+l)=(lb x1.toNat j l).map D.str:=by
  unfold lb;rw [hL,<- List.map_drop,<- Kc,<- II,<- Kc]
 rw [e4];exact drp_id (h _ _ _ (A8 (by lia) (by lia) (by lia)) (d1.trans (d2.trans d3)) g4)
end
end Tw
namespace Tw
open PySem L2 L3
def nj(w:Int)(names:List Str)(left many:Int):List (aP×D):=[(GQ "wheel",.int w),(GQ "names",.lst (names.map D.str)),(GQ "left",.int left),(GQ "many",.int many)]
section
variable {w left many:Int}{names:List Str}
theorem jT:cn (nj w names left many) (GQ "wheel")=some (.int w):=by simp [cn,nj,bC]
theorem fm:cn (nj w names left many) (GQ "names")=some (.lst (names.map D.str)):=by simp [cn,nj,bC]
theorem rY:cn (nj w names left many) (GQ "left")=some (.int left):=by simp [cn,nj,bC]
theorem mH:cn (nj w names left many) (GQ "many")=some (.int many):=by simp [cn,nj,bC]
theorem Dk{v:Int}:cX (nj w names left many) (GQ "left") (.int v)=nj w names v many:=by simp [cX,nj,bC]
end
structure FrOk(w many:Int)(names:List Str):Prop where
 w2:2<=w
 w1:w<=997
 m0:0<=many
 m1:many<=6
 nm:NmOk names
structure Tf(k:Pt)(f:Addr)(b:Nat)(w many:Int)(names:List Str)(M:Mem):Prop where
 has:Has k b M
 f1:f≠k.p
 f2:f≠k.q
 fr:∃left,M f=some (.dK (nj w names left many))
section
variable {ad:Ad}{k:Pt}{f:Addr}{b c:Nat}{w many:Int}{names:List Str}{M M':Mem}{Q:DK}{E:DX}
theorem Tf.dr(t:Tf k f b w many names M)(d:Dr k c M M'):Tf k f c w many names M':=⟨d.1,t.f1,t.f2,by obtain ⟨l,e⟩:=t.fr;exact ⟨l,by rw [d.2 f t.f1 t.f2];exact e⟩⟩
theorem Tf.le(t:Tf k f b w many names M)(e:c<=b):Tf k f c w many names M:=⟨t.has.le e,t.f1,t.f2,t.fr⟩
theorem rg{r:Int}(h0:0<=r)(h1:r<names.length):∃y,y∈names/\atI (names.map D.str) r=some (.str y):=by
 have hr:r.toNat<names.length:=by lia
 exact ⟨names[r.toNat],KA hr,by rw [cr h0,GU,GG hr];rfl⟩
theorem oK{n:Nat}(hn:n<=3)(nm:NmOk names)(hp:Has k (b+n) M){c0:Option D}{xs:List D}(hx:xs.length=n){Q:List D->Mem->Prop}{bx:BxC (ap 0) dO (au aO (aa 2) (aB (aA (bA ad) ni 2 (a9 (aa 1) (a9 (bD bK (a9 (aa 2) dNil)) dNil))))) (DIt.ok ⟨xs,[]⟩) Q}
  (h:∀(ys:List Str) M',ys.length=n->(∀y∈ys,y∈names)->Dr k b M M'->Q (ys.map D.str) M'):
  cW (ap 0) dO (au aO (aa 2) (aB (aA (bA ad) ni 2 (a9 (aa 1) (a9 (bD bK (a9 (aa 2) dNil)) dNil))))) (DIt.ok ⟨xs,[]⟩) Q bx xs [] [c0,some (.ref k.p),some (.lst (names.map D.str))] M:=by
 have n0:=nm.n0;have n1:=nm.n1;refine cB (fun xs acc δ N=>∃(ys:List Str) (c0:Option D),xs.length+ys.length=n/\acc=ys.map D.str/\(∀y∈ys,y∈names)/\δ=[c0,some (.ref k.p),some (.lst (names.map D.str))]/\Dr k (b+xs.length) M N) (fun _ _ _ _ _=>bQ) ?_ ?_ ?_ _ _ _ _ ⟨[],c0,by simpa using hx,rfl,by simp,rfl,by rw [hx];exact hp.refl⟩
 ·rintro acc δ N ⟨ys,c0,e1,rfl,hy,rfl,d⟩
  exact h ys N (by simpa using e1) hy (by simpa using d)
 ·rintro x xs acc δ N ⟨ys,c0,e1,rfl,hy,rfl,d⟩ N' hN _
  simp only [GI] at e1 d;simp! [GF];refine aV (b:=b+xs.length) d.1 (by lia) (by lia) fun r M1 a1 b1 d1=>?_
  obtain ⟨y,hym,ey⟩:=rg a1 b1;simp! [ey];refine hN _ _ _ (by simp;exact g_ (by lia)) ⟨ys++[y],_,by simp;lia,by simp,fun z hz=>?_,rfl,d.trans d1⟩
  rcases Hm.mp hz with q|q
  ·exact hy z q
  ·rw [IE] at q;subst q;exact hym
 ·rintro x xs acc δ N ⟨ys,c0,e1,rfl,hy,rfl,d⟩
  simp at e1 ⊢;exact g_ (by lia)
def wds:List Str:=["sum","sum","by","less","same"]
theorem FY{r:Int}(h0:0<=r)(h1:r<5):∃y:Str,(y="sum"\/y="by"\/y="less"\/y="same")/\atI (wds.map D.str) r=some (.str y):=by
 have:r=0\/r=1\/r=2\/r=3\/r=4:=by lia
 rcases this with rfl|rfl|rfl|rfl|rfl
 ·exact ⟨_,.inl rfl,rfl⟩
 ·exact ⟨_,.inl rfl,rfl⟩
 ·exact ⟨_,.inr (.inl rfl),rfl⟩
 ·exact ⟨_,.inr (.inr (.inl rfl)),rfl⟩
 ·exact ⟨_,.inr (.inr (.inr rfl)),rfl⟩
theorem nA(ok:FrOk w many names)(t:Tf k f (b+5) w many names M)(h:∀(r:Rw) M',RwOk names w many r->Dr k b M M'->Q r.d M'):sX ad [.ref k.p,.ref f] M Q E:=by
 obtain ⟨left,e⟩:=t.fr;have w1:=ok.w1;have w2:=ok.w2;have m1:=ok.m1;simp! [FK,oQ,e,fm,↓bV];refine ⟨by decide,by decide,oK (n:=3) (b:=b+2) (by decide) ok.nm t.has ?_ fun ys M1 l1 hy d1=>?_⟩
 ·rfl
 intro p hp;obtain ⟨x,y,z,rfl⟩:∃x y z,ys=[x,y,z]:=by
  match ys,l1 with
  |[x,y,z],_=>exact ⟨x,y,z,rfl⟩
 have hx:=hy x (by simp)
 have hy':=hy y (by simp)
 have hz:=hy z (by simp)
 have t1:=(t.dr d1);simp! [Mem.upd_del,ao hp];refine aV (b:=b+1) d1.1 (by decide) (by decide) fun way M2 a2 b2 d2=>?_
 have t2:=t1.dr d2;obtain ⟨l2,e2⟩:=t2.fr;have D12:=d1.trans d2;simp! []
 by_cases c1:6<way
 ·rw [if_pos c1]
  obtain ⟨v,hv,ev⟩:=FY (r:=way % 5) (by lia) (by lia)
  simp only [wds,GR,HL] at ev;refine ⟨szl (by decide),fun q hq=>?_⟩
  simp! [Mem.upd_del,ao hq,ev];exact ⟨by decide,szl (by decide),drp_id (h (.two v x y z) M2 ⟨hv,hx,hy',hz⟩ (D12.le (by lia)))⟩
 ·rw [if_neg c1]
  simp! [e2,mH,jT];have put:calls (bA ad) (aU E) [D.ref k.p,D.int w] M2 (fun d M'=>3<=sizeLine/\drp Q (.tup [.str "put",.str x,d]) M') ⟨⟩:=
   aV (b:=b) d2.1 (by lia) (by lia) fun r M3 a3 b3 d3=>⟨szl (by decide),drp_id (h (.put x r) M3 ⟨hx,a3,b3⟩ (D12.trans d3))⟩
  by_cases c2:1<way
  ·rw [if_pos c2]
   by_cases c3:0<many
   ·rw [if_pos c3]
    by_cases c4:way=2
    ·rw [if_pos c4]
     exact ⟨szl (by decide),drp_id (h (.pick x y) M2 ⟨hx,hy',c3⟩ (D12.le (by lia)))⟩
    ·rw [if_neg c4]
     exact aV (b:=b) d2.1 c3 (by lia) fun r M3 a3 b3 d3=>⟨(szl (by decide):3<=sizeLine),drp_id (h (.take x r) M3 ⟨hx,a3,b3⟩ (D12.trans d3))⟩
   ·rw [if_neg c3]
    exact put
  ·rw [if_neg c2]
   exact put
end
end Tw
namespace Tw
open PySem L2 L3
theorem cI:∀{a b:List Rw},aK (a++b)=aK a++aK b
 |[],b=>rfl
 |r::a,b=>by simp only [HE,aK,cI]
theorem dw:∀{a:List Rw},(aK a).length=a.length
 |[]=>rfl
 |r::a=>by simp [aK,dw]
theorem OkRs_append{names:List Str}{m many:Int}:∀{a b:List Rw},cN names m many (a++b)↔cN names m many a/\cN names m many b
 |[],b=>by simp [cN]
 |r::a,b=>by simp [cN,OkRs_append,and_assoc]
theorem ga:∀{a b:List Rw},fO (a++b)=max (fO a) (fO b)
 |[],b=>by simp [fO]
 |r::a,b=>by simp only [HE,fO,ga];lia
mutual
def szR:Rw->Prop
 |.ifr _ a b=>(a.length<=7/\kE a)/\(b.length<=7/\kE b)
 |.again _ a=>a.length<=7/\kE a
 |.put _ _=>True
 |.take _ _=>True
 |.pick _ _=>True
 |.two _ _ _ _=>True
def kE:List Rw->Prop
 |[]=>True
 |r::rs=>szR r/\kE rs
end
theorem szRs_append:∀{a b:List Rw},kE (a++b)↔kE a/\kE b
 |[],b=>by simp [kE]
 |r::a,b=>by simp [kE,szRs_append,and_assoc]
mutual
def wR:Rw->Nat
 |.ifr _ a b=>1+(ir a+ir b)
 |.again _ a=>1+ir a
 |.put _ _=>1
 |.take _ _=>1
 |.pick _ _=>1
 |.two _ _ _ _=>1
def ir:List Rw->Nat
 |[]=>0
 |r::rs=>wR r+ir rs
end
theorem dH:∀{a b:List Rw},ir (a++b)=ir a+ir b
 |[],b=>by simp [ir]
 |r::a,b=>by simp only [HE,ir,dH];lia
def wd:Nat->Nat
 |0=>1
 |d+1=>4+4*wd d
theorem C3:∀d,1<=wd d
 |0=>GO _
 |d+1=>by unfold wd;lia
theorem RwOk.wt{names:List Str}{m many:Int}{r:Rw}(h:RwOk names m many r):wR r=1:=by
 cases r with
 |ifr=>exact h.elim
 |again=>exact h.elim
 |put=>rfl
 |take=>rfl
 |pick=>rfl
 |two=>rfl
theorem RwOk.all{names:List Str}{m many:Int}{r:Rw}(h:RwOk names m many r):OkR names m many r/\hR r=0/\szR r:=by
 cases r with
 |ifr=>exact h.elim
 |again=>exact h.elim
 |put=>exact ⟨h,rfl,trivial⟩
 |take=>exact ⟨h,rfl,trivial⟩
 |pick=>exact ⟨h,rfl,trivial⟩
 |two=>exact ⟨h,rfl,trivial⟩
structure Drn(names:List Str)(w many:Int)(deep:Nat)(rs:List Rw):Prop where
 ok:cN names w many rs
 h:fO rs<=deep
 s:kE rs
section
variable {names:List Str}{w many:Int}{deep d2:Nat}{a c:List Rw}
theorem Drn.nil:Drn names w many deep []:=⟨trivial,Hn _,trivial⟩
theorem Drn.app(x:Drn names w many deep a)(y:Drn names w many deep c):Drn names w many deep (a++c):=⟨OkRs_append.mpr ⟨x.ok,y.ok⟩,by rw [ga];have:=x.h;have:=y.h;lia,szRs_append.mpr ⟨x.s,y.s⟩⟩
theorem Drn.one{r:Rw}(x:RwOk names w many r):Drn names w many deep [r]:=⟨⟨x.all.1,trivial⟩,by simp only [fO,x.all.2.1];lia,⟨x.all.2.2,trivial⟩⟩
theorem Drn.again{x:Str}(hx:x∈names)(y:Drn names w many deep a)(hl:a.length<=7):Drn names w many (deep+1) [.again x a]:=⟨⟨⟨hx,y.ok⟩,trivial⟩,by simp only [fO,hR];have:=y.h;lia,⟨⟨hl,y.s⟩,trivial⟩⟩
theorem Drn.ifr{x:Str}(hx:x∈names)(y:Drn names w many deep a)(z:Drn names w many deep c)(hl:a.length<=7)(hl2:c.length<=7):Drn names w many (deep+1) [.ifr x a c]:=⟨⟨⟨hx,y.ok,z.ok⟩,trivial⟩,by simp only [fO,hR];have:=y.h;have:=z.h;lia,⟨⟨⟨hl,y.s⟩,⟨hl2,z.s⟩⟩,trivial⟩⟩
end
structure Kf(k:Pt)(f:Addr)(b:Nat)(w many:Int)(names:List Str)(M M':Mem):Prop where
 tf:Tf k f b w many names M'
 kp:∀x o,x≠k.p->x≠k.q->x≠f->M x=some o->M' x=some o
section
variable {ad:Ad}{k:Pt}{f:Addr}{b c:Nat}{w many:Int}{names:List Str}{M M1 M2:Mem}{Q:DK}{E:DX}
theorem Tf.kf(t:Tf k f b w many names M):Kf k f b w many names M M:=⟨t,fun _ _ _ _ _ e=>e⟩
theorem Kf.trans(x:Kf k f b w many names M M1)(y:Kf k f c w many names M1 M2):Kf k f c w many names M M2:=⟨y.tf,fun z o h1 h2 h3 e=>y.kp z o h1 h2 h3 (x.kp z o h1 h2 h3 e)⟩
theorem Kf.dr(x:Kf k f b w many names M M1)(y:Dr k c M1 M2):Kf k f c w many names M M2:=⟨x.tf.dr y,fun z o h1 h2 h3 e=>by rw [y.2 z h1 h2];exact x.kp z o h1 h2 h3 e⟩
theorem Kf.le(x:Kf k f b w many names M M1)(e:c<=b):Kf k f c w many names M M1:=⟨x.tf.le e,x.kp⟩
theorem Kf.non(K:Kf k f b w many names M M1){l:Addr}(h:M1 l=none):M l=none:=by
 obtain ⟨⟨cells,t,hh,_,_,_,e1,e2⟩,f1,f2,left,e3⟩:=K.tf;cases e:M l with
 |none=>rfl
 |some o=>
  by_cases h1:l=k.p
  ·rw [h1,e1] at h;cases h
  ·by_cases h2:l=k.q
   ·rw [h2,e2] at h;cases h
   ·by_cases h3:l=f
    ·rw [h3,e3] at h;cases h
    ·rw [K.kp l o h1 h2 h3 e] at h;cases h
theorem Tf.nep(t:Tf k f b w many names M){l:Addr}(hl:M l=none):l≠k.p/\l≠k.q/\l≠f:=by
 obtain ⟨h1,h2⟩:=t.has.nep hl;obtain ⟨left,e⟩:=t.fr;exact ⟨h1,h2,fun z=>by rw [z,e] at hl;cases hl⟩
theorem Tf.upd(t:Tf k f b w many names M){l:Addr}{o:MO}(h:l≠k.p/\l≠k.q/\l≠f):Tf k f b w many names (M.upd l o):=⟨t.has.upd ⟨h.1,h.2.1⟩,t.f1,t.f2,by obtain ⟨left,e⟩:=t.fr;exact ⟨left,by rw [ai (Hw h.2.2)];exact e⟩⟩
theorem Kf.new(K:Kf k f b w many names M M1){l:Addr}{o:MO}(h:M1 l=none):Kf k f b w many names M (M1.upd l o):=⟨K.tf.upd (K.tf.nep h),fun x u h1 h2 h3 e=>by
 rw [ai (fun z=>by rw [z,K.non h] at e;cases e)];exact K.kp x u h1 h2 h3 e⟩
theorem Tf.left(t:Tf k f b w many names M)(v:Int):Kf k f b w many names M (M.upd f (.dK (nj w names v many))):=
 ⟨⟨t.has.upd ⟨t.f1,t.f2⟩,t.f1,t.f2,v,Mem.upd_same⟩,fun x o _ _ h3 e=>by rw [ai h3];exact e⟩
def PRo(ad:Ad)(k:Pt)(f:Addr)(w many:Int)(names:List Str)(n:Nat):Prop:=∀(m deep b:Nat) (M:Mem) (Q:DK) (E:DX),m<=9->2*deep+1<=n->Tf k f (b+m*100 ^ (deep+1)) w many names M->
 (∀(rs:List Rw) (l:Addr) (M':Mem),Drn names w many deep rs->(rs.length<=3*m/\ir rs<=m*wd deep)->Kf k f b w many names M M'->M' l=none->M l=none->Q (.ref l) (M'.upd l (.lst (aK rs))))->Mw ad n [.ref k.p,.ref f,.int (m:Nat),.int (deep:Nat)] M Q E
def PLo(ad:Ad)(k:Pt)(f:Addr)(w many:Int)(names:List Str)(n:Nat):Prop:=∀(deep b:Nat) (M:Mem) (Q:DK) (E:DX),2*deep+2<=n->Tf k f (b+(10+2*100 ^ (deep+1))) w many names M->
 (∀(rs:List Rw) (l:Addr) (M':Mem),Drn names w many (deep+1) rs->(rs.length<=3/\ir rs<=wd (deep+1))->Kf k f b w many names M M'->M' l=none->M l=none->Q (.ref l) (M'.upd l (.lst (aK rs))))->Mp ad n [.ref k.p,.ref f,.int ((deep+1:Nat):Int)] M Q E
theorem uI(ok:FrOk w many names){n:Nat}(ih:PRo ad k f w many names n):PLo ad k f w many names (n+1):=by
 intro deep b M Q E hn t h;have w2:=ok.w2;have w1:=ok.w1;obtain ⟨left,e⟩:=t.fr;simp! [Fp,oW,e,fm,↓bV];refine ⟨by decide,by decide,oK (n:=2) (b:=b+(8+2*100 ^ (deep+1))) (by decide) ok.nm (t.has.le (by lia)) ?_ fun ys M1 l1 hy d1=>?_⟩
 ·rfl
 intro p hp;obtain ⟨x,y,rfl⟩:∃x y,ys=[x,y]:=by
  match ys,l1 with
  |[x,y],_=>exact ⟨x,y,rfl⟩
 have hx:=hy x (by simp)
 have hy':=hy y (by simp)
 simp! [Mem.upd_del,ao hp];refine aV (b:=b+(7+2*100 ^ (deep+1))) (d1.1.le (by lia)) (by decide) (by decide) fun way M2 a2 b2 d2=>?_
 simp! [];refine aV (b:=b+(6+2*100 ^ (deep+1))) (d2.1.le (by lia)) (by decide) (by decide) fun m M3 a3 b3 d3=>?_
 obtain ⟨m,rfl⟩:=Ii a3;have K3:=t.kf.dr (d1.trans (d2.trans d3));have ed:((deep+1:Nat):Int)-1=(deep:Nat):=by lia
 simp! [ed];have hm:m*100 ^ (deep+1)<=2*100 ^ (deep+1):=HQ _ (by lia)
 refine calls_of fun Q' E' hq _=>ih m deep (b+6) _ _ _ (by lia) (by lia) (K3.tf.le (by lia)) fun rs l M4 dr lr0 K4 hl _=>hq _ _ ?_
 have lr:=lr0.1;have hw:ir rs<=2*wd deep:=Hd lr0.2 (HQ _ (by lia))
 have K5:=K3.trans K4;have hlr:(aK rs).length<=6:=by rw [dw];lia
 simp! [Mem.upd_del,ao hl];have put0:RwOk names w many (.put x 0):=⟨hx,by decide,by lia⟩
 have more:∀(p:Addr),M4 p=none->drp Q (.ref p) (M4.upd p (.lst [.tup [.str "again",.str x,.tup (aK rs++[.tup [.str "put",.str x,.int 0]])]])):=fun p hp=>by
  have:=h [.again x (rs++[.put x 0])] p M4 (Drn.again hx (dr.app (Drn.one put0)) (by simp;lia)) ⟨by simp,by simp only [ir,wR,dH,wd];lia⟩ (K5.le (by lia)) hp (K5.non hp)
  simp only [aK,Rw.d,cI] at this;exact drp_id this
 by_cases c0:way=0
 ·rw [if_pos c0]
  refine ⟨szl (by decide),szl (by decide),fun p hp=>?_⟩
  have:=h [.again x rs] p M4 (Drn.again hx dr (by lia)) ⟨by simp,by simp only [ir,wR,dH,wd];lia⟩ (K5.le (by lia)) hp (K5.non hp)
  simp only [aK,Rw.d] at this;exact drp_id this
 rw [if_neg c0]
 by_cases c1:way=1
 ·rw [if_pos c1]
  refine ⟨szl (by decide),szl (by decide),fun p1 h1=>⟨szl (by lia),fun p2 h2=>⟨szl (by decide),szl (by decide),fun p3 h3=>?_⟩⟩⟩
  rw [ao h1] at h2 h3 ⊢;rw [ao h2] at h3 ⊢;exact more p3 h3
 rw [if_neg c1]
 by_cases c2:x=y
 ·rw [if_pos c2]
  refine ⟨szl (by decide),szl (by decide),fun p1 h1=>⟨szl (by lia),fun p2 h2=>⟨szl (by decide),szl (by decide),fun p3 h3=>?_⟩⟩⟩
  rw [ao h1] at h2 h3 ⊢;rw [ao h2] at h3 ⊢;exact more p3 h3
 rw [if_neg c2];obtain ⟨l5,e5⟩:=K5.tf.fr;simp! [e5,jT];refine aV (b:=b) (K5.tf.has.le (by lia)) (by split<;>lia) (by split<;>lia) fun r M6 a6 b6 d6=>?_
 have hr:r<w:=by split at b6<;>lia
 have K6:=K5.dr d6;obtain ⟨l6,e6⟩:=K6.tf.fr;have putr:RwOk names w many (.put x r):=⟨hx,a6,hr⟩;have putw:RwOk names w many (.put y (w-1)):=⟨hy',by lia,by lia⟩
 have sumr:RwOk names w many (.two "sum" x x y):=⟨.inl rfl,hx,hx,hy'⟩;simp! [];refine ⟨szl (by decide),szl (by decide),fun p6 h6=>?_⟩
 have K7:Kf k f b w many names M (M6.upd p6 (.lst [.tup [.str "put",.str x,.int r]])):=K6.new h6;obtain ⟨l7,e7⟩:=K7.tf.fr;obtain ⟨v,ev,hv⟩:∃v:Int,(if way=2 then (1:Int) else 0)=v/\(v=0\/v=1):=⟨_,rfl,by split<;>simp⟩
 rw [ev];obtain ⟨fs,ef,hf,hfl,hfw⟩:∃fs:List Rw,(GK v.toNat [D.tup [.str "put",.str x,.int r]]).flatten=aK fs/\Drn names w many (deep+1) fs/\fs.length<=1/\ir fs<=1:=by
  rcases hv with rfl|rfl
  ·exact ⟨[],rfl,Drn.nil,by simp,by simp [ir]⟩
  ·exact ⟨[.put x r],rfl,Drn.one putr,by simp,by simp [ir,wR]⟩
 refine ⟨by lia,by lia,by rcases hv with rfl|rfl<;>decide,fun q7 h7=>?_⟩
 rw [Mem.upd_del,ao h7,ef];have K8:=K7.le (c:=b) (GO _);simp! [e7,jT];refine ⟨szl (by decide),szl (by decide),szl (by decide),fun q8 h8=>?_⟩
 rw [Mem.upd_del,ao h8];refine ⟨szl (by lia),fun q9 h9=>?_⟩
 rw [Mem.upd_del,ao h9];refine ⟨szl (by decide),szl (by decide),fun q10 h10=>?_⟩
 rw [Mem.upd_del,ao h10];refine ⟨szl (by rw [dw];lia),fun q11 h11=>?_⟩
 have:=h (fs++[.put y (w-1),.again x (rs++[.two "sum" x x y])]) q11 _ (hf.app ((Drn.one (deep:=deep+1) putw).app (Drn.again hx (dr.app (Drn.one sumr)) (by simp;lia)))) ⟨by simp;lia,by simp only [ir,wR,dH,wd];lia⟩ K8 h11 (K8.non h11)
 simp only [aK,Rw.d,cI] at this;exact drp_id this
end
end Tw
namespace Tw
open PySem L2 L3
section
variable {ad:Ad}{k:Pt}{f:Addr}{w many:Int}{names:List Str}
theorem qr(ok:FrOk w many names){n:Nat}(ihl:PLo ad k f w many names n)(ih:PRo ad k f w many names n):PRo ad k f w many names (n+1):=by
 intro m deep b M Q E hm hn t h;have n0:=ok.nm.n0;have n1:=ok.nm.n1;simp! [u_q4,vT,↓dFor];refine ⟨szl (by decide),fun l hl=>?_⟩
 have nel:=t.nep hl;refine ⟨by lia,by lia,?_⟩
 refine forD_inv (fun xs δ N=>∃(acc:List Rw) (c5 c6 c7 c8 c9 c10:Option D),xs.length<=m/\δ=[some (.ref k.p),some (.ref f),some (.int (m:Nat)),some (.int (deep:Nat)),some (.ref l),c5,c6,c7,c8,c9,c10]/\Drn names w many deep acc/\(acc.length+3*xs.length<=3*m/\ir acc+xs.length*wd deep<=m*wd deep)/\N l=some (.lst (aK acc))/\Kf k f (b+xs.length*100 ^ (deep+1)) w many names M N) (fun _ _ _ _=>bQ) ?_ ?_ _ _ _ ⟨[],none,none,none,none,none,none,by simp [b_],rfl,Drn.nil,⟨by simp [b_],by simp [b_,ir]⟩,Mem.upd_same,by
  have e:(b_ 0 (Jf (m:Nat))).length=m:=by simp [b_]
  rw [e];exact t.kf.new hl⟩
 ·rintro δ N ⟨acc,c5,c6,c7,c8,c9,c10,hx,rfl,dr,la,hN,K⟩
  simp! [];have e:N=(N.del l).upd l (.lst (aK acc)):=by
   funext x
   by_cases c:x=l
   ·subst c;rw [Mem.upd_same];exact hN
   ·rw [ai c];unfold Mem.del;rw [if_neg c]
  rw [e];have hd:(N.del l) l=none:=by unfold Mem.del;rw [if_pos rfl]
  have fd:∀x,x≠l->(N.del l) x=N x:=fun x hx=>by unfold Mem.del;rw [if_neg hx]
  refine drp_id (h acc l (N.del l) dr ⟨by have:=la.1;simp at this;lia,by have:=la.2;simp at this;lia⟩ ⟨⟨?_,K.tf.f1,K.tf.f2,?_⟩,fun x o h1 h2 h3 e=>?_⟩ hd hl)
  ·obtain ⟨cells,t',hh,a1,a2,a3,e1,e2⟩:=K.tf.has
   exact ⟨cells,t',hh,a1,a2,by simp at a3;lia,by rw [fd _ (Hw nel.1)];exact e1,by rw [fd _ (Hw nel.2.1)];exact e2⟩
  ·obtain ⟨left,e3⟩:=K.tf.fr
   exact ⟨left,by rw [fd _ (Hw nel.2.2)];exact e3⟩
  ·rw [fd x (fun z=>by rw [z,hl] at e;cases e)]
   exact K.kp x o h1 h2 h3 e
 ·rintro x xs δ N ⟨acc,c5,c6,c7,c8,c9,c10,hx,rfl,dr,la,hN,K⟩ D' hnx _ _ _
  simp only [GI] at hx la K;have law:=la.2;rw [Ks] at law
  replace la:=la.1
  have hP:1<=100 ^ deep:=Nat.one_le_pow _ _ (by decide)
  have hPs:100 ^ (deep+1)=100*100 ^ deep:=by rw [Nat.pow_succ,LP]
  have hsz:(aK acc).length<=30:=by rw [dw];lia
  have K0:Kf k f (b+xs.length*100 ^ (deep+1)+100*100 ^ deep) w many names M N:=K.le (by have:=Ks xs.length (100 ^ (deep+1));simp only [Nat.succ_eq_add_one] at this;lia)
  generalize hB:b+xs.length*100 ^ (deep+1)=B at K0;obtain ⟨left,e⟩:=K0.tf.fr;simp! [e,rY,Dk];have K1:=K0.trans (K0.tf.left (left-4));have nl:l≠f:=nel.2.2;refine ⟨(g_ (by decide):4<sizeLine),?_⟩
  refine aV (b:=B+(100*100 ^ deep-1)) (K1.tf.has.le (by lia)) (by decide) (by decide) fun way M2 a2 b2 d2=>?_
  have K2:=K1.dr d2;have h2l:M2 l=some (.lst (aK acc)):=by rw [d2.2 l nel.1 nel.2.1,ai nl];exact hN
  obtain ⟨l2,e2⟩:=K2.tf.fr;have fin:∀(rs:List Rw) (c6 c7 c8 c9 c10:Option D) (M':Mem),Drn names w many deep rs->(rs.length<=3/\ir rs<=wd deep)->Kf k f B w many names M M'->M' l=some (.lst (aK acc))->D'.nx [some (.ref k.p),some (.ref f),some (.int (m:Nat)),some (.int (deep:Nat)),some (.ref l),some x,c6,c7,c8,c9,c10] (M'.upd l (.lst (aK acc++aK rs))):=fun rs c6 c7 c8 c9 c10 M' d1 lr K' e'=>
   hnx _ _ ⟨acc++rs,_,_,_,_,_,_,by lia,rfl,dr.app d1,⟨by have:=lr.1;simp;lia,by have:=lr.2;rw [dH];lia⟩,by rw [Mem.upd_same,cI],by
    rw [hB];refine ⟨K'.tf.upd nel,fun z o z1 z2 z3 ez=>?_⟩;rw [ai (fun q=>by rw [q,hl] at ez;cases ez)]
    exact K'.kp z o z1 z2 z3 ez⟩
  have one:qK ad (Mp ad n) (Mw ad n) (aU E) D' [some (.ref k.p),some (.ref f),some (.int (m:Nat)),some (.int (deep:Nat)),some (.ref l),some x,some (.int way),c7,c8,c9,c10] M2:=by
   simp! [h2l];refine calls_of fun Q' E' hq _=>nA (b:=B) ok (K2.tf.le (by lia)) fun r M3 hr d3=>hq _ _ ?_
   have h3l:M3 l=some (.lst (aK acc)):=by rw [d3.2 l nel.1 nel.2.1];exact h2l
   have:=fin [r] (some (.int way)) c7 c8 c9 c10 M3 (Drn.one hr) ⟨by simp,by simp only [ir,hr.wt];have:=C3 deep;lia⟩ (K2.dr d3) h3l
   simp only [aK] at this;cases r with
   |ifr=>exact hr.elim
   |again=>exact hr.elim
   |_=>
    simp only [Rw.d] at this;simp! [Rw.d,h3l];exact ⟨g_ (by lia),this⟩
  show pM ad (Mp ad n) (Mw ad n) (aU E) D' [some (.ref k.p),some (.ref f),some (.int (m:Nat)),some (.int (deep:Nat)),some (.ref l),some x,some (.int way),c7,c8,c9,c10] M2;unfold pM w6;generalize qK ad (Mp ad n) (Mw ad n) (aU E)=K7 at one ⊢;simp! [e2,rY]
  by_cases c0:(0:Int)<(deep:Nat)
  ·rw [if_pos c0]
   by_cases c1:0<l2
   ·rw [if_pos c1]
    obtain ⟨dp,rfl⟩:∃dp,deep=dp+1:=⟨deep-1,by lia⟩
    have hQ:1<=100 ^ dp:=Nat.one_le_pow _ _ (by decide)
    have hQs:100 ^ (dp+1)=100*100 ^ dp:=by rw [Nat.pow_succ,LP]
    by_cases c2:way=0
    ·rw [if_pos c2]
     simp! [h2l];refine calls_of fun Q' E' hq _=>ihl dp B _ _ _ (by lia) (K2.tf.le (by lia)) fun rs l3 M3 dr3 lr K3 h3 _=>hq _ _ ?_
     have h3l:M3 l=some (.lst (aK acc)):=K3.kp l _ nel.1 nel.2.1 nel.2.2 h2l;have hrl:(aK rs).length<=3:=by rw [dw];exact lr.1
     simp! [Mem.upd_del,ao h3,h3l];exact ⟨szl (by lia),fin rs _ _ _ _ _ M3 dr3 lr (K2.trans K3) h3l⟩
    ·rw [if_neg c2]
     rw [if_pos c0,if_pos c1]
     by_cases c3:way<3
     ·rw [if_pos c3]
      simp! [e2,fm,GF];refine aV (b:=B+(100*100 ^ (dp+1)-2)) (K2.tf.has.le (by lia)) (by lia) (by lia) fun r3 M3 a3 b3 d3=>?_
      obtain ⟨y,hy,ey⟩:=rg a3 b3;have K3:=K2.dr d3;have h3l:M3 l=some (.lst (aK acc)):=by rw [d3.2 l nel.1 nel.2.1];exact h2l
      simp! [ey];refine aV (b:=B+(100*100 ^ (dp+1)-3)) (K3.tf.has.le (by lia)) (by decide) (by decide) fun m4 M4 a4 b4 d4=>?_
      obtain ⟨m4,rfl⟩:=Ii a4;have K4:=K3.dr d4;have h4l:M4 l=some (.lst (aK acc)):=by rw [d4.2 l nel.1 nel.2.1];exact h3l
      have ed:((dp+1:Nat):Int)-1=(dp:Nat):=by lia
      have hm4:m4*100 ^ (dp+1)<=2*100 ^ (dp+1):=HQ _ (by lia)
      simp! [ed];refine calls_of fun Q' E' hq _=>ih m4 dp (B+(10+3*100 ^ (dp+1))) _ _ _ (by lia) (by lia) (K4.tf.le (by lia)) fun r5 l5 M5 dr5 lr5 K5 h5 _=>hq _ _ ?_
      have K5':=K4.trans K5;have h5l:M5 l=some (.lst (aK acc)):=K5.kp l _ nel.1 nel.2.1 nel.2.2 h4l;simp! [Mem.upd_del,ao h5];refine aV (b:=B+(9+3*100 ^ (dp+1))) (K5'.tf.has.le (by lia)) (by decide) (by decide) fun m6 M6 a6 b6 d6=>?_
      obtain ⟨m6,rfl⟩:=Ii a6;have K6:=K5'.dr d6;have h6l:M6 l=some (.lst (aK acc)):=by rw [d6.2 l nel.1 nel.2.1];exact h5l
      have hm6:m6*100 ^ (dp+1)<=2*100 ^ (dp+1):=HQ _ (by lia)
      simp! [ed];refine calls_of fun Q' E' hq _=>ih m6 dp B _ _ _ (by lia) (by lia) (K6.tf.le (by lia)) fun r7 l7 M7 dr7 lr7 K7' h7 _=>hq _ _ ?_
      have h7l:M7 l=some (.lst (aK acc)):=K7'.kp l _ nel.1 nel.2.1 nel.2.2 h6l;have w5:ir r5<=2*wd dp:=Hd lr5.2 (HQ _ (by lia))
      have w7:ir r7<=2*wd dp:=Hd lr7.2 (HQ _ (by lia))
      have:=fin [.ifr y r5 r7] (some (.int way)) (some (.lst (names.map D.str))) (some (.str y)) (some (.lst (aK r5))) (some (.lst (aK r7))) M7 (Drn.ifr hy dr5 dr7 (by have:=lr5.1;lia) (by have:=lr7.1;lia)) ⟨by simp,by simp only [ir,wR,wd];lia⟩ (K6.trans K7') h7l
      simp only [aK,Rw.d] at this;simp! [Mem.upd_del,ao h7,h7l];exact ⟨szl (by decide),g_ (by lia),this⟩
     ·rw [if_neg c3]
      exact one
   ·rw [if_neg c1,if_pos c0,if_neg c1]
    exact one
  ·rw [if_neg c0,if_neg c0]
   exact one
theorem fH(ok:FrOk w many names):∀n,PLo ad k f w many names n/\PRo ad k f w many names n
 |0=>⟨fun deep b M Q E hn=>by lia,fun m deep b M Q E hm hn=>by lia⟩
 |n+1=>⟨uI ok (fH ok n).2,qr ok (fH ok n).1 (fH ok n).2⟩
end
end Tw
namespace Tw
open PySem L2 L3
structure PlT(w many:Int)(names:List Str)(rows:List Rw)(mk:Str):Prop where
 f:FrOk w many names
 r:Drn names w many 4 rows
 l:rows.length<=27
 m:mk∈names
 wt:ir rows<=5364
def on(w many:Int)(names:List Str)(rows:List Rw)(mk:Str):D:=.tup [.int w,.tup (names.map D.str),.int many,.tup (aK rows),.str mk]
structure Kq(k:Pt)(b:Nat)(M M':Mem):Prop where
 has:Has k b M'
 kp:∀x o,x≠k.p->x≠k.q->M x=some o->M' x=some o
section
variable {ad:Ad}{k:Pt}{b c:Nat}{M M1 M2:Mem}{Q:DK}{E:DX}
theorem Dr.kq(d:Dr k b M M1):Kq k b M M1:=⟨d.1,fun x o h1 h2 e=>by rw [d.2 x h1 h2];exact e⟩
theorem Kq.trans(x:Kq k b M M1)(y:Kq k c M1 M2):Kq k c M M2:=⟨y.has,fun z o h1 h2 e=>y.kp z o h1 h2 (x.kp z o h1 h2 e)⟩
theorem uh{most:Nat}(hm:most<=9)(hp:Has k (b+(10+9*100 ^ 5)) M)(h:∀(w many:Int) (names:List Str) (rows:List Rw) (mk:Str) (M':Mem),PlT w many names rows mk->Kq k b M M'->Q (on w many names rows mk) M'):tF ad [.ref k.p,.int (most:Nat)] M Q E:=by
 simp! [Fn,oJ];refine ⟨szl (by decide),fun p1 h1=>?_⟩
 simp only [Mem.upd_del,ao h1];refine aV (b:=b+(9+9*100 ^ 5)) hp (by decide) (by decide) fun x1 M1 a1 b1 d1=>?_
 obtain ⟨w,ew,w2,w1⟩:∃w:Int,atI [D.int 2,.int 3,.int 3,.int 5,.int 7,.int 11,.int 97,.int 997] x1=some (.int w)/\2<=w/\w<=997:=by
  have:x1=0\/x1=1\/x1=2\/x1=3\/x1=4\/x1=5\/x1=6\/x1=7:=by omega
  rcases this with rfl|rfl|rfl|rfl|rfl|rfl|rfl|rfl
  all_goals exact ⟨_,rfl,by decide,by decide⟩
 simp! [ew];intro f hf;have nef:=d1.1.nep hf;refine calls_of fun Q' E' hq _=>qM (b:=b+(6+9*100 ^ 5)) (d1.1.upd nef) fun names M2 q2 nm d2 h2=>hq _ _ ?_;have e2:M2 f=some (.dK []):=by rw [d2.2 f nef.1 nef.2,Mem.upd_same]
 simp! [Mem.upd_del,ao h2,e2];refine ⟨.inl ⟨by decide,by omega⟩,by decide,szl (by decide),fun f2 hf2=>?_⟩
 have ek:eY [GQ "wheel",GQ "names",GQ "left"] [D.int w,.lst (names.map D.str),.int (4*(most:Nat))]=([(GQ "wheel",.int w),(GQ "names",.lst (names.map D.str)),(GQ "left",.int (4*(most:Nat)))]:List (aP×D)):=by simp [eY,cX,bC]
 rw [ek] at hf2 ⊢;generalize hM3:M2.upd f (MO.dK ([(GQ "wheel",.int w),(GQ "names",.lst (names.map D.str)),(GQ "left",.int (4*(most:Nat)))]:List (aP×D)))=M3 at hf2 ⊢;have hm3:Has k (b+(6+9*100 ^ 5)) M3:=by rw [<- hM3];exact d2.1.upd nef
 have e3:M3 f=some (MO.dK ([(GQ "wheel",.int w),(GQ "names",.lst (names.map D.str)),(GQ "left",.int (4*(most:Nat)))]:List (aP×D))):=by rw [<- hM3];exact Mem.upd_same
 simp only [Mem.upd_del,ao hf2];refine aV (b:=b+(5+9*100 ^ 5)) hm3 (by decide) (by decide) fun x4 M4 a4 b4 d4=>?_
 obtain ⟨many,em,m0,m1⟩:∃w:Int,atI [D.int 0,.int 1,.int 2,.int 3,.int 4,.int 6] x4=some (.int w)/\0<=w/\w<=6:=by
  have:x4=0\/x4=1\/x4=2\/x4=3\/x4=4\/x4=5:=by omega
  rcases this with rfl|rfl|rfl|rfl|rfl|rfl
  all_goals exact ⟨_,rfl,by decide,by decide⟩
 have e4:M4 f=some (MO.dK ([(GQ "wheel",.int w),(GQ "names",.lst (names.map D.str)),(GQ "left",.int (4*(most:Nat)))]:List (aP×D))):=by rw [d4.2 f nef.1 nef.2];exact e3
 have ep:cX ([(GQ "wheel",.int w),(GQ "names",.lst (names.map D.str)),(GQ "left",.int (4*(most:Nat)))]:List (aP×D)) (GQ "many") (.int many)=nj w names (4*(most:Nat)) many:=by simp [cX,nj,bC]
 simp! [em,e4,ep];clear hq ek;refine ⟨?_,?_⟩
 ·exact g_ (by decide)
 have hm4:Has k (b+(5+9*100 ^ 5)) (M4.upd f (.dK (nj w names (4*(most:Nat)) many))):=d4.1.upd nef;refine aV (b:=b+(4+9*100 ^ 5)) hm4 (by omega) (by omega) fun x5 M5 a5 b5 d5=>?_
 have e5:M5 f=some (.dK (nj w names (4*(most:Nat)) many)):=by rw [d5.2 f nef.1 nef.2,Mem.upd_same]
 obtain ⟨m5,rfl⟩:=Ii a5;have ok:FrOk w many names:=⟨w2,w1,m0,m1,nm⟩;have hm5:m5*100 ^ 5<=9*100 ^ 5:=HQ _ (by omega)
 simp! [];refine calls_of fun Q' E' hq _=>(fH ok 24).2 m5 4 (b+4) _ _ _ (by omega) (by omega) ⟨d5.1.le (by omega),nef.1,nef.2,_,e5⟩ fun rs l M6 dr6 lr6 K6 h6 h6'=>hq _ _ ?_
 obtain ⟨left,e6⟩:=K6.tf.fr;simp! [e6,fm,mH,Mem.upd_del,ao h6,GF];have n0:=nm.n0;have n1:=nm.n1;refine aV (b:=b) (K6.tf.has.le (by omega)) (by omega) (by omega) fun x7 M7 a7 b7 d7=>?_
 obtain ⟨mk,hmk,emk⟩:=rg a7 b7;have e7:M7 f=some (.dK (nj w names left many)):=by rw [d7.2 f nef.1 nef.2];exact e6
 simp! [emk,e7,fm,mH];refine ⟨szl (by decide),drp_id (h w many names rs mk M7 ⟨ok,dr6,by have:=lr6.1;omega,hmk,Hd lr6.2 (Hd (HQ _ (by omega:m5<=9)) (by decide))⟩ ⟨d7.1,fun x o z1 z2 e=>?_⟩)⟩
 have zf:x≠f:=fun z=>by subst z;rw [d1.2 x z1 z2,e] at hf;cases hf
 rw [d7.2 x z1 z2];refine K6.kp x o z1 z2 zf ?_;rw [d5.2 x z1 z2,ai zf,d4.2 x z1 z2,<- hM3,ai zf,d2.2 x z1 z2,ai zf,d1.2 x z1 z2];exact e
end
end Tw
namespace Tw
open PySem L2 L3
structure Hk where
 h:Addr
 dn:Addr
 lr:Addr
 n1:h≠dn
 n2:h≠lr
 n3:dn≠lr
def hD(k:Hk)(c:Cf)(left:Int):List (aP×D):=[(GQ "numbers",.ref k.dn),(GQ "pieces",.tup (c.pieces.map D.int)),(GQ "read",.ref k.lr),(GQ "wheel",.int c.m),(GQ "left",.int left)]
def hM(k:Hk)(c:Cf)(left:Int)(n:hG)(rd:List Int)(M:Mem):Mem:=((M.upd k.h (.dK (hD k c left))).upd k.dn (.dK (kvD n))).upd k.lr (.lst (rd.map D.int))
section
variable {ad:Ad}{k:Hk}{c:Cf}{left v:Int}{n n':hG}{rd rd':List Int}{M:Mem}{names:List Str}{Q:DK}{E:DX}
theorem g8:cn (hD k c left) (GQ "numbers")=some (.ref k.dn):=by simp [cn,hD,bC]
theorem vd:cn (hD k c left) (GQ "pieces")=some (.tup (c.pieces.map D.int)):=by simp [cn,hD,bC]
theorem yM:cn (hD k c left) (GQ "read")=some (.ref k.lr):=by simp [cn,hD,bC]
theorem nG:cn (hD k c left) (GQ "wheel")=some (.int c.m):=by simp [cn,hD,bC]
theorem rU:cn (hD k c left) (GQ "left")=some (.int left):=by simp [cn,hD,bC]
theorem Dy:cX (hD k c left) (GQ "left") (.int v)=hD k c v:=by simp [cX,hD,bC]
theorem eT:hM k c left n rd M k.h=some (.dK (hD k c left)):=by unfold hM;rw [ai k.n2,ai k.n1,Mem.upd_same]
theorem da:hM k c left n rd M k.dn=some (.dK (kvD n)):=by unfold hM;rw [ai k.n3,Mem.upd_same]
theorem kN:hM k c left n rd M k.lr=some (.lst (rd.map D.int)):=by unfold hM;rw [Mem.upd_same]
theorem Gg:(hM k c left n rd M).upd k.h (.dK (hD k c v))=hM k c v n rd M:=by unfold hM;rw [bb k.n2.symm,bb k.n1.symm,Mem.upd_upd]
theorem wb:(hM k c left n rd M).upd k.dn (.dK (kvD n'))=hM k c left n' rd M:=by unfold hM;rw [bb k.n3.symm,Mem.upd_upd]
theorem Gc:(hM k c left n rd M).upd k.lr (.lst (rd'.map D.int))=hM k c left n rd' M:=by unfold hM;rw [Mem.upd_upd]
theorem kR:∀rd:List Int,dI 60 (rd.map D.int)=true
 |[]=>rfl
 |v::rd=>by
  have:=kR rd;simp only [GR,dI,HP];exact ⟨rfl,this⟩
theorem kQ{x:Str}{a:D}{rest:List D}{p:Int}{D':DEnds}{EE:DX}{c4 c5 c6:Option D}(hc:COk c)(hn:NOk names c.m n)(hnl:names.length<=1000)(hx:x∈names)(p0:0<=p)(p1:p<c.pieces.length)(hl:rd.length<=10000)
  (h:∀rd',rd'.length<=rd.length+1->D'.nx [some (.ref k.h),some (.tup (a::.str x::rest)),some (.ref k.dn),some (.int p),c4,c5,c6] (hM k c left (sN n x ((c.pieces[p.toNat]?).getD 0)) rd' M)):
  gR ad EE D' [some (.ref k.h),some (.tup (a::.str x::rest)),some (.ref k.dn),some (.int p),c4,c5,c6] (hM k c left n rd M):=by
 have hk:(kvD n).length<sizeLine:=by rw [kvD,GF,<- GF (f:=(·.1)),hn.keys];exact g_ (by lia)
 have pt:∀{x:Str} {v:Int},x∈names->cX (kvD n) (GQ x) (.int v)=kvD (sN n x v):=fun hx=>je (by rw [hn.keys];exact hx)
 have ep:atI (c.pieces.map D.int) p=some (.int ((c.pieces[p.toNat]?).getD 0)):=by
  rw [cr p0,GU,(hc.piece (i:=p.toNat) (by lia)).1]
  rfl
 have st:∀rd':List Int,rd'.length<=rd.length+1->mV ad EE D' [some (.ref k.h),some (.tup (a::.str x::rest)),some (.ref k.dn),some (.int p),c4,c5,c6] (hM k c left n rd' M):=fun rd' hr=>by
  simp! [da,eT,vd,atI_1,ep,pt hx,wb];exact ⟨hk,h rd' hr⟩
 unfold gR;generalize mV ad EE=K at st ⊢;simp! [eT,yM,kN,kR,GF]
 split
 ·refine ⟨g_ (by lia),?_⟩
  have:=st (rd++[p]) (by simp)
  rw [<- Gc (rd:=rd),II] at this;exact this
 ·exact st rd (by lia)
theorem wS{w x y z:Str}{D':DEnds}{EE:DX}{c3 c6:Option D}(hc:COk c)(hn:NOk names c.m n)(hnl:names.length<=1000)(hr:RwOk names c.m c.pieces.length (.two w x y z))
  (h:∀d M',(∀b o,hM k c left (sN n x (Ao w (nm n y) (nm n z) c.m)) rd M b=some o->M' b=some o)->D'.nx [some (.ref k.h),some (.tup [.str w,.str x,.str y,.str z]),some (.ref k.dn),c3,some (.int (nm n y)),some (.int (nm n z)),some d] M'):
  iP ad EE D' [some (.ref k.h),some (.tup [.str w,.str x,.str y,.str z]),some (.ref k.dn),c3,some (.int (nm n y)),some (.int (nm n z)),c6] (hM k c left n rd M):=by
 have hk:(kvD n).length<sizeLine:=by rw [kvD,GF,<- GF (f:=(·.1)),hn.keys];exact g_ (by lia)
 have pt:∀{x:Str} {v:Int},x∈names->cX (kvD n) (GQ x) (.int v)=kvD (sN n x v):=fun hx=>je (by rw [hn.keys];exact hx)
 have a1:=hn.at hr.2.2.1;have a2:=hn.at hr.2.2.2;have hmul:CMul (nm n y) (nm n z):=.inl ⟨by have:=hc.m1;lia,by have:=hc.m1;lia⟩
 unfold iP;generalize hK:tL ad EE=K;simp only [aw,aE,kT];intro p hp;have n1:k.h≠p:=fun e=>by rw [<- e,eT] at hp;cases hp
 have n2:k.dn≠p:=fun e=>by rw [<- e,da] at hp;cases hp
 have e1:∀o,((hM k c left n rd M).upd p o) k.h=some (.dK (hD k c left)):=fun o=>by rw [ai n1,eT]
 simp! [e1,nG];have m2:=hc.m2;refine ⟨by lia,hmul,by lia,by decide,?_⟩
 rw [Mem.upd_upd];have ev:cn (eY [GQ "sum",GQ "less",GQ "by",GQ "same"] [D.int ((nm n y+nm n z) % c.m),D.int (if nm n y<nm n z then 1 else 0),D.int (nm n y*nm n z % c.m),D.int (if nm n y=nm n z then 1 else 0)]) (GQ w)=some (.int (Ao w (nm n y) (nm n z) c.m)):=by
  have w1:w="sum"\/w="by"\/w="less"\/w="same":=hr.1;rcases w1 with rfl|rfl|rfl|rfl
  all_goals simp [cn,eY,cX,Ao,bC]
 generalize eY [GQ "sum",GQ "less",GQ "by",GQ "same"] [D.int ((nm n y+nm n z) % c.m),D.int (if nm n y<nm n z then 1 else 0),D.int (nm n y*nm n z % c.m),D.int (if nm n y=nm n z then 1 else 0)]=al at ev ⊢
 have e2:((hM k c left n rd M).upd p (.dK al)) k.dn=some (.dK (kvD n)):=by rw [ai n2,da]
 rw [<- hK];simp! [Mem.upd_same,atI_0,atI_1,ev,e2,pt hr.2.1];refine ⟨hk,h _ _ fun b o e=>?_⟩;rw [bb n2.symm,wb];have:b≠p:=fun q=>by
  subst q;unfold hM at hp e;rw [ai (fun q=>by rw [q,Mem.upd_same] at hp;cases hp)] at e hp
  rw [ai n2.symm] at e hp;rw [e] at hp;cases hp
 rw [ai this];exact e
theorem uH{r:Rw}(hc:COk c)(hn:NOk names c.m n)(hnl:names.length<=1000)(hr:RwOk names c.m c.pieces.length r)(hl:rd.length<=10000)
  (h:∀rd',rd'.length<=rd.length+1->Q .non (hM k c left (sN n (pK r) (num c n r)) rd' M)):t8 ad [.ref k.h,r.d] (hM k c left n rd M) Q E:=by
 have hk:(kvD n).length<sizeLine:=by rw [kvD,GF,<- GF (f:=(·.1)),hn.keys];exact g_ (by lia)
 have pt:∀{x:Str} {v:Int},x∈names->cX (kvD n) (GQ x) (.int v)=kvD (sN n x v):=fun hx=>je (by rw [hn.keys];exact hx)
 cases r with
 |put x v=>
  simp only [sK];unfold iC ft;generalize fu ad (aU E)=K;simp! [eT,g8,Rw.d,da,atI_0,atI_1,atI_2,pt hr.1,wb];exact ⟨hk,drp_id (h rd (by lia))⟩
 |take x i=>
  have tl:=kQ (ad:=ad) (k:=k) (left:=left) (M:=M) (a:=.str "take") (rest:=[.int i]) (p:=i) (D':={ nx:=fun _ M'=>drp Q .non M',rt:=drp Q }) (EE:=aU E) (c4:=none) (c5:=none) (c6:=none) hc hn hnl hr.1 hr.2.1 hr.2.2 hl fun rd' l=>drp_id (h rd' l);simp only [sK];unfold iC ft fu jg mF;generalize gR ad (aU E)=K at tl ⊢;generalize gM ad (aU E)=K11;simp! [eT,g8,Rw.d,da,atI_0,atI_1,atI_2];exact tl
 |pick x y=>
  have m0:=hr.2.2;have tl:=kQ (ad:=ad) (k:=k) (left:=left) (M:=M) (a:=.str "pick") (rest:=[.str y]) (p:=nm n y % (c.pieces.length:Int)) (D':={ nx:=fun _ M'=>drp Q .non M',rt:=drp Q }) (EE:=aU E) (c4:=none) (c5:=none) (c6:=none) hc hn hnl hr.1 (I0 _ (by lia)) (IF _ (by lia)) hl fun rd' l=>drp_id (h rd' l)
  simp only [sK];unfold iC ft fu jg mF;generalize gR ad (aU E)=K at tl ⊢;generalize gM ad (aU E)=K11;simp! [eT,g8,vd,Rw.d,da,atI_0,atI_1,atI_2,cS,(hn.at hr.2.1).1,Ib,GF];exact ⟨by lia,tl⟩
 |two w x y z=>
  have tl:=wS (ad:=ad) (k:=k) (left:=left) (M:=M) (rd:=rd) (D':={ nx:=fun _ M'=>drp Q .non M',rt:=drp Q }) (EE:=aU E) (c3:=none) (c6:=none) hc hn hnl hr fun d M' s=>⟨_,s,h rd (by lia)⟩
  simp only [sK];unfold iC ft fu gM pj;generalize jg ad (aU E)=K7;generalize iP ad (aU E)=K9 at tl ⊢;have w1:w="sum"\/w="by"\/w="less"\/w="same":=hr.1;rcases w1 with rfl|rfl|rfl|rfl
  all_goals
   simp! [Rw.d,da,eT,g8,nG,atI_0,atI_1,atI_2,atI_3,cS,(hn.at hr.2.2.1).1,(hn.at hr.2.2.2).1,Ib];exact tl
 |ifr=>exact hr.elim
 |again=>exact hr.elim
end
end Tw
namespace Tw
open PySem L2 L3
def hS(k:Hk)(c:Cf)(s:Sx)(rd:List Int)(M:Mem):Mem:=hM k c ((c.most:Int)-s.steps.length) s.nums rd M
section
variable {ad:Ad}{k:Hk}{c:Cf}{names:List Str}{M:Mem}
def EM(ad:Ad)(k:Hk)(c:Cf)(names:List Str)(n:Nat):Prop:=∀(rs:List Rw) (pl:List Int) (j:Nat) (s:Sx) (rd:List Int) (M:Mem) (Q:DK) (E:DX),cN names c.m c.pieces.length rs->fO rs+1<=n->NOk names c.m s.nums->s.steps.length<=c.most->rd.length<=s.steps.length->
 (∀rd',(bv c rs pl j s).1=true->rd'.length<=(bv c rs pl j s).2.steps.length->Q (.bl true) (hS k c (bv c rs pl j s).2 rd' M))->(∀l n rd',(bv c rs pl j s).1=false->Q (.bl false) (hM k c l n rd' M))->Mt ad n [.ref k.h,.tup (aK rs)] (hS k c s rd M) Q E
theorem wJ{S:Sd}{EE:DX}{D':DEnds}{rw0:D}{w x:Str}{rest:List D}{c3 c4:Option D}{left:Int}{n:hG}{rd:List Int}(hn:NOk names c.m n)(hx:x∈names)
  (h1:left-1<0->D'.rt (.bl false) (hM k c (left-1) n rd M)) (h2:0<=left-1->dW ad S EE D' [some (.ref k.h),some rw0,some (.tup (.str w::.str x::rest)),c3,some (.bl (!decide (nm n x=0)))] (hM k c (left-1) n rd M)):
  i_ ad S EE D' [some (.ref k.h),some rw0,some (.tup (.str w::.str x::rest)),c3,c4] (hM k c left n rd M):=by
 unfold i_ rZ sy;generalize dW ad S EE=K at h2 ⊢;simp! [eT,rU,Dy,Gg,g8,da,atI_1,cS,(hn.at hx).1,Ib];refine ⟨g_ (by simp [hD]),?_⟩
 split
 ·rename_i q;exact h1 q
 ·exact h2 (by lia)
theorem BX{S:Sd}{EE:DX}{D':DEnds}{rw0:D}{w:Str}{rest:List D}{c3:Option D}{t:Bool}(w1:w≠"if")(w2:w≠"again")(h:D'.nx [some (.ref k.h),some rw0,some (.tup (.str w::rest)),some (.bl false),some (.bl t)] M):
  dW ad S EE D' [some (.ref k.h),some rw0,some (.tup (.str w::rest)),c3,some (.bl t)] M:=by
 simp! [atI_0,w1,w2,decide_false];exact h
theorem EZ{S:Sd}{EE:DX}{D':DEnds}{rw0:D}{x:Str}{a b:List Rw}{c3:Option D}{t:Bool}
  (h:∀(Q':DK) (E':DX),(∀M',D'.nx [some (.ref k.h),some rw0,some (.tup [.str "if",.str x,.tup (aK a),.tup (aK b)]),some (.bl false),some (.bl t)] M'->Q' (.bl true) M')->(∀M',D'.rt (.bl false) M'->Q' (.bl false) M')->S [.ref k.h,.tup (if t=true then aK a else aK b)] M Q' E'):
  dW ad S EE D' [some (.ref k.h),some rw0,some (.tup [.str "if",.str x,.tup (aK a),.tup (aK b)]),c3,some (.bl t)] M:=by
 unfold dW mP;generalize hK:rV ad S EE=K;cases t with
 |true=>
  simp! [atI_0,atI_2,decide_false,decide_true,show (3:Int)-1=2 from rfl];refine calls_of fun Q' E' hq _=>h Q' E' (fun M' z=>hq _ _ ?_) (fun M' z=>hq _ _ ?_)
  ·simp! [<- hK]
   exact z
  ·simp! []
   exact z
 |false=>
  simp! [atI_0,atI_3,decide_false,decide_true,show (3:Int)-0=3 from rfl];refine calls_of fun Q' E' hq _=>h Q' E' (fun M' z=>hq _ _ ?_) (fun M' z=>hq _ _ ?_)
  ·simp! [<- hK]
   exact z
  ·simp! []
   exact z
theorem vm{S:Sd}{EE:DX}{D':DEnds}{rw0:D}{x:Str}{a:List Rw}{c3:Option D}{t:Bool}
  (h0:t=false->D'.nx [some (.ref k.h),some rw0,some (.tup [.str "again",.str x,.tup (aK a)]),some (.bl false),some (.bl false)] M)
  (h:t=true->∀(Q':DK) (E':DX),(∀M',D'.nx [some (.ref k.h),some rw0,some (.tup [.str "again",.str x,.tup (aK a)]),some (.bl true),some (.bl true)] M'->Q' (.bl true) M')->(∀M',D'.rt (.bl false) M'->Q' (.bl false) M')->S [.ref k.h,.tup (aK a)] M Q' E'):
  dW ad S EE D' [some (.ref k.h),some rw0,some (.tup [.str "again",.str x,.tup (aK a)]),c3,some (.bl t)] M:=by
 unfold dW mP;cases t with
 |true=>
  simp! [atI_0,atI_2,decide_false,decide_true];refine calls_of fun Q' E' hq _=>h rfl Q' E' (fun M' z=>hq _ _ ?_) (fun M' z=>hq _ _ ?_)
  ·simp! []
   exact z
  ·simp! []
   exact z
 |false=>
  simp! [atI_0,atI_2,decide_false,decide_true];exact h0 rfl
end
end Tw
namespace Tw
open PySem L2 L3
section
variable {ad:Ad}{k:Hk}{c:Cf}{names:List Str}{M:Mem}
theorem rb{m many:Int}{r:Rw}(h:RwOk names m many r):∃w rest,r.d=.tup (.str w::.str (pK r)::rest)/\w≠("if":Str)/\w≠("again":Str)/\pK r∈names/\t_ r=true:=by
 cases r with
 |put x v=>exact ⟨"put",[.int v],by simp only [Rw.d,pK],by simp [bC],by simp [bC],h.1,rfl⟩
 |take x v=>exact ⟨"take",[.int v],by simp only [Rw.d,pK],by simp [bC],by simp [bC],h.1,rfl⟩
 |pick x v=>exact ⟨"pick",[.str v],by simp only [Rw.d,pK],by simp [bC],by simp [bC],h.1,rfl⟩
 |two w x y z=>
  have w1:w="sum"\/w="by"\/w="less"\/w="same":=h.1;refine ⟨w,[.str y,.str z],by simp only [Rw.d,pK],?_,?_,h.2.1,rfl⟩
  all_goals rcases w1 with rfl|rfl|rfl|rfl
  all_goals simp [bC]
 |ifr=>exact h.elim
 |again=>exact h.elim
theorem wh_on{c3:fb}{tb:aG}{D':DEnds}{bx:BxW c3 tb D'}{n:Nat}{δ:Dl}{M:Mem}(ht:∀K:Bool->Mem->Prop,K true M->c3 δ M K)(h:tb { D' with nx:=whileD c3 tb D' bx n,ct:=whileD c3 tb D' bx n,bk:=D'.nx } δ M):whileD c3 tb D' bx (n+1) δ M:=by
 unfold whileD;refine ht _ ?_;rw [if_pos rfl];exact h
theorem mJ{c3:fb}{tb:aG}{D':DEnds}{bx:BxW c3 tb D'}{n:Nat}{δ:Dl}{M:Mem}(ht:∀K:Bool->Mem->Prop,K false M->c3 δ M K)(h:D'.nx δ M):whileD c3 tb D' bx (n+1) δ M:=by
 unfold whileD;refine ht _ ?_;rw [if_neg (by simp)]
 exact h
theorem qi{x0 x1 x2 x4:Option D}{t:Bool}(K:Bool->Mem->Prop)(h:K t M):cY (aa 3) [x0,x1,x2,some (.bl t),x4] M K:=by
 simp! [];exact h
theorem iT{n:Nat}{EE:DX}{D':DEnds}{r:Rw}{pl:List Int}{s:Sx}{rd:List Int}{rw0:D}{c3 c4:Option D}(hc:COk c)(hnl:names.length<=1000)(hr:RwOk names c.m c.pieces.length r)(hno:NOk names c.m s.nums)(hst:s.steps.length<=c.most)(hrd:rd.length<=s.steps.length)
  (h1:∀c3 c4 rd',(exR c r pl s).1=true->rd'.length<=(exR c r pl s).2.steps.length->D'.nx [some (.ref k.h),some rw0,some r.d,c3,c4] (hS k c (exR c r pl s).2 rd' M)) (h2:∀l n rd',(exR c r pl s).1=false->D'.rt (.bl false) (hM k c l n rd' M)):
  dB ad (Mt ad n) EE D' [some (.ref k.h),some rw0,some r.d,c3,c4] (hS k c s rd M):=by
 obtain ⟨w,rest,ed,w1,w2,hx,hs⟩:=rb hr;have hm:=hc.most;rw [br hs] at h1 h2;have tl:0<=((c.most:Int)-s.steps.length)-1->∀t,eS ad (Mt ad n) EE D' [some (.ref k.h),some rw0,some r.d,some (.bl false),some (.bl t)] (hM k c ((c.most:Int)-s.steps.length-1) s.nums rd M):=fun q t=>by
  have e:eD c r pl s=(true,⟨sN s.nums (pK r) (num c s.nums r),s.steps++[(pl,num c s.nums r)]⟩):=by unfold eD;rw [if_pos (by lia)]
  rw [e] at h1;simp! [ed,atI_0,w1,w2,decide_false];refine calls_of fun Q' E' hq _=>?_;rw [<- ed];refine uH hc hno hnl hr (by lia) fun rd' l=>hq _ _ ?_
  have:=h1 (some (.bl false)) (some (.bl t)) rd' rfl (by simp;lia)
  unfold hS at this;simp only [GP,GI,Hg] at this;have e3:(c.most:Int)-((s.steps.length+(0+1):Nat):Int)=(c.most:Int)-s.steps.length-1:=by lia
  rw [e3] at this;exact this
 unfold dB j4;generalize eS ad (Mt ad n) EE=K8 at tl ⊢;rw [ed] at tl ⊢;simp only [aw,aE,dC,ap,Hv,dWhile];refine ⟨2,wh_on (fun K h=>qi K h) ?_⟩;unfold hS;have nd:((c.most:Int)-s.steps.length)-1<0->(eD c r pl s).1=false:=fun q=>by
  unfold eD;rw [if_neg (by lia)]
 refine wJ hno hx (fun q=>h2 _ _ _ (nd q)) fun q=>?_;refine BX w1 w2 ?_;dsimp only;exact mJ (n:=0) (fun K h=>qi K h) (tl q _)
theorem DF{n:Nat}(ih:EM ad k c names n){EE:DX}{D':DEnds}{x:Str}{a b:List Rw}{pl:List Int}{s:Sx}{rd:List Int}{rw0:D}{c3 c4:Option D}(hc:COk c)(hx:x∈names)(hoa:cN names c.m c.pieces.length a)(hob:cN names c.m c.pieces.length b)(ha:fO a+1<=n)(hb:fO b+1<=n)(hno:NOk names c.m s.nums)(hst:s.steps.length<=c.most)(hrd:rd.length<=s.steps.length)
  (h1:∀c3 c4 rd',(exR c (.ifr x a b) pl s).1=true->rd'.length<=(exR c (.ifr x a b) pl s).2.steps.length->D'.nx [some (.ref k.h),some rw0,some (.tup [.str "if",.str x,.tup (aK a),.tup (aK b)]),c3,c4] (hS k c (exR c (.ifr x a b) pl s).2 rd' M)) (h2:∀l n rd',(exR c (.ifr x a b) pl s).1=false->D'.rt (.bl false) (hM k c l n rd' M)):
  dB ad (Mt ad n) EE D' [some (.ref k.h),some rw0,some (.tup [.str "if",.str x,.tup (aK a),.tup (aK b)]),c3,c4] (hS k c s rd M):=by
 have hm:=hc.most;have tl:∀c4 M',D'.nx [some (.ref k.h),some rw0,some (.tup [.str "if",.str x,.tup (aK a),.tup (aK b)]),some (.bl false),c4] M'->eS ad (Mt ad n) EE D' [some (.ref k.h),some rw0,some (.tup [.str "if",.str x,.tup (aK a),.tup (aK b)]),some (.bl false),c4] M':=fun c4 M' z=>by
  simp! [atI_0,decide_false];exact z
 unfold dB j4;generalize eS ad (Mt ad n) EE=K8 at tl ⊢;simp only [aw,aE,dC,ap,Hv,dWhile];refine ⟨2,wh_on (fun K h=>qi K h) ?_⟩;unfold hS;refine wJ hno hx (fun q=>h2 _ _ _ ?_) fun q=>?_
 ·unfold exR nt
  rw [if_neg (by rw [if_neg (by lia)];simp),if_neg (by lia)]
 have e0:∀v,nt c pl v s=(true,⟨s.nums,s.steps++[(pl,v)]⟩):=fun v=>by unfold nt;rw [if_pos (by lia)]
 have e3:∀v,hM k c ((c.most:Int)-s.steps.length-1) s.nums rd M=hS k c ⟨s.nums,s.steps++[(pl,v)]⟩ rd M:=fun v=>by
  unfold hS;congr 1;simp only [GP,GI,Hg];lia
 refine EZ fun Q' E' g1 g2=>?_
 by_cases cz:nm s.nums x=0
 ·have el:lk s.nums x=0:=by unfold lk;rw [if_pos cz]
  have ee:exR c (.ifr x a b) pl s=bv c b (pl++[0]) 0 ⟨s.nums,s.steps++[(pl,0)]⟩:=by
   unfold exR;rw [el,e0,if_pos rfl,if_neg (by decide)]
  rw [ee] at h1 h2;rw [if_neg (by simp [cz]),e3 0]
  refine ih b (pl++[0]) 0 _ rd M Q' E' hob hb hno (by simp;lia) (by simp;lia) (fun rd' z1 z2=>g1 _ ?_) fun l n rd' z=>g2 _ (h2 l n rd' z)
  dsimp only;exact mJ (n:=0) (fun K h=>qi K h) (tl _ _ (h1 _ _ rd' z1 z2))
 ·have el:lk s.nums x=1:=by unfold lk;rw [if_neg cz]
  have ee:exR c (.ifr x a b) pl s=bv c a (pl++[1]) 0 ⟨s.nums,s.steps++[(pl,1)]⟩:=by
   unfold exR;rw [el,e0,if_pos rfl,if_pos rfl]
  rw [ee] at h1 h2;rw [if_pos (by simp [cz]),e3 1]
  refine ih a (pl++[1]) 0 _ rd M Q' E' hoa ha hno (by simp;lia) (by simp;lia) (fun rd' z1 z2=>g1 _ ?_) fun l n rd' z=>g2 _ (h2 l n rd' z)
  dsimp only;exact mJ (n:=0) (fun K h=>qi K h) (tl _ _ (h1 _ _ rd' z1 z2))
theorem ur{n:Nat}(ih:EM ad k c names n){EE:DX}{D':DEnds}{x:Str}{a:List Rw}{pl:List Int}{s:Sx}{rd:List Int}{rw0:D}{c3 c4:Option D}(hc:COk c)(hx:x∈names)(hoa:cN names c.m c.pieces.length a)(ha:fO a+1<=n)(hno:NOk names c.m s.nums)(hst:s.steps.length<=c.most)(hrd:rd.length<=s.steps.length)
  (h1:∀c3 c4 rd',(exR c (.again x a) pl s).1=true->rd'.length<=(exR c (.again x a) pl s).2.steps.length->D'.nx [some (.ref k.h),some rw0,some (.tup [.str "again",.str x,.tup (aK a)]),c3,c4] (hS k c (exR c (.again x a) pl s).2 rd' M)) (h2:∀l n rd',(exR c (.again x a) pl s).1=false->D'.rt (.bl false) (hM k c l n rd' M)):
  dB ad (Mt ad n) EE D' [some (.ref k.h),some rw0,some (.tup [.str "again",.str x,.tup (aK a)]),c3,c4] (hS k c s rd M):=by
 have hm:=hc.most;have tl:∀c4 M',D'.nx [some (.ref k.h),some rw0,some (.tup [.str "again",.str x,.tup (aK a)]),some (.bl false),c4] M'->eS ad (Mt ad n) EE D' [some (.ref k.h),some rw0,some (.tup [.str "again",.str x,.tup (aK a)]),some (.bl false),c4] M':=fun c4 M' z=>by
  simp! [atI_0,decide_false];exact z
 unfold dB j4;generalize eS ad (Mt ad n) EE=K8 at tl ⊢;simp only [aw,aE,dC,ap,Hv,dWhile];refine ⟨c.most+1+1,?_⟩;unfold exR at h1 h2
 have key:∀(f t:Nat) (s:Sx) (rd:List Int) (c4:Option D),NOk names c.m s.nums->s.steps.length<=c.most->c.most<s.steps.length+f->rd.length<=s.steps.length->
   (∀c3 c4 rd',(bT c x pl (fun t s=>bv c a (pl++[(t:Int)]) 0 s) f t s).1=true->rd'.length<=(bT c x pl (fun t s=>bv c a (pl++[(t:Int)]) 0 s) f t s).2.steps.length->D'.nx [some (.ref k.h),some rw0,some (.tup [.str "again",.str x,.tup (aK a)]),c3,c4] (hS k c (bT c x pl (fun t s=>bv c a (pl++[(t:Int)]) 0 s) f t s).2 rd' M))->
   (∀l n rd',(bT c x pl (fun t s=>bv c a (pl++[(t:Int)]) 0 s) f t s).1=false->D'.rt (.bl false) (hM k c l n rd' M))->
   whileD (cY (aa 3)) (i_ ad (Mt ad n) EE) { nx:=K8 D',rt:=D'.rt,bk:=D'.bk,ct:=D'.ct } { } (f+1) [some (.ref k.h),some rw0,some (.tup [.str "again",.str x,.tup (aK a)]),some (.bl true),c4] (hS k c s rd M):=by
  intro f
  induction f with
  |zero=>intro t s rd c4 hno hst hf;lia
  |succ f ihf=>
   intro t s rd c4 hno hst hf hrd h1 h2;refine wh_on (fun K h=>qi K h) ?_;unfold hS;refine wJ hno hx (fun q=>h2 _ _ _ ?_) fun q=>?_
   ·unfold bT nt
    rw [if_neg (by rw [if_neg (by lia)];simp),if_neg (by lia)]
   have e0:∀pl v,nt c pl v s=(true,⟨s.nums,s.steps++[(pl,v)]⟩):=fun pl v=>by unfold nt;rw [if_pos (by lia)]
   have e3:∀(pl:List Int) v,hM k c ((c.most:Int)-s.steps.length-1) s.nums rd M=hS k c ⟨s.nums,s.steps++[(pl,v)]⟩ rd M:=fun pl v=>by
    unfold hS;congr 1;simp only [GP,GI,Hg];lia
   refine vm (fun q=>?_) fun q Q' E' g1 g2=>?_
   ·have cz:nm s.nums x=0:=by simpa using q
    have el:lk s.nums x=0:=by unfold lk;rw [if_pos cz]
    have ee:bT c x pl (fun t s=>bv c a (pl++[(t:Int)]) 0 s) (f+1) t s=(true,⟨s.nums,s.steps++[(pl++[(t:Int)],0)]⟩):=by
     unfold bT;rw [el,e0,if_pos rfl,if_neg (by decide)]
    rw [ee] at h1 h2;rw [e3 (pl++[(t:Int)]) 0];dsimp only;exact mJ (n:=f) (fun K h=>qi K h) (tl _ _ (h1 _ _ rd rfl (by simp;lia)))
   ·have cz:¬nm s.nums x=0:=by simpa using q
    have el:lk s.nums x=1:=by unfold lk;rw [if_neg cz]
    have ee:bT c x pl (fun t s=>bv c a (pl++[(t:Int)]) 0 s) (f+1) t s=if (bv c a (pl++[(t:Int)]) 0 ⟨s.nums,s.steps++[(pl++[(t:Int)],1)]⟩).1=true then bT c x pl (fun t s=>bv c a (pl++[(t:Int)]) 0 s) f (t+1) (bv c a (pl++[(t:Int)]) 0 ⟨s.nums,s.steps++[(pl++[(t:Int)],1)]⟩).2 else bv c a (pl++[(t:Int)]) 0 ⟨s.nums,s.steps++[(pl++[(t:Int)],1)]⟩:=by
     conv=>lhs;unfold bT
     rw [el,e0,if_pos rfl,if_pos rfl]
    rw [ee] at h1 h2;rw [e3 (pl++[(t:Int)]) 1];have hg:=cE (c:=c) a (pl++[(t:Int)]) 0 ⟨s.nums,s.steps++[(pl++[(t:Int)],1)]⟩;have hl1:(s.steps++[(pl++[(t:Int)],(1:Int))]).length=s.steps.length+1:=by simp
    have hno1:=cQ hc a hoa (pl++[(t:Int)]) 0 ⟨s.nums,s.steps++[(pl++[(t:Int)],1)]⟩ hno;refine ih a (pl++[(t:Int)]) 0 _ rd M Q' E' hoa ha hno (by simp;lia) (by simp;lia) (fun rd' z1 z2=>g1 _ ?_) fun l n rd' z=>g2 _ (h2 l n rd' (by rw [if_neg (by rw [z];simp)];exact z))
    rw [if_pos z1] at h1 h2;have hg1:=hg.1;have hg2:=hg.2;simp only [hl1] at hg1 hg2;dsimp only;exact ihf (t+1) _ rd' _ hno1 (by lia) (by lia) z2 h1 h2
 exact key (c.most+1) 0 s rd c4 hno hst (by lia) hrd h1 h2
theorem zd(hc:COk c)(hnl:names.length<=1000){n:Nat}(ih:EM ad k c names n):EM ad k c names (n+1):=by
 intro rs pl j s rd M Q E hok hh hno hst hrd h1 h2;simp only [TM];unfold OE;simp! [↓dFor];refine forD_inv (fun xs δ N=>∃(rs':List Rw) (j':Nat) (s':Sx) (rd':List Int) (c2 c3 c4:Option D),xs=aK rs'/\δ=[some (.ref k.h),some (.tup (aK rs)),c2,c3,c4]/\N=hS k c s' rd' M/\cN names c.m c.pieces.length rs'/\fO rs'<=n/\NOk names c.m s'.nums/\s'.steps.length<=c.most/\rd'.length<=s'.steps.length/\bv c rs pl j s=bv c rs' pl j' s') (fun _ _ _ _=>bQ) ?_ ?_ _ _ _ ⟨rs,j,s,rd,none,none,none,rfl,rfl,rfl,hok,by lia,hno,hst,hrd,rfl⟩
 ·rintro δ N ⟨rs',j',s',rd',c2,c3,c4,ex,rfl,rfl,ok',hh',hno',hst',hrd',ee⟩
  have:rs'=[]:=by cases rs' with|nil=>rfl|cons _ _=>simp [aK] at ex
  subst this;simp only [bv] at ee;rw [ee] at h1;simp! [];exact drp_id (h1 rd' rfl hrd')
 ·rintro x xs δ N ⟨rs',j',s',rd',c2,c3,c4,ex,rfl,rfl,ok',hh',hno',hst',hrd',ee⟩ D' hnx _ hrt _
  cases rs' with
  |nil=>simp [aK] at ex
  |cons r rs'=>
   simp only [aK,IQ] at ex;obtain ⟨rfl,rfl⟩:=ex;simp only [cN] at ok';simp only [fO] at hh';have hg:=jJ (c:=c) r (pl++[(j':Int)]) s';have hno1:=m7 hc r ok'.1 (pl++[(j':Int)]) s' hno'
   conv at ee=>rhs;unfold bv
   have g1:∀(c3 c4:Option D) (rd1:List Int),(exR c r (pl++[(j':Int)]) s').1=true->rd1.length<=(exR c r (pl++[(j':Int)]) s').2.steps.length->D'.nx [some (.ref k.h),some (.tup (aK rs)),some r.d,c3,c4] (hS k c (exR c r (pl++[(j':Int)]) s').2 rd1 M):=fun c3 c4 rd1 z1 z2=>
    hnx _ _ ⟨rs',j'+1,_,rd1,_,_,_,rfl,rfl,rfl,ok'.2,by lia,hno1,hg.2 hst',z2,by rw [ee,if_pos z1]⟩
   have g2:∀l n rd1,(exR c r (pl++[(j':Int)]) s').1=false->D'.rt (.bl false) (hM k c l n rd1 M):=fun l n rd1 z=>by
    rw [hrt];exact drp_id (h2 l n rd1 (by rw [ee,if_neg (by rw [z];simp)];exact z))
   simp only [ap,Hv];cases r with
   |ifr x a b=>
    simp only [Rw.d] at g1 ⊢;have o:=ok'.1;simp only [OkR] at o;simp only [hR] at hh';exact DF ih hc o.1 o.2.1 o.2.2 (by lia) (by lia) hno' hst' hrd' g1 g2
   |again x a=>
    simp only [Rw.d] at g1 ⊢;have o:=ok'.1;simp only [OkR] at o;simp only [hR] at hh';exact ur ih hc o.1 o.2 (by lia) hno' hst' hrd' g1 g2
   |put x v=>exact iT hc hnl (by simpa only [OkR] using ok'.1) hno' hst' hrd' g1 g2
   |take x v=>exact iT hc hnl (by simpa only [OkR] using ok'.1) hno' hst' hrd' g1 g2
   |pick x v=>exact iT hc hnl (by simpa only [OkR] using ok'.1) hno' hst' hrd' g1 g2
   |two w x y z=>exact iT hc hnl (by simpa only [OkR] using ok'.1) hno' hst' hrd' g1 g2
theorem p_(hc:COk c)(hnl:names.length<=1000):∀n,EM ad k c names n
 |0=>fun rs pl j s rd M Q E _ h=>by lia
 |n+1=>zd hc hnl (p_ hc hnl n)
end
end Tw
namespace Tw
open PySem L2 L3
section
variable {c c':Cf}
theorem mB(b:Bool):b=false\/b=true:=by cases b<;>simp
def Pre(s s':Sx):Prop:=∃t,s'.steps=s.steps++t
theorem Pre.refl{s:Sx}:Pre s s:=⟨[],by simp⟩
theorem Pre.trans{s s1 s2:Sx}(a:Pre s s1)(b:Pre s1 s2):Pre s s2:=by
 obtain ⟨t,e⟩:=a;obtain ⟨u,e'⟩:=b;exact ⟨t++u,by rw [e',e,Kn]⟩
theorem nt_pre{pl:List Int}{v:Int}{s:Sx}:Pre s (nt c pl v s).2:=by
 unfold nt;split
 ·exact ⟨[(pl,v)],rfl⟩
 ·exact Pre.refl
theorem gw{r:Rw}{pl:List Int}{s:Sx}:Pre s (eD c r pl s).2:=by
 unfold eD;split
 ·exact ⟨[(pl,num c s.nums r)],rfl⟩
 ·exact Pre.refl
theorem gI{x:Str}{pl:List Int}{body:Nat->Sx->Bool×Sx}(hb:∀t s,Pre s (body t s).2):∀(f t:Nat) (s:Sx),Pre s (bT c x pl body f t s).2
 |0,_,s=>Pre.refl
 |f+1,t,s=>by
  unfold bT
  split
  ·split
   ·split
    ·exact nt_pre.trans ((hb t _).trans (gI hb f (t+1) _))
    ·exact nt_pre.trans (hb t _)
   ·exact nt_pre
  ·exact nt_pre
mutual
theorem t9:∀(r:Rw) (pl:List Int) (s:Sx),Pre s (exR c r pl s).2
 |.ifr x a b,pl,s=>by
  unfold exR
  split
  ·split
   ·exact nt_pre.trans (cT a _ _ _)
   ·exact nt_pre.trans (cT b _ _ _)
  ·exact nt_pre
 |.again x a,pl,s=>by
  unfold exR;exact gI (fun t s=>cT a _ _ _) _ _ _
 |.put x k,pl,s=>by rw [br rfl];exact gw
 |.take x k,pl,s=>by rw [br rfl];exact gw
 |.pick x k,pl,s=>by rw [br rfl];exact gw
 |.two w x y z,pl,s=>by rw [br rfl];exact gw
theorem cT:∀(rs:List Rw) (pl:List Int) (j:Nat) (s:Sx),Pre s (bv c rs pl j s).2
 |[],_,_,s=>by unfold bv;exact Pre.refl
 |r::rs,pl,j,s=>by
  unfold bv
  split
  ·exact (t9 r _ _).trans (cT rs _ _ _)
  ·exact t9 r _ _
end
end
end Tw
namespace Tw
open PySem L2 L3
section
variable {c c':Cf}
structure More(c c':Cf):Prop where
 m:c'.m=c.m
 pieces:c'.pieces=c.pieces
 most:c.most<=c'.most
def MR(c:Cf)(r r':Bool×Sx):Prop:=(r.1=true->r'=r)/\(r.1=false->Pre r.2 r'.2/\(r'.1=true->c.most<r'.2.steps.length))
theorem Pre.len{s s':Sx}(h:Pre s s'):s.steps.length<=s'.steps.length:=by
 obtain ⟨t,e⟩:=h;rw [e];simp
theorem iM(h:More c c'){pl:List Int}{v:Int}{s:Sx}:MR c (nt c pl v s) (nt c' pl v s):=by
 have:=h.most;unfold nt
 by_cases q:s.steps.length<c.most
 ·rw [if_pos q,if_pos (by lia)]
  exact ⟨fun _=>rfl,fun e=>by cases e⟩
 ·rw [if_neg q]
  refine ⟨fun e=>(by cases e),fun _=>?_⟩
  split
  ·refine ⟨⟨[(pl,v)],rfl⟩,fun _=>?_⟩
   simp;lia
  ·exact ⟨Pre.refl,fun e=>by cases e⟩
theorem wC(h:More c c'){n:hG}:∀r:Rw,num c' n r=num c n r:=by
 intro r;cases r<;>simp [num,h.m,h.pieces]
theorem fF(h:More c c'){r:Rw}{pl:List Int}{s:Sx}:MR c (eD c r pl s) (eD c' r pl s):=by
 have:=h.most;unfold eD;rw [wC h]
 by_cases q:s.steps.length<c.most
 ·rw [if_pos q,if_pos (by lia)]
  exact ⟨fun _=>rfl,fun e=>by cases e⟩
 ·rw [if_neg q]
  refine ⟨fun e=>(by cases e),fun _=>?_⟩
  split
  ·refine ⟨⟨[(pl,num c s.nums r)],rfl⟩,fun _=>?_⟩
   simp;lia
  ·exact ⟨Pre.refl,fun e=>by cases e⟩
theorem MR.seq{r r':Bool×Sx}{f f':Sx->Bool×Sx}(h:MR c r r')(hf:r.1=true->MR c (f r.2) (f' r.2))(hp:∀s,Pre s (f' s).2):MR c (if r.1=true then f r.2 else r) (if r'.1=true then f' r'.2 else r'):=by
 rcases mB r.1 with e|e
 ·rw [if_neg (by rw [e];simp)]
  obtain ⟨h1,h2⟩:=h.2 e;refine ⟨fun z=>(by rw [e] at z;cases z),fun _=>?_⟩
  rcases mB r'.1 with e'|e'
  ·rw [if_neg (by rw [e'];simp)]
   exact ⟨h1,h2⟩
  ·rw [if_pos e']
   exact ⟨h1.trans (hp _),fun _=>GS (h2 e') (hp _).len⟩
 ·have er:=h.1 e
  subst er;rw [if_pos e,if_pos e];exact hf e
theorem MR.refl{r:Bool×Sx}(h:r.1=true):MR c r r:=⟨fun _=>rfl,fun e=>by rw [h] at e;cases e⟩
theorem kZ(h:More c c'){x:Str}{pl:List Int}{body body':Nat->Sx->Bool×Sx}(hg:∀t s,Gr c s (body t s).2)(hpb:∀t s,Pre s (body' t s).2)(hb:∀t s,s.steps.length<=c.most->MR c (body t s) (body' t s)):
  ∀(f f' t:Nat) (s:Sx),s.steps.length<=c.most->c.most<s.steps.length+f->c'.most<s.steps.length+f'->MR c (bT c x pl body f t s) (bT c' x pl body' f' t s)
 |0,_,_,s,h0,h1,_=>by lia
 |_,0,_,s,h0,_,h2=>by have:=h.most;lia
 |f+1,f'+1,t,s,h0,h1,h2=>by
  have hg1:=(nt_gr (c:=c) (pl:=pl++[(t:Int)]) (v:=lk s.nums x) (s:=s)).2 h0;unfold bT
  by_cases hl:lk s.nums x=1
  ·simp only [if_pos hl]
   refine MR.seq (f:=fun u=>if (body t u).1=true then bT c x pl body f (t+1) (body t u).2 else body t u) (f':=fun u=>if (body' t u).1=true then bT c' x pl body' f' (t+1) (body' t u).2 else body' t u) (iM h) (fun e=>?_) (fun u=>?_)
   ·have hlen:(nt c (pl++[(t:Int)]) (lk s.nums x) s).2.steps.length=s.steps.length+1:=by
     unfold nt at e ⊢
     split at e
     ·rename_i q;rw [if_pos q];simp
     ·cases e
    have hg2:=hg t (nt c (pl++[(t:Int)]) (lk s.nums x) s).2;have:=hg2.1;exact MR.seq (f:=bT c x pl body f (t+1)) (f':=bT c' x pl body' f' (t+1)) (hb t _ hg1) (fun _=>kZ h hg hpb hb f f' (t+1) _ (hg2.2 hg1) (by lia) (by lia)) (fun u=>gI hpb _ _ _)
   ·split
    ·exact (hpb t u).trans (gI hpb _ _ _)
    ·exact hpb t u
  ·simp only [if_neg hl]
   have:=iM h (pl:=pl++[(t:Int)]) (v:=lk s.nums x) (s:=s);simpa using this
mutual
theorem xa(h:More c c'):∀(r:Rw) (pl:List Int) (s:Sx),s.steps.length<=c.most->MR c (exR c r pl s) (exR c' r pl s)
 |.ifr x r1 r2,pl,s,h0=>by
  have hg1:=(nt_gr (c:=c) (pl:=pl) (v:=lk s.nums x) (s:=s)).2 h0;unfold exR
  by_cases hl:lk s.nums x=1
  ·simp only [if_pos hl]
   exact MR.seq (f:=bv c r1 (pl++[lk s.nums x]) 0) (f':=bv c' r1 (pl++[lk s.nums x]) 0) (iM h) (fun _=>du h r1 _ _ _ hg1) (fun u=>cT r1 _ _ _)
  ·simp only [if_neg hl]
   exact MR.seq (f:=bv c r2 (pl++[lk s.nums x]) 0) (f':=bv c' r2 (pl++[lk s.nums x]) 0) (iM h) (fun _=>du h r2 _ _ _ hg1) (fun u=>cT r2 _ _ _)
 |.again x r1,pl,s,h0=>by
  unfold exR;have:=h.most;exact kZ h (fun t s=>cE r1 _ _ _) (fun t s=>cT r1 _ _ _) (fun t s hs=>du h r1 _ _ _ hs) _ _ _ _ h0 (by lia) (by lia)
 |.put x k,pl,s,h0=>by rw [br rfl,br rfl];exact fF h
 |.take x k,pl,s,h0=>by rw [br rfl,br rfl];exact fF h
 |.pick x k,pl,s,h0=>by rw [br rfl,br rfl];exact fF h
 |.two w x y z,pl,s,h0=>by rw [br rfl,br rfl];exact fF h
theorem du(h:More c c'):∀(rs:List Rw) (pl:List Int) (j:Nat) (s:Sx),s.steps.length<=c.most->MR c (bv c rs pl j s) (bv c' rs pl j s)
 |[],_,_,s,_=>by simp only [bv];exact MR.refl rfl
 |r::rs,pl,j,s,h0=>by
  unfold bv;exact MR.seq (f:=bv c rs pl (j+1)) (f':=bv c' rs pl (j+1)) (xa h r _ _ h0) (fun _=>du h rs _ _ _ ((jJ r _ _).2 h0)) (fun u=>cT rs _ _ _)
end
end
end Tw
namespace L3
open PySem L2
mutual
def sz:D->Nat
 |.tup xs=>5+yt xs
 |.lst xs=>5+yt xs
 |.str _=>60
 |_=>2000
def yt:List D->Nat
 |[]=>0
 |x::xs=>sz x+2+yt xs
end
theorem oV:∀xs:List D,(∀x∈xs,(dM x).showable=true)->J6 (fq xs)=true
 |[],_=>by simp only [fq,J6]
 |x::xs,h=>by simp only [fq,J6,h x (by simp),oV xs fun y hy=>h y (Hf _ hy),Bool.and_self]
theorem p9{n:Nat}:∀xs:List D,(∀x∈xs,cj n x=true)->dI n xs=true
 |[],_=>by simp [dI]
 |x::xs,h=>by simp [dI,h x (by simp),p9 xs fun y hy=>h y (Hf _ hy)]
theorem kH:∀xs:List D,(∀x∈xs,(dM x).shown.length<=sz x)->piled (JN (fq xs))<=yt xs
 |[],_=>by simp [fq,JN,piled,yt]
 |x::xs,h=>by
  have h1:=h x (by simp)
  have h2:=kH xs fun y hy=>h y (Hf _ hy);simp only [fq,JN,yt];simp [piled] at h2 ⊢;lia
end L3
namespace Tw
open PySem L2 L3
def EC(n:Nat)(d:D):Prop:=cj n d=true/\(dM d).showable=true/\(dM d).shown.length<=sz d
theorem yF{n:Nat}{i:Int}(h:i.natAbs.log2<1920):EC n (.int i):=⟨by cases n<;>rfl,by simp only [dM,Jh,decide_eq_true_eq];exact h,by simp only [dM,PyData.shown,sz];exact Hd (PyProof.Rows.int_text_len_1921 h) (by decide)⟩
theorem AC{n:Nat}{x:Str}(h:(LY x).shown.length<=60):EC n (.str x):=⟨by cases n<;>rfl,by simp only [dM,Jh],by simp only [dM,sz];exact h⟩
theorem zV:∀x∈pool.flatten,(LY x).shown.length<=60:=by decide +kernel
theorem ub{i:Int}(h0:0<=i)(h1:i<=1000):i.natAbs.log2<1920:=Nat.lt_of_le_of_lt (Nat.log2_le_self _) (by lia)
end Tw
namespace Tw
open PySem L2 L3
section
variable {te:bN}{M:Mem}
theorem j7{tt:fb}{ok:Mem->Prop}{Q:List D->Mem->Prop}{b:BxC (ap 0) tt te ok Q}{rest:Dl}{c:Option D}{xs:List D}(p:D->Bool)(f:D->D)(ho:ok M)(hl:xs.length<=100000)
  (ht:∀x∈xs,∀K:Bool->Mem->Prop,K (p x) M->tt (some x::rest) M K) (he:∀x∈xs,p x=true->∀K:DK,K (f x) M->te (some x::rest) M K) (h:Q ((xs.filter p).map f) M):
  cW (ap 0) tt te ok Q b xs [] (c::rest) M:=by
 refine cB (fun ys acc δ N=>∃(us:List D) (c0:Option D),xs=us++ys/\acc=(us.filter p).map f/\δ=c0::rest/\M=N) (fun _ _ _ _ z=>by obtain ⟨_,_,_,_,_,rfl⟩:=z;exact ho) ?_ ?_ ?_ _ _ _ _ ⟨[],c,rfl,rfl,rfl,rfl⟩
 ·rintro acc δ N ⟨us,c0,e1,rfl,rfl,rfl⟩
  rw [HD] at e1;subst e1;exact h
 ·rintro y ys acc δ N ⟨us,c0,e1,rfl,rfl,rfl⟩ N' hN1 hN2
  have hy:y∈xs:=by rw [e1];simp
  have h2:=congrArg Iu e1;simp only [GP,GI] at h2;have h3:=IJ p us;simp only [ap,Hv];refine ht y hy _ ?_;cases hp:p y with
  |true=>
   rw [if_pos rfl];exact he y hy hp _ (hN1 _ _ _ (by rw [GF];exact g_ (by lia)) ⟨us++[y],_,by simp [e1],by simp [hp],rfl,rfl⟩)
  |false=>
   rw [if_neg (by simp)]
   exact hN2 .non _ _ ⟨us++[y],_,by simp [e1],by simp [hp],rfl,rfl⟩
 ·rintro y ys acc δ N ⟨us,c0,e1,rfl,rfl,rfl⟩
  have h2:=congrArg Iu e1;simp only [GP,GI] at h2;have h3:=IJ p us;rw [GF];exact g_ (by lia)
theorem pz{ok:Mem->Prop}{Q:List D->Mem->Prop}{b:BxC (ap 0) dO te ok Q}{rest:Dl}{c:Option D}{xs:List D}(f:D->D)(ho:ok M)(hl:xs.length<=100000)
  (he:∀x∈xs,∀K:DK,K (f x) M->te (some x::rest) M K) (h:Q (xs.map f) M):cW (ap 0) dO te ok Q b xs [] (c::rest) M:=by
 refine j7 (fun _=>true) f ho hl (fun x _ K q=>q) (fun x hx _=>he x hx) ?_;rw [List.filter_eq_self.mpr fun _ _=>rfl];exact h
end
instance lawKey:LawfulBEq aP where
 eq_of_beq {a b} h:=by
  cases a<;>cases b
  ·exact congrArg IK (eq_of_beq (α:=Int) h)
  ·cases h
  ·cases h
  ·exact congrArg GQ (eq_of_beq (α:=Str) h)
 rfl {a}:=by
  cases a
  ·exact beq_self_eq_true (α:=Int) _
  ·exact beq_self_eq_true (α:=Str) _
def kD:aP->D
 |.inl i=>.int i
 |.inr x=>.str x
theorem Dg(a b:aP):bc (kD a) (kD b)=decide (a=b):=by
 cases a<;>cases b<;>simp [kD,bc]
theorem vO(n:Nat)(a:aP):cj n (kD a)=true:=by cases a<;>cases n<;>rfl
theorem rB(n:Nat):∀ks:List aP,dI n (ks.map kD)=true
 |[]=>by cases n<;>rfl
 |k::ks=>by simp only [GR,dI,vO,rB n ks,Bool.and_self]
theorem cP:∀ks:List aP,eN (ks.map kD)=some ks
 |[]=>rfl
 |k::ks=>by
  have:=cP ks;cases k<;>simp [eN,kD,dA,this]
theorem Cd{ks:List aP}{k:aP}:((ks.map kD).any fun d=>bc d (kD k))=decide (k∈ks):=by
 induction ks with
 |nil=>rfl
 |cons a ks ih=>
  rw [GR,Iy,ih,Dg]
  by_cases h:a=k
  ·simp [h]
  ·have:¬k=a:=fun e=>h e.symm
   simp [h,this]
def e_(ks:List aP):D:=.lst (ks.map kD)
theorem Gu{M:Mem}{k:aP}:dv M (kD k)=kD k:=by cases k<;>rfl
def IsMx(M:Mem)(d:D)(ks:List aP):Prop:=d=e_ ks\/∃p,d=.ref p/\M p=some (.lst (ks.map kD))
theorem IsMx.mx{M:Mem}{ks:List aP}:IsMx M (e_ ks) ks:=.inl rfl
theorem IsMx.sD{M:Mem}{d:D}{ks:List aP}(h:IsMx M d ks):cm M d=some (ks.map kD):=by
 rcases h with rfl|⟨p,rfl,e⟩
 ·rfl
 ·simp only [cm,e]
theorem IsMx.sL{M:Mem}{d:D}{ks:List aP}(h:IsMx M d ks):seqL M d=some (ks.map kD):=by
 rcases h with rfl|⟨p,rfl,e⟩
 ·rfl
 ·simp only [seqL,e]
theorem IsMx.go{M M':Mem}{d:D}{ks:List aP}(h:IsMx M d ks)(k:∀p xs,M p=some (.lst xs)->M' p=some (.lst xs)):IsMx M' d ks:=h.imp (fun e=>e) fun ⟨p,e,q⟩=>⟨p,e,k p _ q⟩
theorem IsMx.tup{M:Mem}{d:D}{ks:List aP}{K:DK}(h:IsMx M d ks)(q:K (.tup (ks.map kD)) M):cTuple [d] M K:=by
 have e:=h.sL;rcases h with rfl|⟨p,rfl,_⟩
 ·exact q
 ·simp only [cTuple,e];exact q
theorem Ci{M:Mem}{d:D}{ks:List aP}{k:aP}(h:IsMx M d ks):qx M (kD k) d=some (decide (k∈ks)):=by
 unfold qx;simp only [h.sD,Gu,vO,rB,and_self,if_true,Cd]
structure Cse where
 w:Int
 many:Nat
 names:List Str
 rows:List Rw
 mn:Str
 most:Nat
structure Sta where
 nums:List Int
 pieces:List Int
def Sta.d(s:Sta):D:=standD s.nums s.pieces
def Cse.cf(C:Cse)(s:Sta):Cf:=⟨C.w,s.pieces,C.most⟩
def Cse.d(C:Cse):D:=.tup [.int C.w,.tup (C.names.map D.str),.int (C.many:Nat),.tup (aK C.rows),.str C.mn]
structure Cse.Ok(C:Cse):Prop where
 m2:2<=C.w
 m1:C.w<=997
 few:C.many<=100
 most:C.most<=10000
 nd:C.names.Nodup
 l0:0<C.names.length
 l1:C.names.length<=100
 ok:cN C.names C.w C.many C.rows
 h:fO C.rows<=7
 mn:C.mn∈C.names
structure SOk(C:Cse)(s:Sta):Prop where
 ln:s.nums.length=C.names.length
 lp:s.pieces.length=C.many
 rn:∀v∈s.nums,0<=v/\v<C.w
 rp:∀v∈s.pieces,0<=v/\v<C.w
def kr(mk:Str)(r:Bool×Sx):D:=if r.1=true then .int (nm r.2.nums mk) else .non
def Cse.run(C:Cse)(s:Sta):Bool×Sx:=fS (C.cf s) C.names C.rows s.nums
def Cse.mark(C:Cse)(s:Sta):D:=kr C.mn (C.run s)
section
variable {C:Cse}{s:Sta}{ad:Ad}{M:Mem}{Q:DK}{E:DX}
theorem Cse.Ok.pl(o:C.Ok)(k:SOk C s):PlOk (C.cf s) C.names C.rows s.nums:=
 ⟨⟨o.m2,o.m1,k.rp,by show s.pieces.length<=1000;rw [k.lp];have:=o.few;lia,o.most⟩,k.ln.symm,o.nd,o.l0,by have:=o.l1;lia,k.rn,by show cN C.names C.w s.pieces.length C.rows;rw [k.lp];exact o.ok,o.h⟩
theorem SOk.pd(k:SOk C s):C.d=planD (C.cf s) C.names C.rows C.mn:=by unfold Cse.d planD Cse.cf;rw [k.lp]
theorem eP(C:Cse)(s:Sta):C.mark s=.non\/∃v,C.mark s=.int v:=by
 unfold Cse.mark kr
 split
 ·exact .inr ⟨_,rfl⟩
 ·exact .inl rfl
theorem gH:cj 60 (C.mark s)=true:=by rcases eP C s with e|⟨v,e⟩<;>rw [e]<;>rfl
theorem tB:dv M (C.mark s)=C.mark s:=by rcases eP C s with e|⟨v,e⟩<;>rw [e]<;>rfl
theorem eh{Q:DK}(h:Q (C.mark s) M):frz (C.mark s) M Q:=by rcases eP C s with e|⟨v,e⟩<;>rw [e] at h ⊢<;>exact h
theorem qc{mk:Str}:∀{names:List Str},mk∈names->∃j,names.findIdx? (fun y=>decide (y=mk))=some j/\names[j]?=some mk
 |[],h=>by simp at h
 |x::names,h=>by
  by_cases e:x=mk
  ·subst e;exact ⟨0,by simp [Mn],rfl⟩
  ·have h2:mk∈names:=by
    rcases Hq.mp h with z|z
    ·exact absurd z.symm e
    ·exact z
   obtain ⟨j,h3,h4⟩:=qc h2;exact ⟨j+1,by simp [Mn,e,h3],by simpa using h4⟩
theorem g7:∀names:List Str,i9 (names.map D.str)=some names
 |[]=>rfl
 |x::names=>by rw [GR,i9,g7 names]
def BU(names:List Str)(r:Bool×Sx):D:=.tup [.lst (BE r.2.steps),qH names r]
theorem vI{c:Cf}{names:List Str}{rows:List Rw}{mk:Str}{nums:List Int}{EE:DX}{b:BxQ EE fun d M'=>frzT d M' Q}(p:PlOk c names rows nums)(h:Q (BU names (fS c names rows nums)) M):
  calls (nn ad) EE [planD c names rows mk,standD nums c.pieces,.int (c.most:Nat)] M (fun d M'=>frzT d M' Q) b:=by
 refine calls_of fun Q' E' hq _=>x6 p fun l hl=>hq _ _ ?_;unfold BU qH at h;unfold qH;cases e:(fS c names rows nums).1 with
 |true=>
  rw [e,if_pos rfl] at h;rw [if_pos rfl];simp! [Mem.upd_del,ao hl];exact h
 |false=>
  rw [e,if_neg (by simp)] at h
  rw [if_neg (by simp)]
  simp! [Mem.upd_del,ao hl];exact h
theorem uN{c:Cf}{names:List Str}{rows:List Rw}{mk:Str}{nums:List Int}(p:PlOk c names rows nums)(hm:mk∈names)(h:Q (kr mk (fS c names rows nums)) M):jU ad [planD c names rows mk,standD nums c.pieces,.int (c.most:Nat)] M Q E:=by
 have l1:=p.l1;obtain ⟨j,e1,e2⟩:=qc hm;simp! [FX,o8];refine vI p ?_;simp! [BU,atI_1];unfold kr at h;unfold qH;cases e:(fS c names rows nums).1 with
 |true=>
  rw [e,if_pos rfl] at h;rw [if_pos rfl];simp! [planD,atI_1,atI_4,g7,e1];refine ⟨l1,?_⟩;have e3:atI (names.map fun x=>D.int (nm (fS c names rows nums).2.nums x)) (j:Nat)=some (.int (nm (fS c names rows nums).2.nums mk)):=by
   rw [cr (by lia),Ha,GU,e2];rfl
  simp! [e3];exact drp_id h
 |false=>
  rw [e,if_neg (by simp)] at h
  rw [if_neg (by simp)]
  simp! [];exact drp_id h
theorem i8{EE:DX}{b:BxQ EE Q}(o:C.Ok)(k:SOk C s)(h:Q (C.mark s) M):calls (jU ad) EE [C.d,s.d,.int (C.most:Nat)] M Q b:=by
 refine bt (d:=C.mark s) (fun Q' E' q=>?_) h;rw [k.pd];exact uN (o.pl k) o.mn q
def bd(C:Cse)(s t:Sta):D:=.tup [C.d,s.d,t.d,.int (C.most:Nat)]
def cC(C:Cse):List aP:=C.names.map GQ++(HA C.many).map fun (i:Nat)=>IK (i:Int)
def aY(C:Cse)(s:Sta):aP->Int
 |.inl i=>(s.pieces[i.toNat]?).getD 0
 |.inr x=>nm (C.names.zip s.nums) x
theorem lG:∀{names:List Str} {nums:List Int} {j:Nat} {x:Str},names.Nodup->names.length=nums.length->names[j]?=some x->nums[j]?=some (nm (names.zip nums) x)
 |[],_,j,x,_,_,h=>by simp at h
 |y::names,[],j,x,_,h,_=>by simp at h
 |y::names,v::nums,0,x,nd,hl,h=>by
  simp at h;subst h;simp [nm,gN]
 |y::names,v::nums,j+1,x,nd,hl,h=>by
  simp only [GD] at h ⊢;have nd':=IH.mp nd;have hne:¬y=x:=fun e=>nd'.1 (e▸J3 h);rw [lG nd'.2 (by simpa using hl) h]
  simp [nm,gN,hne]
theorem rK{k:aP}(h:k∈cC C):(∃x,x∈C.names/\k=.inr x)\/∃i:Nat,i<C.many/\k=.inl (i:Int):=by
 rcases Hm.mp h with q|q
 ·obtain ⟨x,hx,rfl⟩:=Hc.mp q
  exact .inl ⟨x,hx,rfl⟩
 ·obtain ⟨i,hi,rfl⟩:=Hc.mp q
  exact .inr ⟨i,HZ.mp hi,rfl⟩
theorem fJ(o:C.Ok)(k:SOk C s){t:aP}(ht:t∈cC C):0<=aY C s t/\aY C s t<C.w:=by
 rcases rK ht with ⟨x,hx,rfl⟩|⟨i,hi,rfl⟩
 ·exact ((o.pl k).nok.at hx).2
 ·exact ((o.pl k).co.piece (i:=(i:Int).toNat) (by show _<s.pieces.length;rw [k.lp];lia)).2
theorem cL(o:C.Ok)(k:SOk C s){t:aP}(ht:t∈cC C)(h:Q (.int (aY C s t)) M):kW ad [C.d,s.d,kD t] M Q E:=by
 have l1:=o.l1;rcases rK ht with ⟨x,hx,rfl⟩|⟨i,hi,rfl⟩
 ·obtain ⟨j,e1,e2⟩:=qc hx
  have e3:atI (s.nums.map D.int) (j:Nat)=some (.int (nm (C.names.zip s.nums) x)):=by
   rw [cr (by lia),Ha,GU,lG o.nd k.ln.symm e2];rfl
  simp! [Br,kM,kD,Cse.d,Sta.d,standD,lT,Ap,atI_0,atI_1,g7,e1,Mg,Bool.or_true,Lk,Lm,LK];refine ⟨by lia,?_⟩
  simp! [e3];exact drp_id h
 ·have e3:atI (s.pieces.map D.int) (i:Nat)=some (.int ((s.pieces[(i:Int).toNat]?).getD 0)):=by
   rw [cr (by lia),Ha,GU,GG (by rw [k.lp];exact hi)];rfl
  simp! [Br,kM,kD,Cse.d,Sta.d,standD,lT,Ap,atI_0,atI_1,e3,Mg,Bool.or_true,Lk,Lm,LK,Bool.false_and,Jd];exact drp_id h
end
end Tw
namespace Tw
open PySem L2 L3
def eB(C:Cse)(s t:Sta)(ks:List aP):Sta:=
 ⟨C.names.map fun x=>aY C (if GQ x∈ks then t else s) (.inr x),(HA C.many).map fun (i:Nat)=>aY C (if IK (i:Int)∈ks then t else s) (.inl (i:Int))⟩
section
variable {C:Cse}{s t:Sta}{ad:Ad}{M:Mem}{Q:DK}{E:DX}{ks:List aP}
theorem rG(o:C.Ok)(hs:SOk C s)(ht:SOk C t):SOk C (eB C s t ks):=by
 refine ⟨by simp [eB],by simp [eB],fun v hv=>?_,fun v hv=>?_⟩
 ·simp only [eB,Hc] at hv
  obtain ⟨x,hx,rfl⟩:=hv;have hm:GQ x∈cC C:=Hm.mpr (.inl (Hc.mpr ⟨x,hx,rfl⟩))
  split
  ·exact fJ o ht hm
  ·exact fJ o hs hm
 ·simp only [eB,Hc] at hv
  obtain ⟨i,hi,rfl⟩:=hv;have hm:(IK (i:Int):aP)∈cC C:=Hm.mpr (.inr (Hc.mpr ⟨i,hi,rfl⟩))
  split
  ·exact fJ o ht hm
  ·exact fJ o hs hm
theorem E6{ta tb:bN}{δ:Dl}{k:aP}{d:D}{K:Bool->Mem->Prop}(hd:IsMx M d ks)(ha:∀K,K (kD k) M->ta δ M K)(hb:∀K,K d M->tb δ M K)(h:K (decide (k∈ks)) M):aL (au BH ta tb) δ M K:=by
 unfold aL au;refine ha _ (hb _ ?_);unfold BH;rw [Ci hd];exact h
theorem jQ{d:D}(hd:IsMx M d ks)(o:C.Ok)(hs:SOk C s)(ht:SOk C t){k:aP}(hk:k∈cC C)(h:Q (.int (aY C (if k∈ks then t else s) k)) M):uX ad [bd C s t,d,kD k] M Q E:=by
 rw [u_q8 (n:=0)];unfold xh;generalize hT:aL (au BH (aa 2) (aa 1))=TT;simp! [bd,atI_0,atI_1,atI_2];rw [<- hT];refine E6 (k:=k) (ks:=ks) hd (fun K q=>q) (fun K q=>q) ?_
 by_cases c:k∈ks
 ·rw [if_pos c] at h
  rw [if_pos (by simpa using c)]
  exact bt (fun _ _ q=>cL o ht hk q) (drp_id h)
 ·rw [if_neg c] at h
  rw [if_neg (by simpa using c)]
  exact bt (fun _ _ q=>cL o hs hk q) (drp_id h)
theorem oS{d:D}(hd:IsMx M d ks){wi:v4}{x0:Str}{c2 c3:Option D}{us:List aP}{K:DK}(o:C.Ok)(hs:SOk C s)(ht:SOk C t)(hu:∀k∈us,k∈cC C)(hl:us.length<=1000)(hw:∀R:DIt->Mem->Prop,R ⟨us.map kD,[]⟩ M->wi [some (bd C s t),some d,c2,c3] M R)
  (h:K (.tup ((us.map fun k=>aY C (if k∈ks then t else s) k).map D.int)) M):bD cTuple (a9 (aB (bV wi [x0] [1,0] (ap 0) dO (aB (aA (uX ad) ni 3 (a9 (aa 2) (a9 (aa 1) (a9 (aa 0) dNil))))))) dNil) [some (bd C s t),some d,c2,c3] M K:=by
 simp only [bD,a9,aB,bV];refine hw _ ?_;simp only [eO,GR,HL,HE,HK,GD,dt,Kl];refine pz (fun d=>match dA d with|some k=>.int (aY C (if k∈ks then t else s) k)|none=>.non) bQ (by simp;lia) (fun x hx K q=>?_) ?_
 ·obtain ⟨k,hk,rfl⟩:=Hc.mp hx
  simp! [];refine bt (fun _ _ q=>jQ hd o hs ht (hu k hk) q) ?_;cases k<;>exact q
 intro p1 h1;simp only [frz,Mem.upd_same,Mem.upd_del,ao h1,dNil,cTuple,seqL];have e:(us.map kD).map (fun d=>match dA d with|some k=>D.int (aY C (if k∈ks then t else s) k)|none=>.non)=(us.map fun k=>aY C (if k∈ks then t else s) k).map D.int:=by
  rw [HH,HH];refine Hs fun k _=>?_;cases k<;>rfl
 rw [e];exact h
theorem qG{d:D}(hd:IsMx M d ks)(o:C.Ok)(hs:SOk C s)(ht:SOk C t)(h:Q (eB C s t ks).d M):tO ad [bd C s t,d] M Q E:=by
 have l1:=o.l1;have few:=o.few;have e2:b_ 0 (Jf (C.many:Nat))=((HA C.many).map fun (i:Nat)=>(IK (i:Int):aP)).map kD:=by
  simp [b_,kD]
 have e1:C.names.map D.str=(C.names.map fun x=>(GQ x:aP)).map kD:=by simp [kD]
 have t1:iY ad (aU E) { nx:=fun _ M'=>drp Q .non M',rt:=drp Q } [some (bd C s t),some d,some (.tup (C.names.map D.str)),some (.lst (b_ 0 (Jf (C.many:Nat))))] M:=by
  unfold iY aZ bJ;rw [e1,e2];refine oS hd (us:=C.names.map fun x=>GQ x) o hs ht (fun k hk=>Hm.mpr (.inl hk)) (by simp;lia) (fun R q=>q) ?_
  refine oS hd (us:=(HA C.many).map fun (i:Nat)=>IK (i:Int)) o hs ht (fun k hk=>Hm.mpr (.inr hk)) (by simp;lia) (fun R q=>q) ?_
  refine ⟨szl (by simp),drp_id ?_⟩
  simpa [eB,Sta.d,standD,LU] using h
 rw [F5 (n:=0)];unfold o_ rP;generalize iY ad (aU E)=K at t1 ⊢;unfold bd Cse.d at t1 ⊢;simp! [atI_0,atI_1,atI_2];refine ⟨⟨by lia,by lia⟩,fun p hp=>?_⟩
 simp only [Mem.upd_del,ao hp];exact t1
theorem qS{a b:Int}(o:C.Ok)(hs:SOk C s)(ht:SOk C t)(ea:C.mark s=.int a)(eb:C.mark t=.int b)(hab:a≠b)(h:Q (.tup [.int a,.int b]) M):si ad [bd C s t] M Q E:=by
 rw [EL (n:=0)];unfold o7 rD;generalize hK:mD ad (aU E)=K;simp! [bd,atI_0,atI_1,atI_2,atI_3];refine i8 o hs (eh ?_);rw [ea];simp! [];refine i8 o ht (eh ?_);rw [eb];simp! [Hv];rw [<- hK];unfold mD t4;simp! [hab,decide_false];exact ⟨szl (by decide),drp_id h⟩
def Cse.ver(C:Cse)(s t:Sta)(ks:List aP):Str:=if bc (C.mark (eB C s t ks)) (C.mark s)=true then "sound" else if bc (C.mark (eB C s t ks)) (C.mark t)=true then "faulty" else "other"
theorem iK{a b:Int}{m:D}(hm:m=.non\/∃v,m=.int v)(h:Q (.str (if bc m (.int a)=true then "sound" else if bc m (.int b)=true then "faulty" else "other")) M):tP ad [.tup [.int a,.int b],m] M Q E:=by
 rcases hm with rfl|⟨v,rfl⟩
 ·simp! [Bq,kP,atI_0,atI_1]
  exact drp_id h
 ·simp! [Bq,kP,atI_0,atI_1]
  simp only [bc,decide_eq_true_eq] at h
  split
  ·rename_i q;rw [if_pos q] at h;exact drp_id h
  ·rename_i q;rw [if_neg q] at h
   split
   ·rename_i q;rw [if_pos q] at h;exact drp_id h
   ·rename_i q;rw [if_neg q] at h;exact drp_id h
end
end Tw
namespace Tw
open PySem L2 L3
structure Ak where
 a:Addr
 t:Addr
 ne:a≠t
def hZ(C:Cse)(s t:Sta)(ts:List (List aP)):List (List aP×D):=ts.map fun ks=>(ks,.str (C.ver s t ks))
def yp(k:Ak)(C:Cse)(s t:Sta)(two:D):List (Str×D):=[("case",bd C s t),("two",two),("told",.ref k.t)]
def aM(ad:Ad)(k:Ak)(C:Cse)(s t:Sta)(two:D)(ts:List (List aP))(M:Mem):Mem:=(M.upd k.a (.ins ad.C_Askings (yp k C s t two))).upd k.t (.dT (hZ C s t ts))
def bW(ts:List (List aP))(ks:List aP):List (List aP):=if ks∈ts then ts else ts++[ks]
section
variable {C:Cse}{s t:Sta}{ad:Ad}{M:Mem}{Q:DK}{E:DX}{ks:List aP}{k:Ak}{ts ts':List (List aP)}{two:D}
theorem ms:aM ad k C s t two ts M k.a=some (.ins ad.C_Askings (yp k C s t two)):=by unfold aM;rw [ai k.ne,Mem.upd_same]
theorem uF:aM ad k C s t two ts M k.t=some (.dT (hZ C s t ts)):=by unfold aM;rw [Mem.upd_same]
theorem aM_u:(aM ad k C s t two ts M).upd k.t (.dT (hZ C s t ts'))=aM ad k C s t two ts' M:=by unfold aM;rw [Mem.upd_upd]
theorem mq:Hu ("case":Str) (yp k C s t two)=some (bd C s t):=rfl
theorem Es:Hu ("two":Str) (yp k C s t two)=some two:=rfl
theorem j3:Hu ("told":Str) (yp k C s t two)=some (.ref k.t):=rfl
theorem xH:Hu ("ask":Str) (yp k C s t two)=none:=rfl
theorem jD:Hu ("is_cause":Str) (yp k C s t two)=none:=rfl
theorem mh:cn (hZ C s t ts) ks=if ks∈ts then some (.str (C.ver s t ks)) else none:=by
 induction ts with
 |nil=>rfl
 |cons x ts ih=>
  by_cases e:x=ks
  ·subst e;simp [hZ,cn]
  ·have e':¬ks=x:=fun z=>e z.symm
   have:cn (hZ C s t (x::ts)) ks=cn (hZ C s t ts) ks:=by simp [hZ,cn,e]
   rw [this,ih];simp [e']
theorem wW(h:ks∉ts):cX (hZ C s t ts) ks (.str (C.ver s t ks))=hZ C s t (ts++[ks]):=by
 unfold cX;rw [if_neg ?_]
 ·simp [hZ]
 ·simp only [hZ,List.any_map,List.any_eq_true,Jg,decide_eq_true_eq,not_exists,not_and]
  exact fun x hx e=>h (e▸hx)
theorem IsMx.ak{d:D}{us us':List (List aP)}(h:IsMx (aM ad k C s t two us M) d ks):IsMx (aM ad k C s t two us' M) d ks:=h.go fun p xs e=>by
 have h1:p≠k.a:=fun z=>by rw [z,ms] at e;cases e
 have h2:p≠k.t:=fun z=>by rw [z,uF] at e;cases e
 unfold aM at e ⊢;rw [ai h2,ai h1] at e ⊢;exact e
theorem Bu{d:D}{a b:Int}(hd:IsMx (aM ad k C s t (.tup [.int a,.int b]) ts M) d ks)(o:C.Ok)(hs:SOk C s)(ht:SOk C t)(ea:C.mark s=.int a)(eb:C.mark t=.int b)(hl:ts.length<=100000)(h:Q (.str (C.ver s t ks)) (aM ad k C s t (.tup [.int a,.int b]) (bW ts ks) M)):
  n_ ad [.ref k.a,d] (aM ad k C s t (.tup [.int a,.int b]) ts M) Q E:=by
 have hcs:bd C s t=.tup [C.d,s.d,t.d,.int (C.most:Nat)]:=rfl;have tpl:∀{us:List (List aP)} {K:DK},K (.tup (ks.map kD)) (aM ad k C s t (.tup [.int a,.int b]) us M)->bD cTuple (a9 (aa 1) dNil) [some (.ref k.a),some d] (aM ad k C s t (.tup [.int a,.int b]) us M) K:=fun q=>hd.ak.tup q;have fld:∀{f:Str} {x:D} {us:List (List aP)} {K:DK},Hu f (yp k C s t (.tup [.int a,.int b]))=some x->K x (aM ad k C s t (.tup [.int a,.int b]) us M)->dl ad.C_Askings (aa 0) f [some (.ref k.a),some d] (aM ad k C s t (.tup [.int a,.int b]) us M) K:=fun {f x us K} e q=>by
  simp only [dl,aa,dt,ms,e,true_and];exact q
 have t2:∀us,ks∈us->drp Q (.str (C.ver s t ks)) (aM ad k C s t (.tup [.int a,.int b]) us M)->j6 ad (aU E) { nx:=fun _ M'=>drp Q .non M',rt:=drp Q } [some (.ref k.a),some d] (aM ad k C s t (.tup [.int a,.int b]) us M):=fun us hu z=>by
  unfold j6 aZ au;refine fld j3 (tpl ?_);simp only [aO,cm,uF,kh,oq,cP,mh,if_pos hu];exact z
 rw [F9 (n:=0)];unfold nM;unfold bW at h;generalize j6 ad (aU E)=K2 at t2 ⊢;generalize hK1:lq ad (aU E)=K1;unfold aw bp aL au;refine tpl (fld j3 ?_);simp only [jz,qx,cm,uF,kh,oq,cP,mh]
 by_cases c:ks∈ts
 ·rw [if_pos c] at h
  simp only [if_pos c,L4,Ll,GX,if_false];exact t2 ts c (drp_id h)
 ·rw [if_neg c] at h
  simp only [if_neg c,Option.isSome_none,Lb,if_true,<- hK1];unfold lq aE;simp only [aB,aA,a9,dNil];refine fld Es ?_;simp only [au];refine fld mq ?_;simp only [dC,hcs,aO,cm,atI_0,dt];refine fld mq ?_;simp only [aa,GD,dt];refine ⟨rfl,bt (fun _ _ q=>qG hd o hs ht q) ?_⟩;have fs:∀{M:Mem} {Q:DK} {u:Sta},Q u.d M->frz u.d M Q:=fun h=>h;refine fs ?_;refine fld mq ?_;simp only [hcs,atI_3,GD,dt];refine ⟨rfl,i8 o (rG o hs ht) (eh ?_)⟩;refine ⟨rfl,bt (d:=.str (C.ver s t ks)) (fun _ _ q=>iK (eP C _) (by unfold Cse.ver at q;rw [ea,eb] at q;exact q)) ?_⟩
  have fst:∀{M:Mem} {Q:DK} {x:Str},Q (.str x) M->frz (.str x) M Q:=fun h=>h;refine fst ?_;unfold fc;refine fld j3 (tpl ?_);simp only [wB,uF,oq,cP,wW c,aM_u];exact ⟨by rw [hZ,GF];exact g_ (by lia),t2 (ts++[ks]) (by simp) (drp_id h)⟩
theorem AD{d:D}{a b:Int}(hd:IsMx (aM ad k C s t (.tup [.int a,.int b]) ts M) d ks)(o:C.Ok)(hs:SOk C s)(ht:SOk C t)(ea:C.mark s=.int a)(eb:C.mark t=.int b)(hl:ts.length<=100000)(h:Q (.bl (decide (C.ver s t ks="faulty"))) (aM ad k C s t (.tup [.int a,.int b]) (bW ts ks) M)):
  qD ad [.ref k.a,d] (aM ad k C s t (.tup [.int a,.int b]) ts M) Q E:=by
 rw [u_q0 (n:=0)];unfold xw;simp! [ms,xH];refine calls_of fun Q' E' hq _=>Bu hd o hs ht ea eb hl (hq _ _ ?_);simp! [];exact drp_id h
theorem dF:(bW ts ks).length<=ts.length+1:=by unfold bW;split<;>simp
theorem A5{a b:Int}{x:Addr}(hx:M x=none)(o:C.Ok)(hs:SOk C s)(ht:SOk C t)(ea:C.mark s=.int a)(eb:C.mark t=.int b)(hab:a≠b)
  (h:∀k:Ak,k.a=x->M k.t=none->Q .non (aM ad k C s t (.tup [.int a,.int b]) [] M)):B3 ad [.ref x,bd C s t] (M.upd x (.ins ad.C_Askings [])) Q E:=by
 have hcs:bd C s t=.tup [C.d,s.d,t.d,.int (C.most:Nat)]:=rfl;have d1:eA "case" (bd C s t) []=[(("case":Str),bd C s t)]:=rfl;have d2:∀d,eA "two" d [(("case":Str),bd C s t)]=[(("case":Str),bd C s t),(("two":Str),d)]:=fun _=>rfl;have d3:∀d e,eA "told" e [(("case":Str),bd C s t),(("two":Str),d)]=[(("case":Str),bd C s t),(("two":Str),d),(("told":Str),e)]:=fun _ _=>rfl;rw [u_q2 (n:=0)];unfold ve vk;simp! [Mem.upd_upd,Mem.upd_same,d1];refine ⟨by decide,?_⟩
 refine bt (fun _ _ q=>qS o hs ht ea eb hab q) ?_;simp! [Mem.upd_upd,Mem.upd_same,d2];refine ⟨by simp,fun p hp=>?_⟩
 have n1:x≠p:=Mem.ne Mem.upd_same hp;rw [ai n1.symm] at hp;simp! [ai n1,Mem.upd_same,d3];refine ⟨by simp,drp_id ?_⟩
 have:=h ⟨x,p,n1⟩ rfl hp;unfold aM at this;rw [bb n1.symm,Mem.upd_upd];exact this
def unlK(C:Cse)(s t:Sta):List aP:=(cC C).filter fun k=>decide (aY C s k≠aY C t k)
def tE(ks:List aP):List (List aP):=(HA ks.length).map fun i=>ks.take i++ks.drop (i+1)
end
end Tw
namespace Tw
open PySem L2 L3
section
variable {ad:Ad}{c:Cf}{names:List Str}{rows:List Rw}{mk:Str}{nums:List Int}{M:Mem}{Q:DK}{E:DX}
theorem jq(hl:names.length=nums.length)(nd:names.Nodup)(h0:0<names.length)(h1:names.length<=1000)
  (h:∀(k:Hk),M k.h=none->M k.dn=none->M k.lr=none->Q (.ref k.h) (hM k c (c.most:Nat) (names.zip nums) [] M)):
  jH ad [planD c names rows mk,standD nums c.pieces,.int (c.most:Nat)] M Q E:=by
 simp only [F3];unfold nY;simp only [aZ,kT];intro p hp;simp! [planD,standD,atI_0,atI_1,keysOf_strs,GF];refine ⟨hl,h0,h1,fun dn hdn=>⟨szl (by decide),fun lr hlr=>?_⟩⟩
 have n1:p≠dn:=Mem.ne Mem.upd_same hdn;have hdn':M dn=none:=by rw [ai n1.symm] at hdn;exact hdn
 have n3:dn≠lr:=Mem.ne Mem.upd_same hlr;rw [ai n3.symm] at hlr;have n2:p≠lr:=Mem.ne Mem.upd_same hlr;rw [ai n2.symm] at hlr;refine ⟨by rw [ai n2,ai n1,Mem.upd_same],by decide,?_⟩
 have ef:eY [GQ "numbers",GQ "pieces",GQ "read",GQ "wheel",GQ "left"] [D.ref dn,D.tup (c.pieces.map D.int),D.ref lr,D.int c.m,D.int (c.most:Nat)]=hD ⟨p,dn,lr,n1,n2,n3⟩ c (c.most:Nat):=by simp [eY,cX,hD,bC]
 have:=h ⟨p,dn,lr,n1,n2,n3⟩ hp hdn' hlr;unfold hM at this;rw [ef,iA hl nd,bb n2.symm,bb n1.symm,Mem.upd_upd];exact drp_id this
theorem qy{k:Hk}{left:Int}{n:hG}{rd:List Int}(h1:M k.h=none)(h2:M k.dn=none)(h3:M k.lr=none)(b:Addr)(o:MO)(e:M b=some o):hM k c left n rd M b=some o:=by
 unfold hM;rw [ai (fun q=>by rw [q,h3] at e;cases e),ai (fun q=>by rw [q,h2] at e;cases e),ai (fun q=>by rw [q,h1] at e;cases e)]
 exact e
end
section
variable {C:Cse}{s t:Sta}{ad:Ad}{M:Mem}{Q:DK}{E:DX}{ks:List aP}
theorem nX(o:C.Ok)(k:SOk C s)(h:Q (C.mark s) M):jA ad [C.d,s.d,.int (C.most:Nat)] M Q E:=by
 have p:=o.pl k;have hn:NOk C.names (C.cf s).m (C.run s).2.nums:=cQ p.co C.rows p.ok [] 0 ⟨C.names.zip s.nums,[]⟩ p.nok;have e0:∀kk,hM kk (C.cf s) ((C.cf s).most:Nat) (C.names.zip s.nums) [] M=hS kk (C.cf s) ⟨C.names.zip s.nums,[]⟩ [] M:=fun kk=>by unfold hS;simp
 rw [FS (n:=0)];unfold p7;generalize hK:ll ad (aU E)=K;rw [k.pd];simp only [aw,aE,aA,a9,aa,dNil,GD,dt,startN,GR,HL,GI,Hg,GK,HE,HK];refine ⟨trivial,?_⟩;refine calls_of fun Q' E' hq _=>jq (c:=C.cf s) p.ln p.nd p.l0 p.l1 fun kk z1 z2 z3=>hq _ _ ?_;rw [<- hK];unfold ll;generalize hK1:mQ ad (aU E)=K1;simp! [planD,atI_3];rw [e0];refine calls_of fun Q' E' hq _=>p_ p.co p.l1 24 C.rows [] 0 ⟨C.names.zip s.nums,[]⟩ [] M Q' E' p.ok (by have:=p.h;lia) p.nok (Hn _) (by simp) (fun rd' g1 g2=>hq _ _ ?_) (fun l n rd' g=>hq _ _ ?_)
 ·have g1':(C.run s).1=true:=g1
  have em:C.mark s=.int (nm (C.run s).2.nums C.mn):=by unfold Cse.mark kr;rw [if_pos g1']
  rw [em] at h;simp! [];rw [<- hK1];unfold mQ hS;have ev:gN (bv (C.cf s) C.rows [] 0 ⟨C.names.zip s.nums,[]⟩).2.nums C.mn=some (nm (C.run s).2.nums C.mn):=(hn.at o.mn).1;simp! [planD,eT,g8,da,atI_4,cS,ev,Ib];exact ⟨M,qy z1 z2 z3,h⟩
 ·have g':(C.run s).1=false:=g
  have em:C.mark s=.non:=by unfold Cse.mark kr;rw [if_neg (by rw [g'];simp)]
  rw [em] at h;simp! [];exact ⟨M,qy z1 z2 z3,h⟩
theorem fo{EE:DX}{b:BxQ EE Q}(o:C.Ok)(k:SOk C s)(h:Q (C.mark s) M):calls (jA ad) EE [C.d,s.d,.int (C.most:Nat)] M Q b:=
 bt (fun _ _ q=>nX o k q) h
theorem Dz{n:Nat}:b_ 0 (Jf (n:Nat))=((HA n).map fun (i:Nat)=>(IK (i:Int):aP)).map kD:=by simp [b_,kD]
theorem nW(o:C.Ok)(h:∀p,M p=none->Q (.ref p) (M.upd p (.lst ((cC C).map kD)))):kS ad [C.d] M Q E:=by
 have l1:=o.l1;have few:=o.few;rw [Gp (n:=0)];unfold nJ Cse.d;simp! [atI_1,atI_2];intro p1 h1;simp only [Mem.upd_del,ao h1];refine ⟨⟨by lia,by lia⟩,fun p2 h2=>?_⟩
 simp only [Mem.upd_del,ao h2];refine ⟨szl (by simp [b_];lia),fun p3 h3=>drp_id ?_⟩
 have:=h p3 h3;rw [Dz];have e:(cC C).map kD=C.names.map D.str++((HA C.many).map fun (i:Nat)=>(IK (i:Int):aP)).map kD:=by simp [cC,kD]
 rw [e] at this;exact this
theorem iz{EE:DX}{b:BxQ EE fun d M'=>frz d M' Q}(o:C.Ok)(h:Q (.lst ((cC C).map kD)) M):calls (kS ad) EE [C.d] M (fun d M'=>frz d M' Q) b:=by
 refine calls_of fun Q' E' hq _=>nW o fun p hp=>hq _ _ ?_;simp only [frz,Mem.upd_same,Mem.upd_del,ao hp];exact h
theorem lH:(cC C).length=C.names.length+C.many:=by simp [cC]
theorem gW(o:C.Ok)(k:SOk C s):s.nums.map D.int++s.pieces.map D.int=(cC C).map fun x=>D.int (aY C s x):=by
 have e1:s.nums=C.names.map fun x=>nm (C.names.zip s.nums) x:=by
  refine JF fun i=>?_;rw [GU];cases e:C.names[i]? with
  |none=>
   have:=Le.mp e;rw [HG (by rw [k.ln];exact this)]
   rfl
  |some x=>rw [lG o.nd k.ln.symm e];rfl
 have e2:s.pieces=(HA C.many).map fun (i:Nat)=>(s.pieces[i]?).getD 0:=by
  refine JF fun i=>?_;rw [GU]
  by_cases c:i<C.many
  ·have e:=GG (l:=s.pieces) (i:=i) (by rw [k.lp];exact c)
   rw [J7 c,e];simp [e]
  ·rw [HG (by rw [k.lp];lia),HG (by simp;lia)]
   rfl
 unfold cC;rw [II,HH,HH]
 conv=>lhs;rw [e1,e2]
 rw [HH,HH];rfl
end
end Tw
namespace Tw
open PySem L2 L3
theorem t3{α:Type}(q:α->Bool)(g:α->D):∀l:List α,((HA l.length).filter fun (i:Nat)=>match l[i]? with|some x=>q x|none=>false).map (fun i=>match l[i]? with|some x=>g x|none=>D.non)=(l.filter q).map g
 |[]=>rfl
 |x::l=>by
  have ih:=t3 q g l;rw [GI,JP,JL,JX,JL];have e1:((fun (i:Nat)=>match (x::l)[i]? with|some x=>q x|none=>false) ∘ Nat.succ)=fun (i:Nat)=>match l[i]? with|some x=>q x|none=>false:=by funext i;simp
  rw [e1];have e2:((HA l.length).filter fun (i:Nat)=>match l[i]? with|some x=>q x|none=>false).map ((fun i=>match (x::l)[i]? with|some x=>g x|none=>D.non) ∘ Nat.succ)=(l.filter q).map g:=by
   rw [<- ih];refine Hs fun i _=>?_;simp
  cases hq:q x with
  |true=>simp only [dt,hq,if_true,GR,HH,e2]
  |false=>simp only [dt,hq,GX,if_false,HH,e2]
theorem pL{α:Type}{l:List α}{q:α->Bool}{g:α->D}{p:D->Bool}{f:D->D}(hp:∀(i:Nat) x,l[i]?=some x->p (.int (i:Nat))=q x)(hf:∀(i:Nat) x,l[i]?=some x->f (.int (i:Nat))=g x):((b_ 0 l.length).filter p).map f=(l.filter q).map g:=by
 rw [<- t3 q g l];unfold b_;rw [JX,HH];have e1:(HA l.length).filter (p ∘ fun (i:Nat)=>D.int (0+(i:Int)))=(HA l.length).filter fun (i:Nat)=>match l[i]? with|some x=>q x|none=>false:=by
  refine JE fun i hi=>?_;have hi':=HZ.mp hi;have e:=GG hi';rw [Jg,Ku,hp i _ e,e]
 rw [e1];refine Hs fun i hi=>?_;have hi':=HZ.mp (Jk.mp hi).1;have e:=GG hi';rw [Jg,Ku,hf i _ e,e]
def lz:Nat->Nat->List D
 |_,0=>[]
 |j,n+1=>.int (j:Nat)::lz (j+1) n
theorem su:∀(n j:Nat),(HA n).map (fun (i:Nat)=>D.int ((j+i:Nat):Int))=lz j n
 |0,_=>rfl
 |n+1,j=>by
  rw [JP,GR,HH,lz,<- su n (j+1)];congr 1;refine Hs fun i _=>?_;simp only [Jg];congr 2;lia
theorem CN(n:Nat):b_ 0 n=lz 0 n:=by
 rw [<- su];unfold b_;refine Hs fun i _=>?_;simp
theorem yP(n:Nat):b_ 0 (Jf (n:Nat))=lz 0 n:=by rw [Ha,CN]
theorem Aq{α:Type}{a b:List α}{x y:α}:(a++x::b).set a.length y=a++y::b:=by
 induction a with
 |nil=>rfl
 |cons z a ih=>simp [ih]
theorem D6{α:Type}{a b:List α}{x:α}:tN (a++x::b).length (a.length:Nat)=some a.length:=by
 rw [yj (by lia) (by simp;lia),Ha]
section
variable {C:Cse}{s t:Sta}{ad:Ad}{M:Mem}{Q:DK}{E:DX}{ks:List aP}
theorem lA{p:Addr}{xs:List D}(hp:M p=none)(h:Q (.lst xs) M):frz (.ref p) (M.upd p (.lst xs)) Q:=by
 simp only [frz,Mem.upd_same,Mem.upd_del,ao hp];exact h
theorem jc(h:Q s.d M):frz s.d M Q:=h
theorem o5{i:Nat}{x:aP}{f:aP->D}(h:(cC C)[i]?=some x):atI ((cC C).map f) (i:Nat)=some (f x):=by
 rw [cr (by lia),Ha,GU,h];rfl
theorem nQ(o:C.Ok)(hs:SOk C s)(ht:SOk C t)(h:∀p,M p=none->Q (.ref p) (M.upd p (.lst ((unlK C s t).map kD)))):tY ad [C.d,s.d,t.d] M Q E:=by
 have l1:=o.l1;have few:=o.few;have tl:=lH (C:=C);have t1:iQ ad (aU E) { nx:=fun _ M'=>drp Q .non M',rt:=drp Q } [some C.d,some s.d,some t.d,some (.lst ((cC C).map kD)),some (.tup ((cC C).map fun x=>.int (aY C s x))),some (.tup ((cC C).map fun x=>.int (aY C t x)))] M:=by
  unfold iQ;simp! [bV,GF];refine ⟨by lia,by lia,?_⟩
  have e0:Jf ((cC C).length:Nat)=(cC C).length:=Ha _;rw [e0];show cW _ _ _ _ _ _ _ _ [none,some (.tup ((cC C).map fun x=>.int (aY C t x))),some (.tup ((cC C).map fun x=>.int (aY C s x))),some (.lst ((cC C).map kD))] M;refine j7 (fun d=>match d with|.int i=>(match (cC C)[i.toNat]? with|some k=>decide (aY C s k≠aY C t k)|none=>false)|_=>false) (fun d=>match d with|.int i=>(match (cC C)[i.toNat]? with|some k=>kD k|none=>.non)|_=>.non) bQ (by simp [b_];lia) (fun x hx K q=>?_) (fun x hx _ K q=>?_) ?_
  ·simp only [b_,Hc,HZ] at hx
   obtain ⟨i,hi,rfl⟩:=hx;have e:=GG hi;rw [Ku] at q ⊢;simp only [Ha,e] at q;have a1:=o5 (f:=fun x=>D.int (aY C s x)) e;have a2:=o5 (f:=fun x=>D.int (aY C t x)) e;simp! [a1,a2];simpa using q
  ·simp only [b_,Hc,HZ] at hx
   obtain ⟨i,hi,rfl⟩:=hx;have e:=GG hi;rw [Ku] at q ⊢;simp only [Ha,e] at q;have a1:=o5 (f:=kD) e;simp! [a1];exact q
  ·intro p hp
   rw [pL (l:=cC C) (q:=fun k=>decide (aY C s k≠aY C t k)) (g:=kD) (fun i x e=>by simp only [Ha,e]) (fun i x e=>by simp only [Ha,e])]
   exact drp_id (h p hp)
 rw [F4 (n:=0)];unfold nD tH sR;generalize iQ ad (aU E)=K at t1 ⊢;simp only [aw,aE,aB,aA,a9,aa,dNil,GD,dt,startN,GR,HL,GI,Hg,GK,HE,HK];refine ⟨trivial,iz o ?_⟩;have es:s.d=.tup [.tup (s.nums.map D.int),.tup (s.pieces.map D.int)]:=rfl;have et:t.d=.tup [.tup (t.nums.map D.int),.tup (t.pieces.map D.int)]:=rfl;have z1:=hs.ln;have z2:=hs.lp;have z3:=ht.ln;have z4:=ht.lp;simp! [es,et,atI_0,atI_1,gW o hs,gW o ht,GF];refine ⟨szl (by lia),szl (by lia),?_⟩
 rw [<- es,<- et];exact t1
theorem pZ{c9:Option D}{cd md pd sd td od:D}{l:Addr}{D':DEnds}{EE:DX}(o:C.Ok)(hl:M l=none)(hmd:IsMx M md ks)
  (h:∀c9,D'.nx [some cd,some md,some pd,some sd,some td,some od,some (.lst ((cC C).map kD)),some (.ref l),some (.tup ((cC C).map fun x=>.int (aY C t x))),c9,none] (M.upd l (.lst ((cC C).map fun k=>.int (aY C (if k∈ks then t else s) k))))):
  dFor (cU (a9 (bD bK (a9 (aa 6) dNil)) dNil)) (ap 9) (iV ad EE) D' [some cd,some md,some pd,some sd,some td,some od,some (.lst ((cC C).map kD)),some (.ref l),some (.tup ((cC C).map fun x=>.int (aY C t x))),c9,none] (M.upd l (.lst ((cC C).map fun k=>.int (aY C s k)))):=by
 have l1:=o.l1;have few:=o.few;have tl:=lH (C:=C);have hmu:∀xs,IsMx (M.upd l xs) md ks:=fun xs=>hmd.go fun p ys e=>by rw [ai (fun z=>by rw [z,hl] at e;cases e)];exact e
 simp only [dFor,cU,bD,a9,aa,dNil,bK,cm,GD,dt,GF];refine ⟨by lia,by lia,?_⟩
 refine forD_inv (fun xs δ N=>∃(a b:List aP) (c9:Option D),cC C=a++b/\xs=lz a.length b.length/\δ=[some cd,some md,some pd,some sd,some td,some od,some (.lst ((cC C).map kD)),some (.ref l),some (.tup ((cC C).map fun x=>.int (aY C t x))),c9,none]/\N=M.upd l (.lst (a.map (fun k=>.int (aY C (if k∈ks then t else s) k))++b.map fun k=>.int (aY C s k))))
  (fun _ _ _ _=>bQ) ?_ ?_ _ _ _ ⟨[],cC C,c9,rfl,yP _,rfl,rfl⟩
 ·rintro δ N ⟨a,b,c9,e1,e2,rfl,rfl⟩
  have:b=[]:=by cases b with|nil=>rfl|cons _ _=>simp [lz] at e2
  subst this;rw [HD] at e1;have:=h c9;rw [e1] at this ⊢;simpa using this
 ·rintro x xs δ N ⟨a,b,c9,e1,e2,rfl,rfl⟩ E' hnx _ _ _
  cases b with
  |nil=>simp [lz] at e2
  |cons y b=>
   simp only [GI,lz,IQ] at e2;obtain ⟨rfl,rfl⟩:=e2;have ey:(cC C)[a.length]?=some y:=by rw [e1];simp
   have fin:∀v,v=D.int (aY C (if y∈ks then t else s) y)->E'.nx [some cd,some md,some pd,some sd,some td,some od,some (.lst ((cC C).map kD)),some (.ref l),some (.tup ((cC C).map fun x=>.int (aY C t x))),some (.int (a.length:Nat)),none] (M.upd l (.lst (a.map (fun k=>.int (aY C (if k∈ks then t else s) k))++v::b.map fun k=>.int (aY C s k)))):=fun v hv=>
    hnx _ _ ⟨a++[y],b,_,by simp [e1],by simp,rfl,by subst hv;simp⟩
   simp only [ap,Hv];unfold iV bp;refine E6 (k:=y) (ks:=ks) (hmu _) (fun K q=>?_) (fun K q=>q) ?_
   ·have a1:=o5 (f:=kD) ey
    simp! [a1];exact q
   by_cases c:y∈ks
   ·have:=fin (.int (aY C t y)) (by rw [if_pos c])
    rw [if_pos (by simpa using c)]
    have e3:(a.map (fun k=>D.int (aY C (if k∈ks then t else s) k))).length=a.length:=by simp
    have e4:=D6 (a:=a.map fun k=>D.int (aY C (if k∈ks then t else s) k)) (b:=b.map fun k=>D.int (aY C s k)) (x:=D.int (aY C s y))
    rw [e3] at e4;have e5:=Aq (a:=a.map fun k=>D.int (aY C (if k∈ks then t else s) k)) (b:=b.map fun k=>D.int (aY C s k)) (x:=D.int (aY C s y)) (y:=D.int (aY C t y))
    rw [e3] at e5;have a1:=o5 (f:=fun x=>D.int (aY C t x)) ey;simp! [a1,e4,e5,Mem.upd_upd];exact this
   ·have:=fin (.int (aY C s y)) (by rw [if_neg c])
    rw [if_neg (by simpa using c)]
    exact this
theorem yH{d:D}(hd:IsMx M d ks)(o:C.Ok)(hs:SOk C s)(ht:SOk C t)(h:Q (eB C s t ks).d M):rF ad [bd C s t,d] M Q E:=by
 have l1:=o.l1;have few:=o.few;have tl:=lH (C:=C);have z1:=hs.ln;have z2:=hs.lp;have z3:=ht.ln;have z4:=ht.lp;have es:s.d=.tup [.tup (s.nums.map D.int),.tup (s.pieces.map D.int)]:=rfl;have et:t.d=.tup [.tup (t.nums.map D.int),.tup (t.pieces.map D.int)]:=rfl;rw [Ft (n:=0)];unfold oH s_ rM tQ tU;generalize hK:mz ad (aU E)=K;generalize hF:dFor (cU (a9 (bD bK (a9 (aa 6) dNil)) dNil)) (ap 9) (iV ad (aU E))=F;simp! [bd];refine iz o ?_;simp! [es,et,atI_0,atI_1,gW o hs,gW o ht,GF];refine ⟨szl (by lia),fun l hl=>⟨szl (by lia),?_⟩⟩
 rw [<- hF];refine pZ (s:=s) (t:=t) (ks:=ks) o hl hd fun c9=>?_;dsimp only;rw [<- hK];unfold mz sJ Cse.d;have e1:((cC C).map fun k=>D.int (aY C (if k∈ks then t else s) k))=(eB C s t ks).nums.map D.int++(eB C s t ks).pieces.map D.int:=by
  simp [cC,eB,LU]
 have e2:(eB C s t ks).nums.length=C.names.length:=by simp [eB]
 rw [e1];simp! [atI_1,GF,df,gA];intro p1 h1;simp! [Mem.upd_del,ao h1];intro p2 h2;simp! [Mem.upd_del,ao h2];refine ⟨szl (by simp),M,fun b o e=>by rw [ai (fun q=>by rw [q,hl] at e;cases e)];exact e,?_⟩
 rw [List.take_left' (by simp [e2]),List.drop_left' (by simp [e2])]
 exact h
theorem uR{d:D}(hd:IsMx M d ks)(o:C.Ok)(hs:SOk C s)(ht:SOk C t)(h:Q (.str (C.ver s t ks)) M):Be ad [bd C s t,d] M Q E:=by
 have hcs:bd C s t=.tup [C.d,s.d,t.d,.int (C.most:Nat)]:=rfl;have t2:lj ad (aU E) { nx:=fun _ M'=>drp Q .non M',rt:=drp Q } [some (bd C s t),some d,some C.d,some s.d,some t.d,some (.int (C.most:Nat)),some (C.mark (eB C s t ks))] M:=by
  unfold lj;generalize hK:pO ad (aU E)=K;simp only [aw,bp,aL,au,aa,aB,aA,a9,dNil,GD,dt];refine ⟨rfl,fo o hs (eh ?_)⟩;simp only [eJ,tB];refine ⟨gH,gH,?_⟩;unfold Cse.ver at h
  by_cases c1:bc (C.mark (eB C s t ks)) (C.mark s)=true
  ·rw [if_pos c1] at h ⊢
   exact drp_id h
  ·rw [if_neg c1] at h ⊢
   dsimp only [bn];rw [<- hK];unfold pO;simp only [aZ,au,aa,aB,aA,a9,dNil,ce,dC,bD,GD,dt];refine ⟨szl (by decide),fun p hp=>lA hp ?_⟩
   refine ⟨rfl,fo o ht (eh ?_)⟩;simp only [eJ,tB];refine ⟨gH,gH,?_⟩
   by_cases c2:bc (C.mark (eB C s t ks)) (C.mark t)=true
   ·rw [if_pos c2] at h
    rw [c2];exact drp_id h
   ·rw [if_neg c2] at h
    rw [Bool.not_eq_true _ |>.mp c2]
    exact drp_id h
 rw [u_q9 (n:=0)];unfold w8 yd;generalize lj ad (aU E)=K at t2 ⊢;simp only [aw,aE,fM,bB,eM,ap,aa,startN,GR,HL,GI,Hg,GK,HE,HK,GD,dt,hcs];refine ⟨trivial,?_⟩;simp only [Hv,aB,aA,a9,aa,dNil,GD,dt];rw [<- hcs];refine ⟨rfl,bt (fun _ _ q=>yH hd o hs ht q) ?_⟩;refine jc ?_;refine ⟨rfl,fo o (rG o hs ht) (eh t2)⟩
end
end Tw
namespace Tw
open PySem L2 L3
structure Lo(k:Pt)(b:Nat)(M:Mem)(l:Addr)(xs:List D)(N:Mem):Prop where
 has:Has k b N
 np:l≠k.p
 nq:l≠k.q
 fr:M l=none
 kp:∀x,x≠k.p->x≠k.q->x≠l->N x=M x
 at':N l=some (.lst xs)
section
variable {k:Pt}{b c:Nat}{M N N':Mem}{l:Addr}{xs ys:List D}
theorem Lo.new(h:Has k b M)(hl:M l=none):Lo k b M l xs (M.upd l (.lst xs)):=
 ⟨h.upd (h.nep hl),(h.nep hl).1,(h.nep hl).2,hl,fun x _ _ n=>ai n,Mem.upd_same⟩
theorem Gz(h0:Has k c M)(d:Dr k b M N)(hl:N l=none):Lo k b M l xs (N.upd l (.lst xs)):=by
 have ne:=d.1.nep hl;exact ⟨d.1.upd ne,ne.1,ne.2,by rw [<- d.2 l ne.1 ne.2];exact hl,fun x h1 h2 n=>by rw [ai n];exact d.2 x h1 h2,Mem.upd_same⟩
theorem Lo.dr(h:Lo k b M l xs N)(d:Dr k c N N'):Lo k c M l xs N':=
 ⟨d.1,h.np,h.nq,h.fr,fun x h1 h2 n=>by rw [d.2 x h1 h2];exact h.kp x h1 h2 n,by rw [d.2 l h.np h.nq];exact h.at'⟩
theorem Lo.put(h:Lo k b M l xs N):Lo k b M l ys (N.upd l (.lst ys)):=
 ⟨h.has.upd ⟨h.np,h.nq⟩,h.np,h.nq,h.fr,fun x h1 h2 n=>by rw [ai n];exact h.kp x h1 h2 n,Mem.upd_same⟩
theorem Lo.le(h:Lo k b M l xs N)(e:c<=b):Lo k c M l xs N:=⟨h.has.le e,h.np,h.nq,h.fr,h.kp,h.at'⟩
theorem Lo.fin(h:Lo k b M l xs N):Dr k b M (N.del l)/\∀x o,(N.del l) x=some o->N x=some o:=by
 have fd:∀x,x≠l->(N.del l) x=N x:=fun x hx=>by unfold Mem.del;rw [if_neg hx]
 obtain ⟨cells,t',hh,a1,a2,a3,e1,e2⟩:=h.has;refine ⟨⟨⟨cells,t',hh,a1,a2,a3,by rw [fd _ (Hw h.np)];exact e1,by rw [fd _ (Hw h.nq)];exact e2⟩,fun x h1 h2=>?_⟩,fun x o e=>?_⟩
 ·by_cases c:x=l
  ·subst c;unfold Mem.del;rw [if_pos rfl,h.fr]
  ·rw [fd x c];exact h.kp x h1 h2 c
 ·by_cases c:x=l
  ·subst c;unfold Mem.del at e;rw [if_pos rfl] at e;cases e
  ·rw [fd x c] at e;exact e
theorem Lo.drp{Q:DK}{d:D}(h:Lo k b M l xs N)(q:∀M',Dr k b M M'->Q d M'):L3.drp Q d N:=⟨N.del l,h.fin.2,q _ h.fin.1⟩
end
theorem x9{te:bN}{k:Pt}{b:Nat}{M:Mem}{items:List D}{Q:List D->Mem->Prop}{bx:BxC (ap 0) dO te (DIt.ok ⟨items,[]⟩) Q}{rest:Dl}{c0:Option D}{xs:List D}(c:Nat)(P:D->Prop)(hl:xs.length<=100000)(hp:Has k (b+c*xs.length) M)
  (he:∀x∈xs,∀N b',Dr k (b'+c) M N->∀K:DK,(∀y N',P y->Dr k b' N N'->K y N')->te (some x::rest) N K) (h:∀ys N,ys.length=xs.length->(∀y∈ys,P y)->Dr k b M N->Q ys N):
  cW (ap 0) dO te (DIt.ok ⟨items,[]⟩) Q bx xs [] (c0::rest) M:=by
 refine cB (fun zs acc δ N=>∃(us:List D) (c0:Option D),xs=us++zs/\acc.length=us.length/\(∀y∈acc,P y)/\δ=c0::rest/\Dr k (b+c*zs.length) M N) (fun _ _ _ _ _=>bQ) ?_ ?_ ?_ _ _ _ _ ⟨[],c0,rfl,rfl,by simp,rfl,hp.refl⟩
 ·rintro acc δ N ⟨us,c0,e1,e2,e3,rfl,d⟩
  rw [HD] at e1;subst e1;exact h acc N e2 e3 (by simpa using d)
 ·rintro y ys acc δ N ⟨us,c0,e1,e2,e3,rfl,d⟩ N' hN1 _
  have h2:=congrArg Iu e1;simp only [GP,GI] at h2;have hy:y∈xs:=by rw [e1];simp
  have d':Dr k (b+c*ys.length+c) M N:=d.le (by rw [GI,Nat.mul_succ];lia)
  simp only [ap,Hv,dO,if_true];refine he y hy N _ d' _ fun z N2 hz d2=>hN1 _ _ _ (by rw [e2];exact g_ (by lia)) ⟨us++[y],_,by simp [e1],by simp [e2],fun w hw=>?_,rfl,d.trans d2⟩
  rcases Hm.mp hw with q|q
  ·exact e3 w q
  ·rw [IE] at q;subst q;exact hz
 ·rintro y ys acc δ N ⟨us,c0,e1,e2,e3,rfl,d⟩
  have h2:=congrArg Iu e1;simp only [GP] at h2;rw [e2];exact g_ (by lia)
section
variable {C:Cse}{s t:Sta}{ad:Ad}{M:Mem}{Q:DK}{E:DX}{k:Pt}{b:Nat}
theorem tV{vs:List Int}(hl:vs.length=C.names.length+C.many)(hv:∀v∈vs,0<=v/\v<C.w):SOk C ⟨vs.take C.names.length,vs.drop C.names.length⟩:=
 ⟨by simp;lia,by simp;lia,fun v h=>hv v (J2 h),fun v h=>hv v (L7 h)⟩
theorem pV{EE:DX}{Q:DK}{l:Addr}{vs:List Int}{N:Mem}{c3 c4:Option D}(hl:vs.length=C.names.length+C.many)(hv:∀v∈vs,0<=v/\v<C.w)(lo:Lo k b M l (vs.map D.int) N)(h:∀s M',SOk C s->Dr k b M M'->Q s.d M'):
  iW ad EE { nx:=fun _ M'=>drp Q .non M',rt:=drp Q } [some (.ref k.p),some C.d,some (.ref l),c3,c4,none] N:=by
 unfold iW sH Cse.d;simp! [atI_1,GF,lo.at',df,gA];intro p1 h1;simp! [Mem.upd_del,ao h1,lo.at'];intro p2 h2;simp! [Mem.upd_del,ao h2];refine ⟨szl (by simp),lo.drp fun M' d=>?_⟩
 have:=h _ M' (tV hl hv) d;unfold Sta.d standD at this;simpa using this
theorem ip(o:C.Ok)(n5:C.names.length<=5)(m6:C.many<=6)(hp:Has k (b+22) M)(h:∀s M',SOk C s->Dr k b M M'->Q s.d M'):oN ad [.ref k.p,C.d] M Q E:=by
 have w2:=o.m2;have w1:=o.m1;have ed:C.d=.tup [.int C.w,.tup (C.names.map D.str),.int (C.many:Nat),.tup (aK C.rows),.str C.mn]:=rfl;rw [F2 (n:=0)];unfold o6 ss;generalize hK4:iW ad (aU E)=K4;generalize hK2:mC ad (aU E)=K2;simp! [ed,atI_1,atI_2,↓dFor,GF];refine ⟨szl (by decide),fun l hl=>⟨by lia,by lia,?_⟩⟩
 have e0:Jf ((C.names.length:Int)+(C.many:Int))=C.names.length+C.many:=by lia
 rw [e0,<- ed]
 refine forD_inv (fun xs δ N=>∃(vs:List Int) (c3 c4:Option D),xs.length+vs.length=C.names.length+C.many/\(∀v∈vs,0<=v/\v<C.w)/\δ=[some (.ref k.p),some C.d,some (.ref l),c3,c4,none]/\Lo k (b+2*xs.length) M l (vs.map D.int) N)
  (fun _ _ _ _=>bQ) ?_ ?_ _ _ _ ⟨[],none,none,by simp [b_],by simp,rfl,(Lo.new hp hl).le (by simp [b_];lia)⟩
 ·rintro δ N ⟨vs,c3,c4,e1,hv,rfl,lo⟩
  dsimp only;rw [<- hK4];exact pV (by simpa using e1) hv (lo.le (by simp)) h
 ·rintro x xs δ N ⟨vs,c3,c4,e1,hv,rfl,lo⟩ D' hnx _ _ _
  simp only [GI] at e1 lo;simp only [ap,Hv];rw [<- hK2];unfold mC rN;simp! [ed,atI_0];refine aV (b:=b+2*xs.length+1) (lo.has.le (by lia)) (by lia) (by lia) fun v N1 a1 b1 d1=>?_
  have lo1:=lo.dr d1;simp! [lo1.at'];refine ⟨by lia,by lia,szl (by decide),fun p hp=>?_⟩
  simp! [Mem.upd_del,ao hp];refine aV (b:=b+2*xs.length) lo1.has (by decide) (by decide) fun r N2 a2 b2 d2=>?_
  have lo2:=lo1.dr d2;obtain ⟨u,eu,u0,u1⟩:∃u:Int,atI [D.int v,.int 0,.int (v % 3 % C.w)] r=some (.int u)/\0<=u/\u<C.w:=by
   have:r=0\/r=1\/r=2:=by lia
   rcases this with rfl|rfl|rfl
   ·exact ⟨_,rfl,a1,b1⟩
   ·exact ⟨_,rfl,by lia,by lia⟩
   ·exact ⟨_,rfl,(cV (by lia)).1,(cV (by lia)).2⟩
  simp! [eu,lo2.at',GF];refine ⟨g_ (by lia),?_⟩
  have:=hnx [some (.ref k.p),some C.d,some (.ref l),some x,some (.int v),none] (N2.upd l (.lst ((vs++[u]).map D.int))) ⟨vs++[u],_,_,by simp;lia,fun y hy=>?_,rfl,lo2.put⟩
  ·simpa using this
  ·rcases Hm.mp hy with q|q
   ·exact hv y q
   ·rw [IE] at q;subst q;exact ⟨u0,u1⟩
theorem yE{w:Int}{xs ys:List Int}{c0 c1:Option D}{its:List D}{Q:List D->Mem->Prop}{bx:BxC (fM 2 (bB (ap 0) (bB (ap 1) eM))) dO (au aO (aB (ce (a9 (aa 0) (a9 (aa 1) dNil)))) (aB (aA (bA ad) ni 2 (a9 (aa 2) (a9 (dC (.int 2)) dNil))))) (DIt.ok ⟨its,[]⟩) Q}
  (hx:∀v∈xs,0<=v/\v<w) (hy:∀v∈ys,0<=v/\v<w) (hl:xs.length=ys.length) (hs:xs.length<=1000) (hp:Has k (b+xs.length) M)
  (h:∀(vs:List Int) N,vs.length=xs.length->(∀v∈vs,0<=v/\v<w)->Dr k b M N->Q (vs.map D.int) N):
  cW (fM 2 (bB (ap 0) (bB (ap 1) eM))) dO (au aO (aB (ce (a9 (aa 0) (a9 (aa 1) dNil)))) (aB (aA (bA ad) ni 2 (a9 (aa 2) (a9 (dC (.int 2)) dNil))))) (DIt.ok ⟨its,[]⟩) Q bx (km (xs.map D.int) (ys.map D.int)) [] [c0,c1,some (.ref k.p)] M:=by
 refine cB (fun zs acc δ N=>∃(x2 y2 vs:List Int) (c0 c1:Option D),zs=km (x2.map D.int) (y2.map D.int)/\x2.length=y2.length/\vs.length+x2.length=xs.length/\(∀v∈x2,0<=v/\v<w)/\(∀v∈y2,0<=v/\v<w)/\(∀v∈vs,0<=v/\v<w)/\acc=vs.map D.int/\δ=[c0,c1,some (.ref k.p)]/\Dr k (b+x2.length) M N)
  (fun _ _ _ _ _=>bQ) ?_ ?_ ?_ _ _ _ _ ⟨xs,ys,[],c0,c1,rfl,hl,by simp,hx,hy,by simp,rfl,rfl,hp.refl⟩
 ·rintro acc δ N ⟨x2,y2,vs,c0,c1,e1,e2,e3,_,_,hv,rfl,rfl,d⟩
  have:x2=[]:=by
   cases x2 with
   |nil=>rfl
   |cons _ _=>
    cases y2 with
    |nil=>simp at e2
    |cons _ _=>simp [km] at e1
  subst this;exact h vs N (by simpa using e3) hv (by simpa using d)
 ·rintro z zs acc δ N ⟨x2,y2,vs,c0,c1,e1,e2,e3,h1,h2,hv,rfl,rfl,d⟩ N' hN _
  cases x2 with
  |nil=>simp [km] at e1
  |cons x x2=>
   cases y2 with
   |nil=>simp at e2
   |cons y y2=>
    simp only [km,GR,Jr,IQ] at e1;obtain ⟨rfl,rfl⟩:=e1;simp only [GI] at d e3 e2;simp! [];refine ⟨szl (by decide),fun p hp=>?_⟩
    simp! [Mem.upd_del,ao hp];refine aV (b:=b+x2.length) (d.1.le (by lia)) (by decide) (by decide) fun r N2 a2 b2 d2=>?_
    obtain ⟨u,eu,hu⟩:∃u:Int,atI [D.int x,.int y] r=some (.int u)/\0<=u/\u<w:=by
     have:r=0\/r=1:=by lia
     rcases this with rfl|rfl
     ·exact ⟨_,rfl,h1 x (by simp)⟩
     ·exact ⟨_,rfl,h2 y (by simp)⟩
    simp! [eu];refine hN _ _ _ (by rw [GF];exact g_ (by lia)) ⟨x2,y2,vs++[u],_,_,rfl,by lia,by simp;lia,fun v q=>h1 v (Hf _ q),fun v q=>h2 v (Hf _ q),fun v q=>?_,by simp,rfl,d.trans d2⟩
    rcases Hm.mp q with q|q
    ·exact hv v q
    ·rw [IE] at q;subst q;exact hu
 ·rintro z zs acc δ N ⟨x2,y2,vs,c0,c1,e1,e2,e3,h1,h2,hv,rfl,rfl,d⟩
  rw [GF];exact g_ (by lia)
theorem oE{w:Int}{xs ys:List Int}{acc:List D}{c1 c2 c3:Option D}{l:Addr}{N:Mem}{D':DEnds}{EE:DX}(hx:∀v∈xs,0<=v/\v<w)(hy:∀v∈ys,0<=v/\v<w)(hl:xs.length=ys.length)(hs:xs.length<=1000)(ha:acc.length<=10)(lo:Lo k (b+xs.length) M l acc N)
  (h:∀(vs:List Int) N,vs.length=xs.length->(∀v∈vs,0<=v/\v<w)->Lo k b M l (acc++[.tup (vs.map D.int)]) N->D'.nx [some (.ref k.p),c1,c2,c3,some (.ref l),some (.tup (xs.map D.int)),some (.tup (ys.map D.int))] N):
  qN ad EE D' [some (.ref k.p),c1,c2,c3,some (.ref l),some (.tup (xs.map D.int)),some (.tup (ys.map D.int))] N:=by
 unfold qN;simp only [bZ,rf,aa,bD,a9,aB,bV,x8,dNil,GD,dt,cm,cO,lo.at',true_and,srcOf,HD];refine yE hx hy hl hs lo.has fun vs N1 lv hv d1=>fun p hp=>?_;have lo1:=lo.dr d1;simp only [frz,Mem.upd_same,Mem.upd_del,ao hp,cTuple,seqL,cH,lo1.at'];exact ⟨g_ (by lia),h vs _ lv hv lo1.put⟩
theorem jF(o:C.Ok)(n5:C.names.length<=5)(m6:C.many<=6)(hp:Has k (b+55) M)(h:∀s t M',SOk C s->SOk C t->Dr k b M M'->Q (.tup [s.d,t.d]) M'):zp ad [.ref k.p,C.d] M Q E:=by
 rw [u_q3 (n:=0)];unfold ye xR vH vt;generalize hK:qW ad (aU E)=K;simp only [aw,aE,aB,aA,a9,aa,dNil,GD,dt,startN,GR,HL,GI,Hg,GK,HE,HK];refine ⟨trivial,calls_of fun Q' E' hq _=>ip (b:=b+33) o n5 m6 hp fun s M1 hs d1=>hq _ _ (jc ?_)⟩;simp only [ap,Hv,GD,dt];refine ⟨rfl,calls_of fun Q' E' hq _=>ip (b:=b+11) o n5 m6 d1.1 fun u M2 hu d2=>hq _ _ (jc ?_)⟩;simp only [Hv,ce,dNil,Hg];refine ⟨szl (by decide),fun l hl=>?_⟩
 have z1:=hs.ln;have z2:=hs.lp;have z3:=hu.ln;have z4:=hu.lp;have es:s.d=.tup [.tup (s.nums.map D.int),.tup (s.pieces.map D.int)]:=rfl;have eu:u.d=.tup [.tup (u.nums.map D.int),.tup (u.pieces.map D.int)]:=rfl;have lo:=Gz (xs:=[]) hp (d1.trans d2) hl;simp only [dFor,x8,a9,aa,dNil,GD,dt,es,eu,cm,srcOf,HD]
 refine forD_inv (fun zs δ N=>∃c5 c6:Option D,δ=[some (.ref k.p),some C.d,some s.d,some u.d,some (.ref l),c5,c6]/\
  ((zs=[.tup [.tup (s.nums.map D.int),.tup (u.nums.map D.int)],.tup [.tup (s.pieces.map D.int),.tup (u.pieces.map D.int)]]/\Lo k (b+11) M l [] N)\/
   (zs=[.tup [.tup (s.pieces.map D.int),.tup (u.pieces.map D.int)]]/\∃vs:List Int,vs.length=C.names.length/\(∀v∈vs,0<=v/\v<C.w)/\Lo k (b+6) M l [.tup (vs.map D.int)] N)\/
   (zs=[]/\∃vs us:List Int,vs.length=C.names.length/\(∀v∈vs,0<=v/\v<C.w)/\us.length=C.many/\(∀v∈us,0<=v/\v<C.w)/\Lo k b M l [.tup (vs.map D.int),.tup (us.map D.int)] N)))
  (fun _ _ _ _=>bQ) ?_ ?_ _ _ _ ⟨none,none,rfl,.inl ⟨rfl,lo⟩⟩
 ·rintro δ N ⟨c5,c6,rfl,⟨e,_⟩|⟨e,_⟩|⟨_,vs,us,lv,hv,lu,hu',lo3⟩⟩
  ·cases e
  ·cases e
  dsimp only;rw [<- hK];unfold qW;simp only [aZ,bJ,a9,aa,dNil,bD,GD,dt,cTuple,seqL,lo3.at'];refine ⟨szl (by simp),lo3.drp fun M' d=>?_⟩
  exact h s ⟨vs,us⟩ M' hs ⟨lv,lu,hv,hu'⟩ d
 ·rintro x xs δ N ⟨c5,c6,rfl,⟨e,lo1⟩|⟨e,vs,lv,hv,lo2⟩|⟨e,_⟩⟩ D' hnx _ _ _
  ·cases e
   simp only [fM,bB,eM,ap,Hv,GI,Hg,true_and];refine oE (b:=b+6) (w:=C.w) hs.rn hu.rn (by lia) (by lia) (by simp) (lo1.le (by lia)) fun vs N1 lv hv lo2=>hnx _ _ ⟨_,_,rfl,.inr (.inl ⟨rfl,vs,by lia,hv,lo2⟩)⟩
  ·cases e
   simp only [fM,bB,eM,ap,Hv,GI,Hg,true_and];refine oE (b:=b) (w:=C.w) hs.rp hu.rp (by lia) (by lia) (by simp) (lo2.le (by lia)) fun us N1 lu hu' lo3=>hnx _ _ ⟨_,_,rfl,.inr (.inr ⟨rfl,vs,us,lv,hv,by lia,hu',lo3⟩)⟩
  ·cases e
end
end Tw
namespace Tw
open PySem L2 L3
section
variable {C:Cse}{s t:Sta}{ad:Ad}{M:Mem}{Q:DK}{E:DX}{k:Pt}{b:Nat}
theorem sB{xs:List Int}{i:Int}(h0:0<=i)(h1:i<xs.length):∃v,v∈xs/\xs[i.toNat]?=some v/\atI (xs.map D.int) i=some (.int v):=by
 have hr:i.toNat<xs.length:=by lia
 exact ⟨xs[i.toNat],KA hr,GG hr,by rw [cr h0,GU,GG hr];rfl⟩
theorem qB{xs ys:List Int}{few turn j:Int}{c0 c1 c2 c3 c9 c10:Option D}{l:Addr}{N:Mem}{D':DEnds}{EE:DX}(hx:∀v∈xs,0<=v/\v<C.w)(hy:∀v∈ys,0<=v/\v<C.w)(hl:xs.length=ys.length)(h0:0<xs.length)(lo:Lo k b M l (ys.map D.int) N)
  (h:∀(ys':List Int) (few':Int) c9 N',ys'.length=ys.length->(∀v∈ys',0<=v/\v<C.w)->Lo k b M l (ys'.map D.int) N'->D'.nx [c0,c1,c2,c3,some (.int few'),some (.lst (xs.map D.int)),some (.ref l),some (.int turn),some (.int j),c9,c10] N'):
  jf ad EE D' [c0,c1,c2,c3,some (.int few),some (.lst (xs.map D.int)),some (.ref l),some (.int turn),some (.int j),c9,c10] N:=by
 have a:=cV (a:=j+turn) (m:=(xs.length:Nat)) (by lia)
 obtain ⟨v,hv,_,ev⟩:=sB (xs:=xs) a.1 a.2;obtain ⟨u,hu,_,eu⟩:=sB (xs:=ys) (i:=(j+turn) % (xs.length:Nat)) a.1 (by rw [<- hl];exact a.2)
 have ei:tN ys.length ((j+turn) % (xs.length:Nat))=some ((j+turn) % (xs.length:Nat)).toNat:=yj a.1 (by rw [<- hl];exact a.2)
 unfold jf tW so;simp! [GF,lo.at',ev,eu];refine ⟨by lia,?_⟩
 by_cases c1:v=u
 ·simp only [c1,decide_true,Ll,GX,if_false]
  exact h ys few _ N rfl hy lo
 ·simp only [c1,decide_false,Lb,if_true]
  by_cases c2:few=0
  ·rw [if_pos c2]
   simp only [GF,ei];have:=h (ys.set ((j+turn) % (xs.length:Nat)).toNat v) few (some (.int ((j+turn) % (xs.length:Nat)))) _ (by simp) (fun z hz=>?_) (lo.put (ys:=(ys.set ((j+turn) % (xs.length:Nat)).toNat v).map D.int))
   ·rw [List.map_set] at this
    exact this
   ·rcases List.mem_or_eq_of_mem_set hz with q|q
    ·exact hy z q
    ·subst q;exact hx z hv
  ·rw [if_neg c2]
   exact h ys _ _ N rfl hy lo
theorem ot(k:SOk C s):∀v∈s.nums++s.pieces,0<=v/\v<C.w:=fun v h=>by
 rcases Hm.mp h with q|q
 ·exact k.rn v q
 ·exact k.rp v q
theorem qj{few:Int}(o:C.Ok)(n5:C.names.length<=5)(m6:C.many<=6)(hs:SOk C s)(ht:SOk C t)(hp:Has k (b+1) M)(h:∀t M',SOk C t->Dr k b M M'->Q t.d M'):tS ad [.ref k.p,C.d,s.d,t.d,.int few] M Q E:=by
 have z1:=hs.ln;have z2:=hs.lp;have z3:=ht.ln;have z4:=ht.lp;have l0:=o.l0;have es:s.d=.tup [.tup (s.nums.map D.int),.tup (s.pieces.map D.int)]:=rfl;have et:t.d=.tup [.tup (t.nums.map D.int),.tup (t.pieces.map D.int)]:=rfl;have ed:C.d=.tup [.int C.w,.tup (C.names.map D.str),.int (C.many:Nat),.tup (aK C.rows),.str C.mn]:=rfl;have l1:(s.nums++s.pieces).length=C.names.length+C.many:=by simp;lia
 have l2:(t.nums++t.pieces).length=C.names.length+C.many:=by simp;lia
 have l1m:((s.nums++s.pieces).map D.int).length=C.names.length+C.many:=by rw [GF];exact l1
 rw [E_ (n:=0)];unfold nH tX tj tD;generalize hK5:mL ad (aU E)=K5;generalize hK3:jf ad (aU E)=K3;simp! [es,et,atI_0,atI_1,GF,<- II,↓dFor];refine ⟨szl (by lia),fun p1 h1=>?_⟩
 simp only [Mem.upd_del,ao h1];refine ⟨szl (by lia),fun l hl=>?_⟩
 have lo0:=Lo.new (xs:=(t.nums++t.pieces).map D.int) hp hl;refine aV (b:=b) lo0.has (by lia) (by lia) fun turn N1 a1 b1 d1=>?_
 have lo1:=lo0.dr d1;simp! [GF];refine ⟨by lia,by lia,?_⟩
 refine forD_inv (fun xs δ N=>(∀x∈xs,∃j,x=D.int j)/\∃(ys:List Int) (few:Int) (c8 c9:Option D),ys.length=C.names.length+C.many/\(∀v∈ys,0<=v/\v<C.w)/\δ=[some (.ref k.p),some C.d,some s.d,some t.d,some (.int few),some (.lst ((s.nums++s.pieces).map D.int)),some (.ref l),some (.int turn),c8,c9,none]/\Lo k b M l (ys.map D.int) N)
  (fun _ _ _ _=>bQ) ?_ ?_ _ _ _ ⟨?_,_,_,_,_,l2,ot ht,rfl,lo1⟩
 ·rintro δ N ⟨_,ys,few,c8,c9,ly,hy,rfl,lo⟩
  dsimp only;rw [<- hK5];unfold mL tm Cse.d;simp! [atI_1,GF,lo.at',df,gA];intro p1 h1;simp! [Mem.upd_del,ao h1,lo.at'];intro p2 h2;simp! [Mem.upd_del,ao h2];refine ⟨szl (by simp),lo.drp fun M' d=>?_⟩
  have:=h _ M' (tV ly hy) d;unfold Sta.d standD at this;simpa using this
 ·rintro x xs δ N ⟨hx,ys,few,c8,c9,ly,hy,rfl,lo⟩ D' hnx _ _ _
  obtain ⟨j,rfl⟩:=hx x (by simp)
  simp only [ap,Hv];rw [<- hK3];exact qB (ot hs) hy (by lia) (by lia) lo fun ys' few' c9 N' ly' hy' lo'=>hnx _ _ ⟨fun y q=>hx y (Hf _ q),ys',few',_,_,by lia,hy',rfl,lo'⟩
 ·intro x hx
  simp only [b_,Hc] at hx;obtain ⟨j,_,rfl⟩:=hx;exact ⟨_,rfl⟩
theorem mT(o:C.Ok)(n5:C.names.length<=5)(hp:Has k (b+3) M)(h:∀r M',RwOk C.names C.w C.many r->Dr k b M M'->Q r.d M'):zD ad [.ref k.p,C.d] M Q E:=by
 have l0:=o.l0;have ed:C.d=.tup [.int C.w,.tup (C.names.map D.str),.int (C.many:Nat),.tup (aK C.rows),.str C.mn]:=rfl;rw [u_q6 (n:=0)];unfold ya wa yb;generalize hK:qL ad (aU E)=K;simp! [ed,atI_1];refine ⟨szl (by decide),fun p1 h1=>?_⟩
 simp! [Mem.upd_del,ao h1];refine aV (b:=b+2) hp (by decide) (by decide) fun r N1 a1 b1 d1=>?_
 obtain ⟨v,ev,hv⟩:∃v:Str,atI [D.str "sum",.str "by",.str "less",.str "same"] r=some (.str v)/\(v="sum"\/v="by"\/v="less"\/v="same"):=by
  have:r=0\/r=1\/r=2\/r=3:=by lia
  rcases this with rfl|rfl|rfl|rfl
  ·exact ⟨_,rfl,.inl rfl⟩
  ·exact ⟨_,rfl,.inr (.inl rfl)⟩
  ·exact ⟨_,rfl,.inr (.inr (.inl rfl))⟩
  ·exact ⟨_,rfl,.inr (.inr (.inr rfl))⟩
 simp! [ev,↓bV];refine ⟨by decide,by decide,?_⟩
 refine x9 (k:=k) (b:=b) 1 (fun d=>∃x,d=.str x/\x∈C.names) (by simp [b_]) (by simpa [b_] using d1.1) (fun x hx N b' d K hK=>?_) fun ys N2 ly hy d2=>?_
 ·have lnm:(C.names.map D.str).length=C.names.length:=GF _
  simp! [];refine aV (b:=b') d.1 (by lia) (by lia) fun r2 N2 a2 b2 d2=>?_
  obtain ⟨y,hym,ey⟩:=rg (names:=C.names) a2 (by lia)
  simp! [ey];exact hK _ _ ⟨y,rfl,hym⟩ d2
 ·intro p hp
  obtain ⟨y1,y2,rfl⟩:∃y1 y2,ys=[y1,y2]:=by
   have ly':ys.length=2:=by rw [ly];rfl
   match ys,ly' with
   |[y1,y2],_=>exact ⟨y1,y2,rfl⟩
  obtain ⟨x1,rfl,h1⟩:=hy y1 (by simp)
  obtain ⟨x2,rfl,h2⟩:=hy y2 (by simp)
  simp! [Mem.upd_del,ao hp];rw [<- hK];unfold qL;simp! [atI_4];exact ⟨szl (by decide),drp_id (h (.two v C.mn x1 x2) _ ⟨hv,o.mn,h1,h2⟩ (d1.trans d2))⟩
end
end Tw
namespace Tw
open PySem L2 L3
theorem oz{C:Cse}{s:Sta}{m:Nat}(h1:(C.run s).1=true)(h2:(C.run s).2.steps.length<=m):({ C with most:=m }:Cse).run s=C.run s:=by
 have h1':(bv (C.cf s) C.rows [] 0 ⟨C.names.zip s.nums,[]⟩).1=true:=h1;have h2':(bv (C.cf s) C.rows [] 0 ⟨C.names.zip s.nums,[]⟩).2.steps.length<=m:=h2;show bv ⟨C.w,s.pieces,m⟩ C.rows [] 0 ⟨C.names.zip s.nums,[]⟩=bv (C.cf s) C.rows [] 0 ⟨C.names.zip s.nums,[]⟩
 by_cases c:C.most<=m
 ·exact (du (c:=C.cf s) (c':=⟨C.w,s.pieces,m⟩) ⟨rfl,rfl,c⟩ C.rows [] 0 ⟨C.names.zip s.nums,[]⟩ (Hn _)).1 h1'
 ·have q:=du (c:=⟨C.w,s.pieces,m⟩) (c':=C.cf s) ⟨rfl,rfl,by show m<=C.most;lia⟩ C.rows [] 0 ⟨C.names.zip s.nums,[]⟩ (Hn _)
  rcases mB (bv ⟨C.w,s.pieces,m⟩ C.rows [] 0 ⟨C.names.zip s.nums,[]⟩).1 with e|e
  ·have:=(q.2 e).2 h1'
   have this:m<_:=this;lia
  ·exact (q.1 e).symm
section
variable {k1 k2:Hk}{c1 c2:Cf}{l1 l2:Int}{n1 n2:hG}{r1 r2:List Int}{M N:Mem}{x:Addr}
theorem dX(e1:x≠k1.h)(e2:x≠k1.dn)(e3:x≠k1.lr):hM k1 c1 l1 n1 r1 M x=M x:=by unfold hM;rw [ai e3,ai e2,ai e1]
theorem mS(h:hM k1 c1 l1 n1 r1 M x=none):x≠k1.h/\x≠k1.dn/\x≠k1.lr/\M x=none:=by
 have e1:x≠k1.h:=fun e=>by rw [e,eT] at h;cases h
 have e2:x≠k1.dn:=fun e=>by rw [e,da] at h;cases h
 have e3:x≠k1.lr:=fun e=>by rw [e,kN] at h;cases h
 rw [dX e1 e2 e3] at h;exact ⟨e1,e2,e3,h⟩
structure Apart(k1 k2:Hk):Prop where
 h:k2.h≠k1.h/\k2.h≠k1.dn/\k2.h≠k1.lr
 d:k2.dn≠k1.h/\k2.dn≠k1.dn/\k2.dn≠k1.lr
 l:k2.lr≠k1.h/\k2.lr≠k1.dn/\k2.lr≠k1.lr
theorem m9(a:Apart k1 k2):hM k2 c2 l2 n2 r2 (hM k1 c1 l1 n1 r1 M)=hM k1 c1 l1 n1 r1 (hM k2 c2 l2 n2 r2 M):=by
 funext x
 by_cases e1:x=k1.h
 ·subst e1;rw [dX a.h.1.symm a.d.1.symm a.l.1.symm,eT,eT]
 by_cases e2:x=k1.dn
 ·subst e2;rw [dX a.h.2.1.symm a.d.2.1.symm a.l.2.1.symm,da,da]
 by_cases e3:x=k1.lr
 ·subst e3;rw [dX a.h.2.2.symm a.d.2.2.symm a.l.2.2.symm,kN,kN]
 rw [dX (k1:=k1) e1 e2 e3]
 by_cases f1:x=k2.h
 ·subst f1;rw [eT,eT]
 by_cases f2:x=k2.dn
 ·subst f2;rw [da,da]
 by_cases f3:x=k2.lr
 ·subst f3;rw [kN,kN]
 rw [dX f1 f2 f3,dX f1 f2 f3,dX e1 e2 e3]
theorem Kq.hm{k:Pt}{b:Nat}(K:Kq k b M N)(z1:N k1.h=none)(z2:N k1.dn=none)(z3:N k1.lr=none):Kq k b M (hM k1 c1 l1 n1 r1 N):=by
 refine ⟨?_,fun x o h1 h2 e=>qy z1 z2 z3 x o (K.kp x o h1 h2 e)⟩;unfold hM;exact ((K.has.upd (K.has.nep z1)).upd (K.has.nep z2)).upd (K.has.nep z3)
theorem Kq.le{k:Pt}{b c:Nat}(K:Kq k b M N)(e:c<=b):Kq k c M N:=⟨K.has.le e,K.kp⟩
theorem Has.kq{k:Pt}{b:Nat}(h:Has k b M):Kq k b M M:=⟨h,fun _ _ _ _ e=>e⟩
end
structure CsOk(C:Cse)(s t:Sta):Prop where
 o:C.Ok
 hs:SOk C s
 ht:SOk C t
 n:NmOk C.names
 m:C.many<=6
 e:∃a b:Int,C.mark s=.int a/\C.mark t=.int b/\a≠b
section
variable {C:Cse}{s t:Sta}{ad:Ad}{M N:Mem}{Q:DK}{E:DX}{k:Pt}{b:Nat}
theorem yf{few:D}{EE:DX}{D':DEnds}{c5 c6 c11 c12 c13 c14:Option D}{r0:D}{k1 k2:Hk}{rd1 rd2:List Int}{N:Mem}(o:C.Ok)(n5:NmOk C.names)(m6:C.many<=6)(mo:C.most<=1000)(hs:SOk C s)(ht:SOk C t)(a:Apart k1 k2)(g1:(C.run s).1=true)(g2:(C.run t).1=true)(hne:nm (C.run s).2.nums C.mn≠nm (C.run t).2.nums C.mn)
  (K:Kq k (b+2) M (hS k2 (C.cf t) (C.run t).2 rd2 (hS k1 (C.cf s) (C.run s).2 rd1 N))) (hrt:∀C' s t N',CsOk C' s t->Kq k b M N'->D'.rt (bd C' s t) N'):
  jm ad EE D' [some (.ref k.p),some r0,some (.int (C.most:Nat)),some few,some C.d,c5,c6,some s.d,some t.d,some (.ref k1.h),some (.ref k2.h),c11,c12,c13,c14] (hS k2 (C.cf t) (C.run t).2 rd2 (hS k1 (C.cf s) (C.run s).2 rd1 N)):=by
 have e1:hS k2 (C.cf t) (C.run t).2 rd2 (hS k1 (C.cf s) (C.run s).2 rd1 N) k1.h=some (.dK (hD k1 (C.cf s) ((C.most:Int)-(C.run s).2.steps.length))):=by
  unfold hS;rw [dX a.h.1.symm a.d.1.symm a.l.1.symm,eT];rfl
 have e2:hS k2 (C.cf t) (C.run t).2 rd2 (hS k1 (C.cf s) (C.run s).2 rd1 N) k2.h=some (.dK (hD k2 (C.cf t) ((C.most:Int)-(C.run t).2.steps.length))):=by unfold hS;rw [eT];rfl
 generalize hS k2 (C.cf t) (C.run t).2 rd2 (hS k1 (C.cf s) (C.run s).2 rd1 N)=N1 at K e1 e2 ⊢;unfold jm tZ;simp! [e1,e2,rU];refine aV (b:=b+1) K.has (by decide) (by decide) fun r N2 a2 b2 d2=>?_
 obtain ⟨m,em,mk1,mk2,mk3⟩:∃m:Nat,((C.most:Int)-(if (C.most:Int)-(C.run t).2.steps.length<(C.most:Int)-(C.run s).2.steps.length then (C.most:Int)-(C.run t).2.steps.length else (C.most:Int)-(C.run s).2.steps.length)+r=(m:Nat))/\(C.run s).2.steps.length<=m/\(C.run t).2.steps.length<=m/\m<=10000:=by
  have q1:(C.run s).2.steps.length<=C.most:=(cE (c:=C.cf s) C.rows [] 0 ⟨C.names.zip s.nums,[]⟩).2 (Hn _);have q2:(C.run t).2.steps.length<=C.most:=(cE (c:=C.cf t) C.rows [] 0 ⟨C.names.zip t.nums,[]⟩).2 (Hn _)
  split
  ·exact ⟨(C.run t).2.steps.length+r.toNat,by lia,by lia,by lia,by lia⟩
  ·exact ⟨(C.run s).2.steps.length+r.toNat,by lia,by lia,by lia,by lia⟩
 simp! [em];refine ⟨szl (by decide),fun p hp=>?_⟩
 simp! [Mem.upd_del,ao hp];refine aV (b:=b) d2.1 (by decide) (by decide) fun q N3 a3 b3 d3=>?_
 have fin:∀m:Nat,m<=10000->(C.run s).2.steps.length<=m->(C.run t).2.steps.length<=m->D'.rt (.tup [C.d,s.d,t.d,.int (m:Nat)]) N3:=fun m mo f1 f2=>by
  refine hrt { C with most:=m } s t N3 ⟨⟨o.m2,o.m1,o.few,mo,o.nd,o.l0,o.l1,o.ok,o.h,o.mn⟩,⟨hs.ln,hs.lp,hs.rn,hs.rp⟩,⟨ht.ln,ht.lp,ht.rn,ht.rp⟩,n5,m6,nm (C.run s).2.nums C.mn,nm (C.run t).2.nums C.mn,?_,?_,hne⟩ ?_
  ·unfold Cse.mark;rw [oz g1 f1];unfold kr;rw [if_pos g1]
  ·unfold Cse.mark;rw [oz g2 f2];unfold kr;rw [if_pos g2]
  ·exact (K.trans d2.kq).trans d3.kq
 have:q=0\/q=1:=by lia
 rcases this with rfl|rfl
 ·simp only [atI_0,dt]
  refine ⟨szl (by simp),fin C.most (by lia) ?_ ?_⟩
  ·exact (cE (c:=C.cf s) C.rows [] 0 ⟨C.names.zip s.nums,[]⟩).2 (Hn _)
  ·exact (cE (c:=C.cf t) C.rows [] 0 ⟨C.names.zip t.nums,[]⟩).2 (Hn _)
 ·simp only [atI_1,dt,GD]
  exact ⟨szl (by simp),fin m mk3 mk1 mk2⟩
end
end Tw
namespace Tw
open PySem L2 L3
section
variable {C:Cse}{s t:Sta}{ad:Ad}{M N:Mem}{Q:DK}{E:DX}{k:Pt}{b:Nat}
theorem e0S{c:Cf}{n:hG}{kk:Hk}:hM kk c (c.most:Nat) n [] M=hS kk c ⟨n,[]⟩ [] M:=by unfold hS;simp
theorem sC{EE:DX}{bx:BxQ EE Q}{kk:Hk}(o:C.Ok)(hs:SOk C s)(h1:∀rd,(C.run s).1=true->Q (.bl true) (hS kk (C.cf s) (C.run s).2 rd M))(h2:∀l n rd,(C.run s).1=false->Q (.bl false) (hM kk (C.cf s) l n rd M)):
  calls (Mt ad 24) EE [.ref kk.h,.tup (aK C.rows)] (hS kk (C.cf s) ⟨C.names.zip s.nums,[]⟩ [] M) Q bx:=by
 have p:=o.pl hs;exact calls_of fun Q' E' hq _=>p_ p.co p.l1 24 C.rows [] 0 ⟨C.names.zip s.nums,[]⟩ [] M Q' E' p.ok (by have:=p.h;omega) p.nok (Hn _) (by simp) (fun rd' g1 _=>hq _ _ (h1 rd' g1)) (fun l n rd' g=>hq _ _ (h2 l n rd' g))
theorem Gf{few:D}{EE:DX}{D':DEnds}{c5 c6 c11 c12 c13 c14:Option D}{r0:D}{k1 k2:Hk}{N:Mem}(o:C.Ok)(n5:NmOk C.names)(m6:C.many<=6)(mo:C.most<=1000)(hs:SOk C s)(ht:SOk C t)(a:Apart k1 k2)(z1:N k1.h=none/\N k1.dn=none/\N k1.lr=none)(z2:N k2.h=none/\N k2.dn=none/\N k2.lr=none)
  (K:Kq k (b+2) M N) (hnx:∀c11 N',Kq k b M N'->D'.nx [some (.ref k.p),some r0,some (.int (C.most:Nat)),some few,some C.d,c5,c6,some s.d,some t.d,some (.ref k1.h),some (.ref k2.h),c11,c12,c13,c14] N') (hrt:∀C' s t N',CsOk C' s t->Kq k b M N'->D'.rt (bd C' s t) N'):
  j2 ad EE D' [some (.ref k.p),some r0,some (.int (C.most:Nat)),some few,some C.d,c5,c6,some s.d,some t.d,some (.ref k1.h),some (.ref k2.h),c11,c12,c13,c14] (hM k2 (C.cf t) (C.most:Nat) (C.names.zip t.nums) [] (hM k1 (C.cf s) (C.most:Nat) (C.names.zip s.nums) [] N)):=by
 have kq1:∀l n rd l' n' rd',Kq k (b+2) M (hM k1 (C.cf s) l n rd (hM k2 (C.cf t) l' n' rd' N)):=fun l n rd l' n' rd'=>(K.hm z2.1 z2.2.1 z2.2.2).hm (by rw [dX a.h.1.symm a.d.1.symm a.l.1.symm];exact z1.1) (by rw [dX a.h.2.1.symm a.d.2.1.symm a.l.2.1.symm];exact z1.2.1) (by rw [dX a.h.2.2.symm a.d.2.2.symm a.l.2.2.symm];exact z1.2.2)
 have kq2:∀l n rd l' n' rd',Kq k (b+2) M (hM k2 (C.cf t) l n rd (hM k1 (C.cf s) l' n' rd' N)):=fun l n rd l' n' rd'=>by rw [m9 a];exact kq1 _ _ _ _ _ _
 have hn1:NOk C.names (C.cf s).m (C.run s).2.nums:=cQ (o.pl hs).co C.rows (o.pl hs).ok [] 0 ⟨C.names.zip s.nums,[]⟩ (o.pl hs).nok;have hn2:NOk C.names (C.cf t).m (C.run t).2.nums:=cQ (o.pl ht).co C.rows (o.pl ht).ok [] 0 ⟨C.names.zip t.nums,[]⟩ (o.pl ht).nok;have ed:C.d=.tup [.int C.w,.tup (C.names.map D.str),.int (C.many:Nat),.tup (aK C.rows),.str C.mn]:=rfl;unfold j2;generalize hK4:jm ad EE=K4;generalize hT:aL (au pW (au aO (au aO (aa 9) (dC (.str "numbers"))) (au aO (aa 4) (dC (.int 4)))) (au aO (au aO (aa 10) (dC (.str "numbers"))) (au aO (aa 4) (dC (.int 4)))))=TT;rw [m9 a];simp! [ed,atI_3];rw [show ((C.most:Nat):Int)=((C.cf s).most:Nat) from rfl,e0S];refine sC o hs (fun rd1 g1=>?_) fun l n rd g=>?_
 ·simp! []
  have er:hS k1 (C.cf s) (C.run s).2 rd1 (hM k2 (C.cf t) ((C.cf s).most:Nat) (C.names.zip t.nums) [] N)=hS k2 (C.cf t) ⟨C.names.zip t.nums,[]⟩ [] (hS k1 (C.cf s) (C.run s).2 rd1 N):=by
   rw [<- e0S];unfold hS;rw [<- m9 a];rfl
  rw [er];refine sC o ht (fun rd2 g2=>?_) fun l n rd g=>?_
  ·have f1:hS k2 (C.cf t) (C.run t).2 rd2 (hS k1 (C.cf s) (C.run s).2 rd1 N) k1.h=some (.dK (hD k1 (C.cf s) ((C.most:Int)-(C.run s).2.steps.length))):=by
    unfold hS;rw [dX a.h.1.symm a.d.1.symm a.l.1.symm,eT];rfl
   have f2:hS k2 (C.cf t) (C.run t).2 rd2 (hS k1 (C.cf s) (C.run s).2 rd1 N) k2.h=some (.dK (hD k2 (C.cf t) ((C.most:Int)-(C.run t).2.steps.length))):=by unfold hS;rw [eT];rfl
   have f3:hS k2 (C.cf t) (C.run t).2 rd2 (hS k1 (C.cf s) (C.run s).2 rd1 N) k1.dn=some (.dK (kvD (C.run s).2.nums)):=by
    unfold hS;rw [dX a.h.2.1.symm a.d.2.1.symm a.l.2.1.symm,da]
   have f4:hS k2 (C.cf t) (C.run t).2 rd2 (hS k1 (C.cf s) (C.run s).2 rd1 N) k2.dn=some (.dK (kvD (C.run t).2.nums)):=by unfold hS;rw [da]
   have kk:Kq k (b+2) M (hS k2 (C.cf t) (C.run t).2 rd2 (hS k1 (C.cf s) (C.run s).2 rd1 N)):=kq2 _ _ _ _ _ _;simp! [];rw [<- hT];simp! [ed,f1,f2,f3,f4,g8,atI_4,cS,(hn1.at o.mn).1,(hn2.at o.mn).1,Ib]
   by_cases c:nm (C.run s).2.nums C.mn=nm (C.run t).2.nums C.mn
   ·simp only [c,decide_true,Ll,GX,if_false]
    exact hnx _ _ (kk.le (by omega))
   ·simp only [c,decide_false,Lb,if_true]
    rw [<- hK4];exact yf o n5 m6 mo hs ht a g1 g2 c kk hrt
  ·simp! []
   exact hnx _ _ ((kq2 _ _ _ _ _ _).le (by omega))
 ·simp! []
  exact hnx _ _ ((kq1 _ _ _ _ _ _).le (by omega))
theorem jM{EE:DX}{bx:BxQ EE Q}(o:C.Ok)(hs:SOk C s)(h:∀kk:Hk,M kk.h=none->M kk.dn=none->M kk.lr=none->Q (.ref kk.h) (hM kk (C.cf s) (C.most:Nat) (C.names.zip s.nums) [] M)):
  calls (jH ad) EE [C.d,s.d,.int (C.most:Nat)] M Q bx:=by
 have p:=o.pl hs;rw [hs.pd];exact calls_of fun Q' E' hq _=>jq (c:=C.cf s) p.ln p.nd p.l0 p.l1 fun kk z1 z2 z3=>hq _ _ (h kk z1 z2 z3)
theorem uj{few:Int}{EE:DX}{D':DEnds}{c5 c6 c7 c8 c9 c10 c11 c12 c13 c14:Option D}{r0:D}(o:C.Ok)(n5:NmOk C.names)(m6:C.many<=6)(mo:C.most<=1000)
  (K:Kq k (b+58) M N) (hnx:∀c7 c8 c9 c10 c11 N',Kq k b M N'->D'.nx [some (.ref k.p),some r0,some (.int (C.most:Nat)),some (.int few),some C.d,c5,c6,c7,c8,c9,c10,c11,c12,c13,c14] N') (hrt:∀C' s t N',CsOk C' s t->Kq k b M N'->D'.rt (bd C' s t) N'):
  j9 ad EE D' [some (.ref k.p),some r0,some (.int (C.most:Nat)),some (.int few),some C.d,c5,c6,c7,c8,c9,c10,c11,c12,c13,c14] N:=by
 unfold j9 sF tu rT;generalize hK5:j2 ad EE=K5;simp only [aw,aE,aB,aA,a9,aa,dNil,GD,dt];refine ⟨rfl,calls_of fun Q' E' hq _=>jF (b:=b+3) o n5.n1 m6 (K.has.le (by omega)) fun s t0 N1 hs ht0 d1=>hq _ _ ?_⟩
 simp only [frz,fM,bB,eM,ap,Hv,GI,Hg,GD,dt];refine ⟨trivial,rfl,calls_of fun Q' E' hq _=>qj (b:=b+2) o n5.n1 m6 hs ht0 d1.1 fun t N2 ht d2=>hq _ _ (jc ?_)⟩;simp only [Hv,GD,dt];refine ⟨rfl,jM o hs fun k1 x1 x2 x3=>?_⟩;simp only [Hv,GD,dt];refine ⟨rfl,jM o ht fun k2 y1 y2 y3=>?_⟩;simp only [Hv];rw [<- hK5];obtain ⟨q1,q2,q3,q4⟩:=mS y1;obtain ⟨q5,q6,q7,q8⟩:=mS y2;obtain ⟨q9,q10,q11,q12⟩:=mS y3;exact Gf o n5 m6 mo hs ht ⟨⟨q1,q2,q3⟩,⟨q5,q6,q7⟩,⟨q9,q10,q11⟩⟩ ⟨x1,x2,x3⟩ ⟨q4,q8,q12⟩ ((K.trans d1.kq).trans d2.kq) (fun c11 N' z=>hnx _ _ _ _ _ _ z) hrt
theorem u6{EE:DX}{D':DEnds}{c1 c3 c5 c6 c7 c8 c9 c10 c11:Option D}(o:C.Ok)(n5:NmOk C.names)(m6:C.many<=6)(hrt:∀C' s t,CsOk C' s t->D'.rt (bd C' s t) M):
  gO ad EE D' [some (.ref k.p),c1,some (.int (C.most:Nat)),c3,some C.d,c5,c6,c7,c8,c9,c10,c11,none,none,none] M:=by
 have n5l:=n5.n1;have l0:=o.l0;have w2:=o.m2;have w1:=o.m1;have ed:C.d=.tup [.int C.w,.tup (C.names.map D.str),.int (C.many:Nat),.tup (aK C.rows),.str C.mn]:=rfl;have rep:∀n:Nat,(GK n [D.int 0]).flatten=(GK n (0:Int)).map D.int:=fun n=>by
  induction n with
  |zero=>rfl
  |succ n ih=>rw [He,Ig,ih,He];rfl
 have z0:∀(n:Nat) (v:Int),v∈GK n (0:Int)->0<=v/\v<C.w:=fun n v h=>by
  have:=List.eq_of_mem_replicate h;omega
 have zz:∀(l:List Str) (n:Nat),nm (l.zip (GK n (0:Int))) C.mn=0:=fun l=>by
  induction l with
  |nil=>intro n;rfl
  |cons y l ih=>
   intro n;cases n with
   |zero=>rfl
   |succ n=>
    by_cases c:y=C.mn
    ·simp [He,nm,gN,c]
    ·have:=ih n
     simp [He,nm,gN,c] at this ⊢;exact this
 have z1:nm (C.names.zip (C.names.map fun x=>if x=C.mn then (1:Int) else 0)) C.mn=1:=by
  have h1:=o.mn;generalize C.names=l at h1
  induction l with
  |nil=>simp at h1
  |cons y l ih=>
   by_cases c:y=C.mn
   ·simp [nm,gN,c]
   ·have:=ih (by rcases Hq.mp h1 with q|q;exact absurd q.symm c;exact q)
    simp [nm,gN,c] at this ⊢;exact this
 have cs:CsOk { C with rows:=[] } ⟨GK C.names.length 0,GK C.many 0⟩ ⟨C.names.map fun x=>if x=C.mn then (1:Int) else 0,GK C.many 0⟩:=by
  refine ⟨⟨o.m2,o.m1,o.few,o.most,o.nd,o.l0,o.l1,trivial,by simp [fO],o.mn⟩,⟨by simp,by simp,z0 _,z0 _⟩,⟨by simp,by simp,fun v hv=>?_,z0 _⟩,n5,m6,0,1,?_,?_,by decide⟩
  ·simp only [Hc] at hv
   obtain ⟨x,_,rfl⟩:=hv;show _/\_<C.w
   split<;>omega
  ·unfold Cse.mark kr Cse.run fS
   simp only [bv,if_true];rw [zz]
  ·unfold Cse.mark kr Cse.run fS
   simp only [bv,if_true];rw [z1]
 have cut3:∀a b c d e:D,gq [a,b,c,d,e] none (some 3)=[a,b,c]:=fun a b c d e=>df (k:=3);unfold gO nB oA;generalize hK:jK ad EE=K;simp! [ed,atI_1,atI_2,GF,rep,Ha,bV];refine ⟨szl (by decide),by simp,by omega,by omega,by decide,szl (by decide),by simp,by omega,by omega,by decide,?_⟩
 show cW _ _ _ _ _ _ _ _ [none,some C.d] M;refine pz (fun d=>match d with|.str x=>.int (if x=C.mn then 1 else 0)|_=>.non) bQ (by simp;omega) (fun x hx K q=>?_) ?_
 ·obtain ⟨y,hy,rfl⟩:=Hc.mp hx
  simp! [ed,atI_4]
  by_cases c:y=C.mn
  ·simp only [c,decide_true,if_true] at q ⊢
   exact q
  ·simp only [c,decide_false,if_false,GX] at q ⊢
   exact q
 intro p hp;have lnm:(C.names.map D.str).length=C.names.length:=GF _;simp! [Mem.upd_del,ao hp,rep,lnm,Ha];rw [<- hK];unfold jK;have em:(C.names.map D.str).map (fun d=>match d with|.str x=>D.int (if x=C.mn then 1 else 0)|_=>.non)=(C.names.map fun x=>if x=C.mn then (1:Int) else 0).map D.int:=by
  rw [HH,HH];rfl
 have:=hrt _ _ _ cs;simp! [ed,cut3,atI_4,em];simp only [bd,Cse.d,Sta.d,standD,aK] at this;exact ⟨szl (by decide),szl (by decide),szl (by decide),szl (by decide),szl (by decide),szl (by decide),this⟩
theorem Dm{few:Int}{r0:D}{EE:DX}{Q:DK}{c5:Option D}(o:C.Ok)(n5:NmOk C.names)(m6:C.many<=6)(mo:C.most<=1000)(K:Kq k (b+580) M N)(h:∀C' s t N',CsOk C' s t->Kq k b M N'->Q (bd C' s t) N'):
  gx ad EE { nx:=fun _ M'=>drp Q .non M',rt:=drp Q } [some (.ref k.p),some r0,some (.int (C.most:Nat)),some (.int few),some C.d,c5,none,none,none,none,none,none,none,none,none] N:=by
 unfold gx;generalize hK13:gO ad EE=K13;generalize hK9:j9 ad EE=K9;simp! [↓dFor];refine ⟨by decide,by decide,?_⟩
 refine forD_inv (fun xs δ N'=>xs.length<=10/\∃c6 c7 c8 c9 c10 c11:Option D,δ=[some (.ref k.p),some r0,some (.int (C.most:Nat)),some (.int few),some C.d,c5,c6,c7,c8,c9,c10,c11,none,none,none]/\Kq k (b+58*xs.length) M N')
  (fun _ _ _ _=>bQ) ?_ ?_ _ _ _ ⟨by decide,_,_,_,_,_,_,rfl,K.le (by simp [b_])⟩
 ·rintro δ N' ⟨_,c6,c7,c8,c9,c10,c11,rfl,K'⟩
  dsimp only;rw [<- hK13];exact u6 o n5 m6 fun C' s t cs=>drp_id (h C' s t N' cs (K'.le (by simp)))
 ·rintro x xs δ N' ⟨hl,c6,c7,c8,c9,c10,c11,rfl,K'⟩ D' hnx _ hrt _
  simp only [GI] at hl K';simp only [ap,Hv];rw [<- hK9];refine uj (b:=b+58*xs.length) o n5 m6 mo (K'.le (by omega)) (fun c7 c8 c9 c10 c11 N2 K2=>hnx _ _ ⟨by omega,_,_,_,_,_,_,rfl,K2⟩) fun C' s t N2 cs K2=>?_
  rw [hrt];exact drp_id (h C' s t N2 cs (K2.le (by omega)))
theorem uA{most:Nat}{few:Int}{rn:Nat}(hr:rn<=9)(hm:most<=1000)(hp:Has k (b+(600+9*100 ^ 5)) M)(h:∀C s t M',CsOk C s t->Kq k b M M'->Q (bd C s t) M'):sm ad [.ref k.p,.int (rn:Nat),.int (most:Nat),.int few] M Q E:=by
 rw [FF (n:=0)];unfold nV oF;generalize hK:gx ad (aU E)=K;generalize hK2:lI ad (aU E)=K2;simp! [];refine calls_of fun Q' E' hq _=>uh (b:=b+590) hr (hp.le (by omega)) fun w many names rows mk M1 pl K1=>hq _ _ ?_
 have m0:=pl.f.m0;have m1:=pl.f.m1;have n1:=pl.f.nm.n1;have em:((many.toNat:Nat):Int)=many:=by omega
 have mk0:∀rs,cN names w many rs->fO rs<=7->(⟨w,many.toNat,names,rs,mk,most⟩:Cse).Ok:=fun rs ok hh=>⟨pl.f.w2,pl.f.w1,by show many.toNat<=100;omega,by show most<=10000;omega,pl.f.nm.nd,pl.f.nm.n0,by show names.length<=100;omega,by show cN names w ((many.toNat:Nat):Int) rs;rw [em];exact ok,hh,pl.m⟩
 have o0:=mk0 rows pl.r.ok (by have:=pl.r.h;omega)
 have e0:on w many names rows mk=(⟨w,many.toNat,names,rows,mk,most⟩:Cse).d:=by unfold on Cse.d;rw [em]
 have fin:∀(rs:List Rw) (c5:Option D) (N:Mem),cN names w many rs->fO rs<=7->Kq k (b+580) M N->K { nx:=fun _ M'=>drp Q .non M',rt:=drp Q } [some (.ref k.p),some (.int (rn:Nat)),some (.int (most:Nat)),some (.int few),some (on w many names rs mk),c5,none,none,none,none,none,none,none,none,none] N:=fun rs c5 N ok hh KN=>by
  have e1:on w many names rs mk=(⟨w,many.toNat,names,rs,mk,most⟩:Cse).d:=by unfold on Cse.d;rw [em]
  rw [e1,<- hK];exact Dm (C:=⟨w,many.toNat,names,rs,mk,most⟩) (mk0 rs ok hh) pl.f.nm (by show many.toNat<=6;omega) hm KN h
 have hpl:on w many names rows mk=.tup [.int w,.tup (names.map D.str),.int many,.tup (aK rows),.str mk]:=rfl;have cut3:∀a b c d e:D,gq [a,b,c,d,e] none (some 3)=[a,b,c]:=fun a b c d e=>df (k:=3);simp! [hpl];refine aV (b:=b+589) K1.has (by decide) (by decide) fun r N2 a2 b2 d2=>?_
 simp! []
 by_cases c:0<r
 ·rw [if_pos c]
  rw [<- hK2];unfold lI rO;simp! [hpl,atI_3];rw [<- hpl,e0];refine calls_of fun Q' E' hq _=>mT (b:=b+580) o0 n1 (d2.1.le (by omega)) fun rr N3 hrr d3=>hq _ _ ?_
  have hrr':RwOk names w many rr:=by have:RwOk names w ((many.toNat:Nat):Int) rr:=hrr;rw [em] at this;exact this
  obtain ⟨wd,rest,ed,_,_,_,_⟩:=rb hrr';have rl:(aK rows).length<=27:=by rw [dw];exact pl.l
  rw [<- e0,ed];simp! [hpl,atI_4,cut3];refine ⟨szl (by decide),szl (by omega),szl (by decide),szl (by decide),?_⟩
  have:=fin (rows++[rr]) (some (.tup (aK (rows++[rr])))) N3 (OkRs_append.mpr ⟨pl.r.ok,hrr'.all.1,trivial⟩) (by rw [ga];simp only [fO,hrr'.all.2.1];have:=pl.r.h;omega) ((K1.trans d2.kq).trans d3.kq)
  simp only [on,cI,aK,ed] at this;exact this
 ·rw [if_neg c]
  exact fin rows none N2 pl.r.ok (by have:=pl.r.h;omega) ((K1.trans d2.kq).le (by omega))
end
end Tw
namespace Tw
open PySem L2 L3
theorem whT{c3:fb}{tb:aG}{D':DEnds}{bx:BxW c3 tb D'}{n:Nat}{δ:Dl}{M:Mem}(ht:∀K:Bool->Mem->Prop,K true M->c3 δ M K)(h:tb { D' with nx:=whileD c3 tb D' bx n,ct:=whileD c3 tb D' bx n,bk:=D'.nx } δ M):whileD c3 tb D' bx (n+1) δ M:=by
 unfold whileD;refine ht _ ?_;rw [if_pos rfl];exact h
theorem whF{c3:fb}{tb:aG}{D':DEnds}{bx:BxW c3 tb D'}{n:Nat}{δ:Dl}{M:Mem}(ht:∀K:Bool->Mem->Prop,K false M->c3 δ M K)(h:D'.nx δ M):whileD c3 tb D' bx (n+1) δ M:=by
 unfold whileD;refine ht _ ?_;rw [if_neg (by simp)]
 exact h
theorem frzN{M:Mem}{Q:DK}{p:Addr}{xs:List D}(hp:M p=none)(h:Q (.lst xs) M):frz (.ref p) (M.upd p (.lst xs)) Q:=by
 simp only [frz,Mem.upd_same,Mem.upd_del,ao hp];exact h
section
variable {C:Cse}{s t:Sta}{ad:Ad}{M:Mem}{Q:DK}{E:DX}{ks:List aP}
theorem y0(o:C.Ok)(h:∀p,M p=none->Q (.ref p) (M.upd p (.lst ((cC C).map kD)))):sI ad [C.d] M Q E:=by
 have l1:=o.l1;have few:=o.few;rw [FV (n:=0)];unfold oU Cse.d;simp! [atI_1,atI_2];intro p1 h1;simp only [Mem.upd_del,ao h1];refine ⟨⟨by lia,by lia⟩,fun p2 h2=>?_⟩
 simp only [Mem.upd_del,ao h2];refine ⟨szl (by simp [b_];lia),fun p3 h3=>drp_id ?_⟩
 have:=h p3 h3;have e:(cC C).map kD=C.names.map D.str++b_ 0 (Jf (C.many:Nat)):=by simp only [cC,b_,II,HH,Ha];congr 1;exact Hs fun i _=>by simp [kD]
 rw [e] at this;exact this
theorem wf(o:C.Ok)(hs:SOk C s)(ht:SOk C t)(h:∀p,M p=none->Q (.ref p) (M.upd p (.lst ((unlK C s t).map kD)))):sU ad [C.d,s.d,t.d] M Q E:=by
 have l1:=o.l1;have few:=o.few;have tl:(cC C).length=C.names.length+C.many:=by simp [cC]
 rw [EY (n:=0)];unfold oM;simp only [aZ,bV,i6,aB,aA,a9,aa,dNil,GD,dt];refine ⟨rfl,calls_of fun Q' E' hq _=>y0 o fun p hp=>hq _ _ (frzN hp ?_)⟩;simp only [cm,srcOf,eO,GR,HL,HE,HK,GD,dt,Kl];refine j7 (fun d=>match dA d with|some k=>decide (aY C s k≠aY C t k)|none=>false) id bQ (by simp;lia) (fun x hx K q=>?_) (fun x hx _ K q=>q) ?_
 ·obtain ⟨k,hk,rfl⟩:=Hc.mp hx
  simp only [aL,au,aB,aA,a9,aa,dNil,GD,dt];refine ⟨rfl,bt (fun _ _ q=>cL o hs hk q) ?_⟩;refine ⟨rfl,bt (fun _ _ q=>cL o ht hk q) ?_⟩;show cj 60 (.int _)=true/\cj 60 (.int _)=true/\_;refine ⟨rfl,rfl,?_⟩;have e:dA (kD k)=some k:=by cases k<;>rfl
  simp only [e] at q;simpa [dv,bc] using q
 ·intro p hp
  have e:(((cC C).map kD).filter fun d=>match dA d with|some k=>decide (aY C s k≠aY C t k)|none=>false).map id=(unlK C s t).map kD:=by
   rw [List.map_id,JX];congr 1;refine JE fun k _=>?_;cases k<;>rfl
  rw [e];exact drp_id (h p hp)
end
def eg(p:List aP->Bool):Nat->List aP->List (List aP)->List aP×List (List aP)
 |0,ks,ts=>(ks,ts)
 |n+1,ks,ts=>if 1<ks.length then
   (if p (ks.take (ks.length / 2))=true then eg p n (ks.take (ks.length / 2)) (bW ts (ks.take (ks.length / 2)))
   else if p (ks.drop (ks.length / 2))=true then eg p n (ks.drop (ks.length / 2)) (bW (bW ts (ks.take (ks.length / 2))) (ks.drop (ks.length / 2)))
   else (ks,bW (bW ts (ks.take (ks.length / 2))) (ks.drop (ks.length / 2))))
  else (ks,ts)
def dQ(p:List aP->Bool):Nat->Nat->Nat->List aP->List (List aP)->List aP×List (List aP)
 |0,_,_,ks,ts=>(ks,ts)
 |f+1,a,st,ks,ts=>if st<ks.length then
   (if p (ks.take (a % ks.length)++ks.drop (a % ks.length+1))=true then dQ p f (a % ks.length) 0 (ks.take (a % ks.length)++ks.drop (a % ks.length+1)) (bW ts (ks.take (a % ks.length)++ks.drop (a % ks.length+1)))
   else dQ p f (a % ks.length+1) (st+1) ks (bW ts (ks.take (a % ks.length)++ks.drop (a % ks.length+1))))
  else (ks,ts)
def Cse.cau(C:Cse)(s t:Sta)(ks:List aP):Bool:=decide (C.ver s t ks="faulty")
def jn(ks:List aP)(st:Nat):Nat:=ks.length*ks.length+ks.length-st
section
variable {ks:List aP}
theorem n8{n:Nat}:gq (ks.map kD) none (some (n:Int))=(ks.take n).map kD:=by rw [df,Kc]
theorem cut_mx2{n:Nat}:gq (ks.map kD) (some (n:Int)) none=(ks.drop n).map kD:=by rw [gA,List.map_drop]
end
def Cse.hal(C:Cse)(s t:Sta):List aP×List (List aP):=eg (C.cau s t) (unlK C s t).length (unlK C s t) [unlK C s t]
def Cse.nar(C:Cse)(s t:Sta):List aP×List (List aP):=dQ (C.cau s t) (jn (C.hal s t).1 0) 0 0 (C.hal s t).1 (C.hal s t).2
theorem gs{p:List aP->Bool}:∀(n:Nat) (ks:List aP) (ts:List (List aP)),(eg p n ks ts).1.length<=ks.length/\(eg p n ks ts).2.length<=ts.length+2*n
 |0,ks,ts=>⟨GO _,by simp [eg]⟩
 |n+1,ks,ts=>by
  have a1:=dF (ts:=ts) (ks:=ks.take (ks.length / 2));have a2:=dF (ts:=bW ts (ks.take (ks.length / 2))) (ks:=ks.drop (ks.length / 2));unfold eg
  split
  ·split
   ·have:=gs (p:=p) n (ks.take (ks.length / 2)) (bW ts (ks.take (ks.length / 2)))
    have h2:(ks.take (ks.length / 2)).length<=ks.length:=by rw [HN];lia
    lia
   ·split
    ·have:=gs (p:=p) n (ks.drop (ks.length / 2)) (bW (bW ts (ks.take (ks.length / 2))) (ks.drop (ks.length / 2)))
     have h2:(ks.drop (ks.length / 2)).length<=ks.length:=by rw [HW];lia
     lia
    ·exact ⟨GO _,by dsimp only;lia⟩
  ·exact ⟨GO _,by dsimp only;lia⟩
section
variable {C:Cse}{s t:Sta}{ad:Ad}{Q:DK}{k:Ak}
theorem AM{T:Sd}{EE:DX}{m:Str}{ta te:bN}{δ:Dl}{N:Mem}{x two:D}(hN:N k.a=some (.ins ad.C_Askings (yp k C s t two)))(hm:Hu m (yp k C s t two)=none)(ha:∀K:DK,K (.ref k.a) N->ta δ N K)(he:∀K:DK,K x N->te δ N K)(h:calls T EE [.ref k.a,x] N Q ⟨⟩):
  dY ad.C_Askings m T EE 2 ta (a9 te dNil) δ N Q:=by
 unfold dY;refine ha _ ?_;simp only [hN];exact ⟨trivial,hm,he _ ⟨rfl,h⟩⟩
end
theorem q_{l all:List aP}(h:l.Sublist all):all.Nodup->(all.filter fun k=>decide (k∈l))=l:=by
 induction h with
 |slnil=>intro _;rfl
 |@cons l1 l2 a h ih=>
  intro nd;obtain ⟨n1,n2⟩:=IH.mp nd;have:a∉l1:=fun z=>n1 (h.subset z);rw [JL,if_neg (by simpa using this)]
  exact ih n2
 |@cons_cons l1 l2 a h ih=>
  intro nd;obtain ⟨n1,n2⟩:=IH.mp nd;rw [JL,if_pos (by simp)]
  have e:(l2.filter fun k=>decide (k∈a::l1))=l2.filter fun k=>decide (k∈l1):=by
   refine JE fun x hx=>?_;have:x≠a:=fun e=>n1 (e▸hx);simp [this]
  rw [e,ih n2]
structure Naf(all:List aP)(ts:List (List aP)):Prop where
 nd:ts.Nodup
 hd:ts[0]?=some all
 sb:∀l∈ts,l.Sublist all
section
variable {all ks:List aP}{ts:List (List aP)}
theorem gy:ks∈bW ts ks:=by
 unfold bW
 split
 ·assumption
 ·simp
theorem gE{l:List aP}(h:l∈ts):l∈bW ts ks:=by
 unfold bW
 split
 ·exact h
 ·exact Ji _ h
theorem vp{l:List aP}(h:l∈bW ts ks):l∈ts\/l=ks:=by
 unfold bW at h
 split at h
 ·exact .inl h
 ·rcases Hm.mp h with q|q
  ·exact .inl q
  ·exact .inr (by simpa using q)
theorem Naf.add(h:Naf all ts)(s:ks.Sublist all):Naf all (bW ts ks):=by
 refine ⟨?_,?_,fun l hl=>?_⟩
 ·unfold bW
  split
  ·exact h.nd
  ·rename_i c
   refine JD.mpr ⟨h.nd,by simp,fun x hx y hy e=>?_⟩
   rw [IE] at hy;subst hy;subst e;exact c hx
 ·unfold bW
  split
  ·exact h.hd
  ·rw [HV (HU.mp h.hd).1];exact h.hd
 ·rcases vp hl with q|q
  ·exact h.sb l q
  ·subst q;exact s
theorem Naf.one:Naf all [all]:=⟨by simp,rfl,fun l h=>by rw [IE] at h;subst h;exact J0 _⟩
theorem less_sub{i:Nat}:(ks.take i++ks.drop (i+1)).Sublist ks:=by
 rw [<- List.eraseIdx_eq_take_drop_succ];exact List.eraseIdx_sublist ..
theorem ka{p:List aP->Bool}:∀(n:Nat) (ks:List aP) (ts:List (List aP)),Naf all ts->ks.Sublist all->Naf all (eg p n ks ts).2/\(eg p n ks ts).1.Sublist all
 |0,ks,ts,h,s=>⟨h,s⟩
 |n+1,ks,ts,h,s=>by
  have s1:(ks.take (ks.length / 2)).Sublist all:=(Km ..).trans s;have s2:(ks.drop (ks.length / 2)).Sublist all:=(List.drop_sublist ..).trans s;unfold eg
  split
  ·split
   ·exact ka n _ _ (h.add s1) s1
   ·split
    ·exact ka n _ _ ((h.add s1).add s2) s2
    ·exact ⟨(h.add s1).add s2,s⟩
  ·exact ⟨h,s⟩
theorem jo{p:List aP->Bool}:∀(f at0 st:Nat) (ks:List aP) (ts:List (List aP)),Naf all ts->ks.Sublist all->Naf all (dQ p f at0 st ks ts).2/\(dQ p f at0 st ks ts).1.Sublist all
 |0,_,_,ks,ts,h,s=>⟨h,s⟩
 |f+1,at0,st,ks,ts,h,s=>by
  have s1:(ks.take (at0 % ks.length)++ks.drop (at0 % ks.length+1)).Sublist all:=less_sub.trans s;unfold dQ
  split
  ·split
   ·exact jo f _ _ _ _ (h.add s1) s1
   ·exact jo f _ _ _ _ (h.add s1) s
  ·exact ⟨h,s⟩
theorem C1{C:Cse}(o:C.Ok):(cC C).Nodup:=by
 unfold cC;refine JD.mpr ⟨?_,?_,fun x hx y hy e=>?_⟩
 ·exact La _ (fun a b (h:a≠b)=>fun e=>h (Lp e)) o.nd
 ·exact La _ (fun a b (h:a≠b)=>fun e=>h (by have:=Sum.inl.inj e;lia)) List.nodup_range
 ·obtain ⟨z,_,rfl⟩:=Hc.mp hx
  obtain ⟨i,_,rfl⟩:=Hc.mp hy;cases e
theorem zL{C:Cse}{s t:Sta}(o:C.Ok):(unlK C s t).Nodup:=(C1 o).sublist List.filter_sublist
theorem yz{C:Cse}{s t:Sta}:Naf (unlK C s t) (C.nar s t).2/\(C.nar s t).1.Sublist (unlK C s t):=by
 obtain ⟨h1,h2⟩:=ka (p:=C.cau s t) (unlK C s t).length (unlK C s t) [unlK C s t] Naf.one (J0 _);exact jo _ _ _ _ _ h1 h2
end
end Tw
namespace Tw
open PySem L2 L3
def Tst(p:List aP->Bool)(ts:List (List aP))(ks:List aP)(i:Nat):Prop:=ks.take i++ks.drop (i+1)∈ts/\p (ks.take i++ks.drop (i+1))=false
section
variable {p:List aP->Bool}
theorem Tst.add{ts:List (List aP)}{ks l:List aP}{i:Nat}(h:Tst p ts ks i):Tst p (bW ts l) ks i:=⟨gE h.1,h.2⟩
theorem lW:∀(n:Nat) (ks:List aP) (ts:List (List aP)),p ks=true->ks∈ts->p (eg p n ks ts).1=true/\(eg p n ks ts).1∈(eg p n ks ts).2
 |0,ks,ts,h1,h2=>⟨h1,h2⟩
 |n+1,ks,ts,h1,h2=>by
  unfold eg
  split
  ·split
   ·rename_i q;exact lW n _ _ q gy
   ·split
    ·rename_i q;exact lW n _ _ q gy
    ·exact ⟨h1,gE (gE h2)⟩
  ·exact ⟨h1,h2⟩
theorem lX:∀(f at0 st:Nat) (ks:List aP) (ts:List (List aP)),jn ks st<=f->st<=ks.length->at0<=ks.length->p ks=true->ks∈ts->(∀j,j<st->Tst p ts ks ((at0+ks.length-1-j) % ks.length))->
  p (dQ p f at0 st ks ts).1=true/\(dQ p f at0 st ks ts).1∈(dQ p f at0 st ks ts).2/\(∀i,i<(dQ p f at0 st ks ts).1.length->Tst p (dQ p f at0 st ks ts).2 (dQ p f at0 st ks ts).1 i)/\(dQ p f at0 st ks ts).2.length<=ts.length+f
 |f,at0,st,ks,ts,hf,h1,h2,hp,hm,ht=>by
  have stop:¬st<ks.length->∀i,i<ks.length->Tst p ts ks i:=fun c i hi=>by
   have e:st=ks.length:=by lia
   have hj:(at0+ks.length-1-i) % ks.length<ks.length:=Nat.mod_lt _ (by lia)
   have:=ht ((at0+ks.length-1-i) % ks.length) (by lia)
   have e2:(at0+ks.length-1-(at0+ks.length-1-i) % ks.length) % ks.length=i:=by
    have q:=Nat.div_add_mod (at0+ks.length-1-i) ks.length;have e3:at0+ks.length-1-(at0+ks.length-1-i) % ks.length=i+ks.length*((at0+ks.length-1-i) / ks.length):=by lia
    rw [e3,Nat.add_mul_mod_self_left,Nat.mod_eq_of_lt hi]
   rw [e2] at this;exact this
  match f with
  |0=>
   have c:¬st<ks.length:=fun z=>by
    unfold jn at hf;have:1<=ks.length*ks.length:=KI (by lia) (by lia)
    lia
   unfold dQ;exact ⟨hp,hm,stop c,by dsimp only;lia⟩
  |f+1=>
   unfold dQ
   by_cases c:st<ks.length
   ·rw [if_pos c]
    have hm':at0 % ks.length<ks.length:=Nat.mod_lt _ (by lia)
    have lL:(ks.take (at0 % ks.length)++ks.drop (at0 % ks.length+1)).length=ks.length-1:=by simp only [GP,HN,HW];lia
    have al:=dF (ts:=ts) (ks:=ks.take (at0 % ks.length)++ks.drop (at0 % ks.length+1));have p1:jn (ks.take (at0 % ks.length)++ks.drop (at0 % ks.length+1)) 0<=f:=by
     unfold jn at hf ⊢;rw [lL];obtain ⟨n,hn⟩:∃n,ks.length=n+1:=⟨ks.length-1,by lia⟩
     rw [hn] at hf c ⊢;simp only [Nat.add_sub_cancel];have:(n+1)*(n+1)=n*n+2*n+1:=by rw [Nat.add_mul,Nat.mul_add];lia
     lia
    have p2:jn ks (st+1)<=f:=by
     unfold jn at hf ⊢;have:1<=ks.length*ks.length:=KI (by lia) (by lia)
     lia
    by_cases q:p (ks.take (at0 % ks.length)++ks.drop (at0 % ks.length+1))=true
    ·rw [if_pos q]
     obtain ⟨r1,r2,r3,r4⟩:=lX f (at0 % ks.length) 0 _ (bW ts (ks.take (at0 % ks.length)++ks.drop (at0 % ks.length+1))) p1 (Hn _) (by lia) q gy fun j hj=>absurd hj (IZ _)
     exact ⟨r1,r2,r3,by lia⟩
    ·rw [if_neg q]
     obtain ⟨r1,r2,r3,r4⟩:=lX f (at0 % ks.length+1) (st+1) ks (bW ts (ks.take (at0 % ks.length)++ks.drop (at0 % ks.length+1))) p2 (by lia) (by lia) hp (gE hm) fun j hj=>by
      cases j with
      |zero=>
       have e:(at0 % ks.length+1+ks.length-1-0) % ks.length=at0 % ks.length:=by
        rw [show at0 % ks.length+1+ks.length-1-0=at0 % ks.length+ks.length by lia,Nat.add_mod_right,Nat.mod_mod]
       rw [e];exact ⟨gy,by simpa using q⟩
      |succ j=>
       have e:(at0 % ks.length+1+ks.length-1-(j+1)) % ks.length=(at0+ks.length-1-j) % ks.length:=by
        rw [show at0 % ks.length+1+ks.length-1-(j+1)=at0 % ks.length+(ks.length-1-j) by lia,show at0+ks.length-1-j=at0+(ks.length-1-j) by lia,Nat.mod_add_mod]
       rw [e];exact (ht j (by lia)).add
     exact ⟨r1,r2,r3,by lia⟩
   ·rw [if_neg c]
    exact ⟨hp,hm,stop c,by dsimp only;lia⟩
end
section
variable {C:Cse}{s t:Sta}
theorem zZ(o:C.Ok)(hs:SOk C s)(ht:SOk C t):eB C s t (unlK C s t)=t:=by
 have key:∀k∈cC C,aY C (if k∈unlK C s t then t else s) k=aY C t k:=fun k hk=>by
  by_cases c:k∈unlK C s t
  ·rw [if_pos c]
  ·rw [if_neg c]
   by_cases e:aY C s k=aY C t k
   ·exact e
   ·exact absurd (Jk.mpr ⟨hk,by simpa using e⟩) c
 have e1:t.nums=C.names.map fun x=>aY C t (.inr x):=by
  refine JF fun i=>?_;rw [GU];cases e:C.names[i]? with
  |none=>
   have:=Le.mp e;rw [HG (by rw [ht.ln];exact this)]
   rfl
  |some x=>rw [lG o.nd ht.ln.symm e];rfl
 have e2:t.pieces=(HA C.many).map fun (i:Nat)=>aY C t (.inl (i:Int)):=by
  refine JF fun i=>?_;rw [GU]
  by_cases c:i<C.many
  ·have e:=GG (l:=t.pieces) (i:=i) (by rw [ht.lp];exact c)
   rw [J7 c,e];simp [aY,e]
  ·rw [HG (by rw [ht.lp];lia),HG (by simp;lia)]
   rfl
 unfold eB;have e3:(C.names.map fun x=>aY C (if GQ x∈unlK C s t then t else s) (.inr x))=t.nums:=by
  rw [e1];exact Hs fun x hx=>key _ (Hm.mpr (.inl (Hc.mpr ⟨x,hx,rfl⟩)))
 have e4:((HA C.many).map fun (i:Nat)=>aY C (if IK (i:Int)∈unlK C s t then t else s) (.inl (i:Int)))=t.pieces:=by
  rw [e2];exact Hs fun i hi=>key _ (Hm.mpr (.inr (Hc.mpr ⟨i,hi,rfl⟩)))
 rw [e3,e4]
theorem yR(o:C.Ok)(hs:SOk C s)(ht:SOk C t){a b:Int}(ea:C.mark s=.int a)(eb:C.mark t=.int b)(hab:a≠b):C.cau s t (unlK C s t)=true:=by
 unfold Cse.cau Cse.ver;rw [zZ o hs ht,ea,eb];simp only [bc,decide_eq_true_eq,Hw hab,if_false,decide_true,if_true]
theorem AS(o:C.Ok)(hs:SOk C s)(ht:SOk C t){a b:Int}(ea:C.mark s=.int a)(eb:C.mark t=.int b)(hab:a≠b):
  C.cau s t (C.nar s t).1=true/\(C.nar s t).1∈(C.nar s t).2/\(∀l∈tE (C.nar s t).1,l∈(C.nar s t).2/\C.cau s t l=false)/\(C.nar s t).2.length<=(unlK C s t).length*(unlK C s t).length+3*(unlK C s t).length+2:=by
 obtain ⟨h1,h2⟩:=lW (p:=C.cau s t) (unlK C s t).length (unlK C s t) [unlK C s t] (yR o hs ht ea eb hab) (by simp)
 obtain ⟨l1,l2⟩:=gs (p:=C.cau s t) (unlK C s t).length (unlK C s t) [unlK C s t];obtain ⟨r1,r2,r3,r4⟩:=lX (p:=C.cau s t) (jn (C.hal s t).1 0) 0 0 (C.hal s t).1 (C.hal s t).2 (GO _) (Hn _) (Hn _) h1 h2 fun j hj=>absurd hj (IZ _);refine ⟨r1,r2,fun l hl=>?_,?_⟩
 ·simp only [tE,Hc,HZ] at hl
  obtain ⟨i,hi,rfl⟩:=hl;exact r3 i hi
 ·have q1:(C.hal s t).1.length<=(unlK C s t).length:=l1
  have q2:(C.hal s t).2.length<=1+2*(unlK C s t).length:=by
   have z:(C.hal s t).2.length<=[unlK C s t].length+2*(unlK C s t).length:=l2;simpa using z
  have q3:jn (C.hal s t).1 0<=(unlK C s t).length*(unlK C s t).length+(unlK C s t).length:=by
   unfold jn;have:=Jz q1 q1;lia
  have q4:(C.nar s t).2.length<=(C.hal s t).2.length+jn (C.hal s t).1 0:=r4;lia
end
end Tw
namespace Tw
open PySem L2 L3
structure Mo(k:Ak)(M M':Mem):Prop where
 sub:∀x o,M x=some o->M' x=some o
 na:M' k.a=none
 nt:M' k.t=none
section
variable {C:Cse}{s t:Sta}{ad:Ad}{M N:Mem}{Q:DK}{E:DX}{ks:List aP}{k:Ak}{ts:List (List aP)}{a b:Int}{two:D}{c p:Addr}{v:MO}
theorem jB(hp:aM ad k C s t two ts N p=none):N p=none/\p≠k.a/\p≠k.t:=by
 have h1:p≠k.a:=fun z=>by rw [z,ms] at hp;cases hp
 have h2:p≠k.t:=fun z=>by rw [z,uF] at hp;cases hp
 unfold aM at hp;rw [ai h2,ai h1] at hp;exact ⟨hp,h1,h2⟩
theorem rE(h1:p≠k.a)(h2:p≠k.t):(aM ad k C s t two ts N).upd p v=aM ad k C s t two ts (N.upd p v):=by
 unfold aM;rw [bb h2.symm,bb h1.symm]
theorem Mo.put(h:Mo k M N)(hp:aM ad k C s t two ts N p=none):Mo k M (N.upd p v):=by
 obtain ⟨h0,h1,h2⟩:=jB hp;refine ⟨fun x o e=>?_,by rw [ai h1.symm];exact h.na,by rw [ai h2.symm];exact h.nt⟩
 have:=h.sub x o e;rw [ai (fun z=>by rw [z,h0] at this;cases this)]
 exact this
theorem Mo.at(h:Mo k M N)(e:N c=some v):aM ad k C s t two ts N c=some v:=by
 have h1:c≠k.a:=fun z=>by rw [z,h.na] at e;cases e
 have h2:c≠k.t:=fun z=>by rw [z,h.nt] at e;cases e
 unfold aM;rw [ai h2,ai h1];exact e
theorem cause_callU{EE:DX}{bx:BxQ EE Q}{d:D}(hd:IsMx (aM ad k C s t (.tup [.int a,.int b]) ts N) d ks)(o:C.Ok)(hs:SOk C s)(ht:SOk C t)(ea:C.mark s=.int a)(eb:C.mark t=.int b)(hl:ts.length<=100000)(h:Q (.bl (C.cau s t ks)) (aM ad k C s t (.tup [.int a,.int b]) (bW ts ks) N)):
  calls (qD ad) EE [.ref k.a,d] (aM ad k C s t (.tup [.int a,.int b]) ts N) Q bx:=calls_of fun Q' E' hq _=>AD hd o hs ht ea eb hl (hq _ _ h)
theorem pB{EE:DX}{D2:DEnds}{c2:Option D}(hm:Mo k M N)(hc:N c=some (.lst (ks.map kD)))(o:C.Ok)(hs:SOk C s)(ht:SOk C t)(ea:C.mark s=.int a)(eb:C.mark t=.int b)(htl:ts.length<=99990)
  (h1:C.cau s t (ks.take (ks.length / 2))=true->∀c2 c' N',Mo k M N'->N' c'=some (.lst ((ks.take (ks.length / 2)).map kD))->D2.nx [some (.ref k.a),some (.ref c'),c2] (aM ad k C s t (.tup [.int a,.int b]) (bW ts (ks.take (ks.length / 2))) N'))
  (h2:C.cau s t (ks.take (ks.length / 2))=false->C.cau s t (ks.drop (ks.length / 2))=true->∀c2 c' N',Mo k M N'->N' c'=some (.lst ((ks.drop (ks.length / 2)).map kD))->D2.nx [some (.ref k.a),some (.ref c'),c2] (aM ad k C s t (.tup [.int a,.int b]) (bW (bW ts (ks.take (ks.length / 2))) (ks.drop (ks.length / 2))) N'))
  (h3:C.cau s t (ks.take (ks.length / 2))=false->C.cau s t (ks.drop (ks.length / 2))=false->∀c2,D2.bk [some (.ref k.a),some (.ref c),c2] (aM ad k C s t (.tup [.int a,.int b]) (bW (bW ts (ks.take (ks.length / 2))) (ks.drop (ks.length / 2))) N)):
  ji ad EE D2 [some (.ref k.a),some (.ref c),c2] (aM ad k C s t (.tup [.int a,.int b]) ts N):=by
 have e2:(ks.length:Int) / 2=((ks.length / 2:Nat):Int):=by lia
 have hmx:∀ks,e_ ks=.lst (ks.map kD):=fun _=>rfl;have ec:∀ts,aM ad k C s t (.tup [.int a,.int b]) ts N c=some (.lst (ks.map kD)):=fun ts=>hm.at hc;unfold ji sM;generalize hK1:mM ad EE=K1;generalize hA1:aE (jx (aa 1) bw (ci (aa 2))) (ap 1)=A1;simp! [ec,GF];refine ⟨⟨by decide,by decide⟩,?_⟩
 simp! [ec,e2,n8,ms,jD];intro p1 q1;simp only [Mem.upd_del,ao q1];simp only [<- hmx];refine cause_callU .mx o hs ht ea eb (by lia) ?_
 have al:=dF (ts:=ts) (ks:=ks.take (ks.length / 2));simp! [];cases c1:C.cau s t (ks.take (ks.length / 2)) with
 |true=>
  simp only [if_true];rw [<- hA1];simp! [ec,e2,hmx,n8];intro p2 q2;obtain ⟨_,n1,n2⟩:=jB q2;rw [rE n1 n2];exact h1 c1 _ _ _ (hm.put q2) Mem.upd_same
 |false=>
  simp only [GX,if_false];rw [<- hK1];unfold mM;generalize hA2:aE (jx (aa 1) (ci (aa 2)) bw) (ap 1)=A2;simp! [ec,e2,hmx,cut_mx2,ms,jD];intro p2 q2;simp only [Mem.upd_del,ao q2];simp only [<- hmx];refine cause_callU .mx o hs ht ea eb (by lia) ?_
  simp! [];cases c2':C.cau s t (ks.drop (ks.length / 2)) with
  |true=>
   simp only [if_true];rw [<- hA2];simp! [ec,e2,hmx,cut_mx2];intro p3 q3;obtain ⟨_,n1,n2⟩:=jB q3;rw [rE n1 n2];exact h2 c1 c2' _ _ _ (hm.put q3) Mem.upd_same
  |false=>
   simp only [GX,if_false];exact h3 c1 c2' _
theorem pk{EE:DX}{D':DEnds}(o:C.Ok)(hs:SOk C s)(ht:SOk C t)(ea:C.mark s=.int a)(eb:C.mark t=.int b):∀(n:Nat) (ks:List aP) (ts:List (List aP)) (c2:Option D) (c:Addr) (N:Mem),Mo k M N->N c=some (.lst (ks.map kD))->ks.length<=n+1->ts.length+2*n<=99990->
  (∀c2 c' N',Mo k M N'->N' c'=some (.lst ((eg (C.cau s t) n ks ts).1.map kD))->D'.nx [some (.ref k.a),some (.ref c'),c2] (aM ad k C s t (.tup [.int a,.int b]) (eg (C.cau s t) n ks ts).2 N'))->
  whileD (aL (au qC (bD bK (a9 (aa 1) dNil)) (dC (.int 1)))) (ji ad EE) D' ⟨⟩ (n+1) [some (.ref k.a),some (.ref c),c2] (aM ad k C s t (.tup [.int a,.int b]) ts N):=by
 intro n;have hc:∀(ks:List aP) (ts:List (List aP)) (c2:Option D) (c:Addr) (N:Mem) (K:Bool->Mem->Prop),Mo k M N->N c=some (.lst (ks.map kD))->K (decide (1<ks.length)) (aM ad k C s t (.tup [.int a,.int b]) ts N)->aL (au qC (bD bK (a9 (aa 1) dNil)) (dC (.int 1))) [some (.ref k.a),some (.ref c),c2] (aM ad k C s t (.tup [.int a,.int b]) ts N) K:=fun ks ts c2 c N K hm hc q=>by
  have ec:∀ts,aM ad k C s t (.tup [.int a,.int b]) ts N c=some (.lst (ks.map kD)):=fun ts=>hm.at hc;have e:decide ((1:Int)<(ks.length:Nat))=decide (1<ks.length):=by congr 1;exact propext ⟨fun z=>by lia,fun z=>by lia⟩
  simp! [ec,GF,e];exact q
 induction n with
 |zero=>
  intro ks ts c2 c N hm he hl _ h;refine whF (fun K q=>hc ks ts c2 c N K hm he ?_) (h c2 c N hm he);rw [decide_eq_false (by lia)];exact q
 |succ n ih=>
  intro ks ts c2 c N hm he hl htl h
  by_cases z:1<ks.length
  ·refine whT (fun K q=>hc ks ts c2 c N K hm he ?_) ?_
   ·rw [decide_eq_true z];exact q
   have l1:(ks.take (ks.length / 2)).length<=n+1:=by rw [HN];lia
   have l2:(ks.drop (ks.length / 2)).length<=n+1:=by rw [HW];lia
   have al:=dF (ts:=ts) (ks:=ks.take (ks.length / 2));have al2:=dF (ts:=bW ts (ks.take (ks.length / 2))) (ks:=ks.drop (ks.length / 2));unfold eg at h;rw [if_pos z] at h;refine pB hm he o hs ht ea eb (by lia) (fun q c2 c' N' hm' he'=>ih _ _ _ _ _ hm' he' l1 (by lia) ?_) (fun q1 q2 c2 c' N' hm' he'=>ih _ _ _ _ _ hm' he' l2 (by lia) ?_) fun q1 q2 c2=>?_
   ·rw [if_pos q] at h;exact h
   ·rw [if_neg (by rw [q1];simp),if_pos q2] at h;exact h
   ·rw [if_neg (by rw [q1];simp),if_neg (by rw [q2];simp)] at h;exact h c2 c N hm he
  ·refine whF (fun K q=>hc ks ts c2 c N K hm he ?_) ?_
   ·rw [decide_eq_false z];exact q
   unfold eg at h;rw [if_neg z] at h;exact h c2 c N hm he
theorem mi{EE:DX}{bx:BxQ EE Q}(hm:Mo k M N)(he:N c=some (.lst (ks.map kD)))(o:C.Ok)(hs:SOk C s)(ht:SOk C t)(ea:C.mark s=.int a)(eb:C.mark t=.int b)(hl:ks.length<=100)(htl:ts.length<=1000)(h:∀c' N',Mo k M N'->N' c'=some (.lst ((eg (C.cau s t) ks.length ks ts).1.map kD))->Q (.ref c') (aM ad k C s t (.tup [.int a,.int b]) (eg (C.cau s t) ks.length ks ts).2 N')):
  calls (tR ad) EE [.ref k.a,.ref c] (aM ad k C s t (.tup [.int a,.int b]) ts N) Q bx:=by
 refine calls_of fun Q' E' hq _=>?_;rw [Fg (n:=0)];unfold pA;simp only [aw,dWhile];refine ⟨ks.length+1,pk o hs ht ea eb ks.length ks ts _ c N hm he (by lia) (by lia) fun c2 c' N' hm' he'=>?_⟩
 exact drp_id (hq _ _ (h c' N' hm' he'))
theorem uf{EE:DX}{D2:DEnds}{at0 st:Nat}{c4:Option D}(hm:Mo k M N)(hc:N c=some (.lst (ks.map kD)))(o:C.Ok)(hs:SOk C s)(ht:SOk C t)(ea:C.mark s=.int a)(eb:C.mark t=.int b)(htl:ts.length<=99990)(h0:0<ks.length)(hl:ks.length<=100)
  (h1:C.cau s t (ks.take (at0 % ks.length)++ks.drop (at0 % ks.length+1))=true->∀c4 c' N',Mo k M N'->N' c'=some (.lst ((ks.take (at0 % ks.length)++ks.drop (at0 % ks.length+1)).map kD))->D2.nx [some (.ref k.a),some (.ref c'),some (.int ((at0 % ks.length:Nat):Int)),some (.int ((0:Nat):Int)),c4] (aM ad k C s t (.tup [.int a,.int b]) (bW ts (ks.take (at0 % ks.length)++ks.drop (at0 % ks.length+1))) N'))
  (h2:C.cau s t (ks.take (at0 % ks.length)++ks.drop (at0 % ks.length+1))=false->∀c4 N',Mo k M N'->N' c=some (.lst (ks.map kD))->D2.nx [some (.ref k.a),some (.ref c),some (.int ((at0 % ks.length+1:Nat):Int)),some (.int ((st+1:Nat):Int)),c4] (aM ad k C s t (.tup [.int a,.int b]) (bW ts (ks.take (at0 % ks.length)++ks.drop (at0 % ks.length+1))) N')):
  j5 ad EE D2 [some (.ref k.a),some (.ref c),some (.int (at0:Nat)),some (.int (st:Nat)),c4] (aM ad k C s t (.tup [.int a,.int b]) ts N):=by
 have e2:(at0:Int) % ((ks.length:Nat):Int)=((at0 % ks.length:Nat):Int):=by lia
 have e3:((at0 % ks.length:Nat):Int)+1=((at0 % ks.length+1:Nat):Int):=by lia
 have e4:((st:Nat):Int)+1=((st+1:Nat):Int):=by lia
 have hmx:∀ks,e_ ks=.lst (ks.map kD):=fun _=>rfl;have lm:(ks.map kD).length=ks.length:=GF _;have ec:∀ts,aM ad k C s t (.tup [.int a,.int b]) ts N c=some (.lst (ks.map kD)):=fun ts=>hm.at hc;generalize hA:at0 % ks.length=A at h1 h2 e2 e3;generalize hL:ks.take A++ks.drop (A+1)=L at h1 h2;unfold j5 rJ;generalize hK3:mY ad EE=K3;simp! [ec,lm];refine ⟨by lia,?_⟩
 simp! [ec,e2,e3,n8,cut_mx2];intro p1 q1;simp! [Mem.upd_del,ao q1,ec,e3,cut_mx2];intro p2 q2;simp! [Mem.upd_del,ao q2];refine ⟨szl (by simp only [GF,HN,HW];lia),fun p3 q3=>?_⟩
 obtain ⟨z0,n1,n2⟩:=jB q3;have eL:(ks.take A).map kD++(ks.drop (A+1)).map kD=L.map kD:=by rw [<- hL,II]
 rw [rE n1 n2,eL,<- hK3];have hm3:=hm.put (v:=.lst (L.map kD)) q3;have hc3:(N.upd p3 (.lst (L.map kD))) c=some (.lst (ks.map kD)):=by rw [ai (fun z=>by rw [z,z0] at hc;cases hc)];exact hc
 have hp3:(N.upd p3 (.lst (L.map kD))) p3=some (.lst (L.map kD)):=Mem.upd_same;generalize N.upd p3 (.lst (L.map kD))=N3 at hm3 hc3 hp3 ⊢;unfold mY;generalize hK1:mE ad EE=K1;generalize hK2:mG ad EE=K2;simp! [ms,jD];refine cause_callU (ks:=L) (.inr ⟨p3,rfl,hm3.at hp3⟩) o hs ht ea eb (by lia) ?_
 simp! [];cases c1:C.cau s t L with
 |true=>
  simp only [if_true];rw [<- hK1];unfold mE;simp! [];exact h1 c1 _ _ _ hm3 hp3
 |false=>
  simp only [GX,if_false];rw [<- hK2];unfold mG;simp! [e3,e4];exact h2 c1 _ _ hm3 hc3
theorem ut{EE:DX}{D':DEnds}(o:C.Ok)(hs:SOk C s)(ht:SOk C t)(ea:C.mark s=.int a)(eb:C.mark t=.int b):∀(f:Nat) (at0 st:Nat) (ks:List aP) (ts:List (List aP)) (c4:Option D) (c:Addr) (N:Mem),Mo k M N->N c=some (.lst (ks.map kD))->jn ks st<=f->ks.length<=100->ts.length+f<=99990->
  (∀c2 c3 c4 c' N',Mo k M N'->N' c'=some (.lst ((dQ (C.cau s t) f at0 st ks ts).1.map kD))->D'.nx [some (.ref k.a),some (.ref c'),c2,c3,c4] (aM ad k C s t (.tup [.int a,.int b]) (dQ (C.cau s t) f at0 st ks ts).2 N'))->
  whileD (aL (au v0 (aa 3) (bD bK (a9 (aa 1) dNil)))) (j5 ad EE) D' ⟨⟩ (f+1) [some (.ref k.a),some (.ref c),some (.int (at0:Nat)),some (.int (st:Nat)),c4] (aM ad k C s t (.tup [.int a,.int b]) ts N):=by
 intro f;have hc:∀(at0 st:Nat) (ks:List aP) (ts:List (List aP)) (c4:Option D) (c:Addr) (N:Mem) (K:Bool->Mem->Prop),Mo k M N->N c=some (.lst (ks.map kD))->K (decide (st<ks.length)) (aM ad k C s t (.tup [.int a,.int b]) ts N)->aL (au v0 (aa 3) (bD bK (a9 (aa 1) dNil))) [some (.ref k.a),some (.ref c),some (.int (at0:Nat)),some (.int (st:Nat)),c4] (aM ad k C s t (.tup [.int a,.int b]) ts N) K:=fun at0 st ks ts c4 c N K hm hc q=>by
  have ec:∀ts,aM ad k C s t (.tup [.int a,.int b]) ts N c=some (.lst (ks.map kD)):=fun ts=>hm.at hc;have e:decide (((st:Nat):Int)<(ks.length:Nat))=decide (st<ks.length):=by congr 1;exact propext ⟨fun z=>by lia,fun z=>by lia⟩
  simp! [ec,GF,e];exact q
 induction f with
 |zero=>
  intro at0 st ks ts c4 c N hm he hf hl _ h;refine whF (fun K q=>hc at0 st ks ts c4 c N K hm he ?_) (h _ _ c4 c N hm he);unfold jn at hf;rw [decide_eq_false ?_]
  ·exact q
  ·intro z
   have:1<=ks.length*ks.length:=KI (by lia) (by lia)
   lia
 |succ f ih=>
  intro at0 st ks ts c4 c N hm he hf hl htl h
  by_cases z:st<ks.length
  ·refine whT (fun K q=>hc at0 st ks ts c4 c N K hm he ?_) ?_
   ·rw [decide_eq_true z];exact q
   have hmd:at0 % ks.length<ks.length:=Nat.mod_lt _ (by lia)
   have lL:(ks.take (at0 % ks.length)++ks.drop (at0 % ks.length+1)).length=ks.length-1:=by simp only [GP,HN,HW];lia
   have al:=dF (ts:=ts) (ks:=ks.take (at0 % ks.length)++ks.drop (at0 % ks.length+1));unfold dQ at h;rw [if_pos z] at h;have p1:jn (ks.take (at0 % ks.length)++ks.drop (at0 % ks.length+1)) 0<=f:=by
    unfold jn at hf ⊢;rw [lL];obtain ⟨n,hn⟩:∃n,ks.length=n+1:=⟨ks.length-1,by lia⟩
    rw [hn] at hf z ⊢;simp only [Nat.add_sub_cancel];have:(n+1)*(n+1)=n*n+2*n+1:=by rw [Nat.add_mul,Nat.mul_add];lia
    lia
   have p2:jn ks (st+1)<=f:=by
    unfold jn at hf ⊢;have:1<=ks.length*ks.length:=KI (by lia) (by lia)
    lia
   refine uf hm he o hs ht ea eb (by lia) (by lia) hl (fun q c4 c' N' hm' he'=>ih _ 0 _ _ _ _ _ hm' he' p1 (by lia) (by lia) ?_) fun q c4 N' hm' he'=>ih _ (st+1) _ _ _ _ _ hm' he' p2 hl (by lia) ?_
   ·rw [if_pos q] at h;exact h
   ·rw [if_neg (by rw [q];simp)] at h;exact h
  ·refine whF (fun K q=>hc at0 st ks ts c4 c N K hm he ?_) ?_
   ·rw [decide_eq_false z];exact q
   unfold dQ at h;rw [if_neg z] at h;exact h _ _ c4 c N hm he
theorem kj{EE:DX}{bx:BxQ EE Q}(hm:Mo k M N)(he:N c=some (.lst (ks.map kD)))(o:C.Ok)(hs:SOk C s)(ht:SOk C t)(ea:C.mark s=.int a)(eb:C.mark t=.int b)(hl:ks.length<=100)(htl:ts.length<=1000)(h:∀c' N',Mo k M N'->N' c'=some (.lst ((dQ (C.cau s t) (jn ks 0) 0 0 ks ts).1.map kD))->Q (.ref c') (aM ad k C s t (.tup [.int a,.int b]) (dQ (C.cau s t) (jn ks 0) 0 0 ks ts).2 N')):
  calls (sx ad) EE [.ref k.a,.ref c] (aM ad k C s t (.tup [.int a,.int b]) ts N) Q bx:=by
 refine calls_of fun Q' E' hq _=>?_;have hp:jn ks 0<=20000:=by
  unfold jn;have:ks.length*ks.length<=100*100:=Jz hl hl;lia
 rw [EU (n:=0)];unfold pb rR;simp only [aw,aE,dC,ap,Hv,dWhile];exact ⟨jn ks 0+1,ut o hs ht ea eb (jn ks 0) 0 0 ks ts none c N hm he (GO _) hl (by lia) fun c2 c3 c4 c' N' hm' he'=>drp_id (hq _ _ (h c' N' hm' he'))⟩
end
end Tw
namespace Tw
open PySem L2 L3
def Tld(M:Mem)(C:Cse)(s t:Sta):List (List aP)->List D->Prop
 |[],ds=>ds=[]
 |l::ts,ds=>∃p ds',ds=.tup [.ref p,.str (C.ver s t l)]::ds'/\M p=some (.lst (l.map kD))/\Tld M C s t ts ds'
section
variable {C:Cse}{s t:Sta}{ad:Ad}{M N:Mem}{Q:DK}{E:DX}{ks:List aP}{k:Ak}{ts:List (List aP)}{a b:Int}{c p:Addr}{ds:List D}
theorem Tld.mono(hs:∀x o,M x=some o->N x=some o):∀{ts:List (List aP)} {ds:List D},Tld M C s t ts ds->Tld N C s t ts ds
 |[],_,h=>h
 |_::_,_,⟨p,ds',e,hp,h⟩=>⟨p,ds',e,hs _ _ hp,Tld.mono hs h⟩
theorem Tld.snoc{l:List aP}(hp:M p=some (.lst (l.map kD))):∀{ts:List (List aP)} {ds:List D},Tld M C s t ts ds->Tld M C s t (ts++[l]) (ds++[.tup [.ref p,.str (C.ver s t l)]])
 |[],_,h=>by subst h;exact ⟨p,[],rfl,hp,rfl⟩
 |_::_,_,⟨p',ds',e,hp',h⟩=>by subst e;exact ⟨p',_,rfl,hp',Tld.snoc hp h⟩
theorem Tld.len:∀{ts:List (List aP)} {ds:List D},Tld M C s t ts ds->ds.length=ts.length
 |[],_,h=>by subst h;rfl
 |_::_,_,⟨_,_,e,_,h⟩=>by subst e;rw [GI,GI,Tld.len h]
theorem nO{EE:DX}{bx:BxQ EE Q}(o:C.Ok)(hs:SOk C s)(ht:SOk C t)(h:∀p,M p=none->Q (.ref p) (M.upd p (.lst ((unlK C s t).map kD)))):calls (r9 ad) EE [bd C s t] M Q bx:=by
 refine calls_of fun Q' E' hq _=>?_;rw [F6 (n:=0)];unfold pi bd;simp! [atI_0,atI_1,atI_2];exact calls_of fun Q2 E2 hq2 _=>wf o hs ht fun p hp=>hq2 _ _ (drp_id (hq _ _ (h p hp)))
theorem og{Q:List D->Mem->Prop}{c0 c1:Option D}{its:List D}{bx:BxC (fM 2 (bB (ap 0) (bB (ap 1) eM))) dO (bJ (a9 (bD fj (a9 (aa 0) dNil)) (a9 (aa 1) dNil))) (DIt.ok ⟨its,[]⟩) Q}(hl:ts.length<=100000)(h:∀ds N,(∀x o,M x=some o->N x=some o)->Tld N C s t ts ds->Q ds N):
  cW (fM 2 (bB (ap 0) (bB (ap 1) eM))) dO (bJ (a9 (bD fj (a9 (aa 0) dNil)) (a9 (aa 1) dNil))) (DIt.ok ⟨its,[]⟩) Q bx (ib (hZ C s t ts)) [] [c0,c1] M:=by
 have ek:∀l:List aP,(l.map fun k=>match k with|.inl i=>D.int i|.inr x=>D.str x)=l.map kD:=fun l=>Hs fun k _=>by cases k<;>rfl
 have ei:∀us,ib (hZ C s t us)=us.map fun l=>.tup [.tup (l.map kD),.str (C.ver s t l)]:=fun us=>by
  unfold ib hZ;rw [HH];refine Hs fun l _=>?_;show D.tup [.tup (l.map fun k=>match k with|.inl i=>D.int i|.inr x=>D.str x),_]=_
  rw [ek]
 rw [ei];refine cB (fun xs acc δ N=>∃(l1 l2:List (List aP)) (c0 c1:Option D),ts=l1++l2/\xs=l2.map (fun l=>.tup [.tup (l.map kD),.str (C.ver s t l)])/\Tld N C s t l1 acc/\δ=[c0,c1]/\∀x o,M x=some o->N x=some o) (fun _ _ _ _ _=>bQ) ?_ ?_ ?_ _ _ _ _ ⟨[],ts,c0,c1,rfl,rfl,rfl,rfl,fun _ _ e=>e⟩
 ·rintro acc δ N ⟨l1,l2,c0,c1,e1,e2,T,rfl,sb⟩
  have:l2=[]:=by cases l2 with|nil=>rfl|cons _ _=>simp at e2
  subst this;rw [HD] at e1;subst e1;exact h _ _ sb T
 ·rintro x xs acc δ N ⟨l1,l2,c0,c1,e1,e2,T,rfl,sb⟩ N' hN _
  cases l2 with
  |nil=>simp at e2
  |cons y l2=>
   simp only [GR,IQ] at e2;obtain ⟨rfl,rfl⟩:=e2;have hl2:=congrArg Iu e1;simp only [GP,GI] at hl2;simp! [];intro p hp;have up:∀x o,N x=some o->(N.upd p (.lst (y.map kD))) x=some o:=fun x o e=>by rw [ai (fun z=>by rw [z,hp] at e;cases e)];exact e
   refine ⟨szl (by decide),hN _ _ _ ?_ ⟨l1++[y],l2,_,_,by simp [e1],rfl,(T.mono up).snoc Mem.upd_same,rfl,fun x o e=>up x o (sb x o e)⟩⟩
   rw [T.len];exact g_ (by lia)
 ·rintro x xs acc δ N ⟨l1,l2,c0,c1,e1,e2,T,rfl,sb⟩
  have hl2:=congrArg Iu e1;simp only [GP] at hl2;rw [T.len];exact g_ (by lia)
theorem kb{EE:DX}{bx:BxQ EE Q}(o:C.Ok)(hs:SOk C s)(ht:SOk C t)(ea:C.mark s=.int a)(eb:C.mark t=.int b)(hab:a≠b)(hl:(unlK C s t).length<=100)(hn:(C.nar s t).2.length<=100000)(h:∀ds c N,Tld N C s t (C.nar s t).2 ds->N c=some (.lst ((C.nar s t).1.map kD))->Q (.tup [.lst ds,.ref c]) N):
  calls (sv ad) EE [bd C s t] M Q bx:=by
 refine calls_of fun Q' E' hq _=>?_;obtain ⟨hl1,hl2⟩:=gs (p:=C.cau s t) (unlK C s t).length (unlK C s t) [unlK C s t];rw [Fj (n:=0)];unfold p8;generalize hK4:mO ad (aU E')=K4;simp! [];intro x hx;refine calls_of fun Q2 E2 hq2 _=>A5 hx o hs ht ea eb hab fun k hk hkt=>hq2 _ _ ?_;subst hk;simp! [];rw [<- hK4];unfold mO sW rX;generalize hK1:n6 ad (aU E')=K1;simp only [aw,aE,aA,a9,aa,dNil,GD,dt];refine ⟨rfl,nO o hs ht fun p hp=>?_⟩;obtain ⟨hp0,n1,n2⟩:=jB hp;rw [rE n1 n2];have m0:Mo k M M:=⟨fun _ _ e=>e,hx,hkt⟩;have m1:=m0.put (v:=.lst ((unlK C s t).map kD)) hp;have ep:(M.upd p (.lst ((unlK C s t).map kD))) p=some (.lst ((unlK C s t).map kD)):=Mem.upd_same;generalize M.upd p (.lst ((unlK C s t).map kD))=N1 at m1 ep ⊢;simp only [ap,Hv,bZ];refine AM (k:=k) ms xH (fun K q=>q) (fun K q=>q) (calls_of fun Q3 E3 hq3 _=>Bu (ks:=unlK C s t) (.inr ⟨p,rfl,m1.at ep⟩) o hs ht ea eb (by simp) (hq3 _ _ ?_))
 have e0:bW [] (unlK C s t)=[unlK C s t]:=by simp [bW]
 rw [e0];simp only [aw,aE,aA,a9,aa,dNil,GD,dt];refine ⟨rfl,mi m1 ep o hs ht ea eb hl (by simp) fun c1 N2 m2 ec1=>?_⟩
 have hh1:(C.hal s t).1.length<=100:=Hd hl1 hl;have hh2:(C.hal s t).2.length<=1000:=Hd hl2 (by simp;lia)
 refine ⟨rfl,kj m2 (ks:=(C.hal s t).1) (ts:=(C.hal s t).2) ec1 o hs ht ea eb hh1 hh2 fun c N3 m3 ec=>?_⟩;simp only [ap,Hv];rw [<- hK1];unfold n6;generalize hN:dQ (C.cau s t) (jn (C.hal s t).1 0) 0 0 (C.hal s t).1 (C.hal s t).2=nr at ec ⊢;have hN':C.nar s t=nr:=hN;rw [hN'] at h hn;simp only [aZ,bJ,a9,aB,bV,qO,dl,aa,GD,dt,ms,j3,uF,true_and,eO,GR,HL,HE,HK];have ecd:(aM ad k C s t (.tup [.int a,.int b]) nr.2 N3).del k.t c=some (.lst (nr.1.map kD)):=by
  have z:c≠k.t:=fun z=>by rw [z,m3.nt] at ec;cases ec
  unfold Mem.del;rw [if_neg z];exact m3.at ec
 refine og hn fun ds N4 sb T=>?_;intro pl hpl;refine frzN hpl ?_;exact ⟨szl (by simp),drp_id (hq _ _ (h ds c N4 T (sb _ _ ecd)))⟩
end
end Tw
namespace L3
open PySem L2
theorem Bb(ts:List Str):(listText ts).length<=piled ts+5:=by
 rw [listText_eq_join,strLen_append,strLen_append];have e1:(("[":String):Str).length=1:=rfl;have e2:(("]":String):Str).length=1:=rfl
 by_cases h:ts=[]
 ·subst h
  have:(Str.join ", " ([]:List Str)).length=0:=rfl;lia
 ·have:=join_length_add ts h
  lia
end L3
namespace Tw
open PySem L2 L3
theorem yJ{n:Nat}{xs:List D}(h:∀x∈xs,EC n x):EC (n+1) (.lst xs):=by
 refine ⟨by simp only [cj];exact p9 xs fun x hx=>(h x hx).1,by simp only [dM,Jh];exact oV xs fun x hx=>(h x hx).2.1,?_⟩
 simp only [dM,PyData.shown,sz];have:=Bb (JN (fq xs));have:=kH xs fun x hx=>(h x hx).2.2;lia
theorem wF:∀l:List aP,yt (l.map kD)<=2002*l.length
 |[]=>by simp [yt]
 |k::l=>by
  have:=wF l;have:sz (kD k)<=2000:=by cases k<;>simp [kD,sz]
  simp only [GR,yt,GI];lia
section
variable {C:Cse}{s t:Sta}{ad:Ad}{M N:Mem}{Q:DK}{E:DX}{l:List aP}
theorem FI{n:Nat}(nm:NmOk C.names)(m6:C.many<=6){k:aP}(hk:k∈cC C):EC n (kD k):=by
 rcases Hm.mp hk with h|h
 ·obtain ⟨x,hx,rfl⟩:=Hc.mp h
  exact AC (zV x (nm.w x hx))
 ·obtain ⟨i,hi,rfl⟩:=Hc.mp h
  have:=HZ.mp hi;exact yF (ub (by lia) (by lia))
theorem BJ(nm:NmOk C.names)(m6:C.many<=6)(sb:l.Sublist (unlK C s t)):cj 60 (e_ l)=true/\(dM (e_ l)).showable=true/\(dM (e_ l)).shown.length<=sizeLine:=by
 have h:EC 60 (e_ l):=yJ (n:=59) fun x hx=>by
  obtain ⟨k,hk,rfl⟩:=Hc.mp hx;exact FI nm m6 (Jk.mp (sb.subset hk)).1
 have h1:=sb.length_le;have h2:(unlK C s t).length<=(cC C).length:=IJ _ _;have h3:(cC C).length=C.names.length+C.many:=by simp [cC]
 have h4:=nm.n1;have h5:sz (e_ l)<=5+2002*l.length:=by show 5+yt (l.map kD)<=_;have:=wF l;lia
 have hs:sizeLine=16777216:=rfl;exact ⟨h.1,h.2.1,Hd h.2.2 (by lia)⟩
theorem IsMx.dv{d:D}(h:IsMx M d l):dv M d=e_ l:=by
 rcases h with rfl|⟨p,rfl,e⟩
 ·rfl
 ·simp only [L3.dv,e];rfl
theorem IsMx.ty{d:D}(h:IsMx M d l):cO M d=some "list":=by
 rcases h with rfl|⟨p,rfl,e⟩
 ·rfl
 ·simp only [cO,e]
theorem iq{d:D}(o:C.Ok)(nm:NmOk C.names)(m6:C.many<=6)(hd:IsMx M d l)(sb:l.Sublist (unlK C s t))(h:Q (.bl true) M):oX ad [e_ (unlK C s t),d] M Q E:=by
 obtain ⟨s1,s2,s3⟩:=BJ nm m6 sb;have hmx:∀ks,e_ ks=.lst (ks.map kD):=fun _=>rfl;have few:=o.few;have l1:=o.l1;have h2:(unlK C s t).length<=(cC C).length:=IJ _ _;have h3:(cC C).length=C.names.length+C.many:=by simp [cC]
 have t1:iZ ad (aU E) { nx:=fun _ M'=>drp Q .non M',rt:=drp Q } [some (e_ (unlK C s t)),some d] M:=by
  unfold iZ;have rp:∀(M:Mem) (d:D) (K:DK),dv M d=e_ l->K (.str (dM (e_ l)).shown) M->k8 [d] M K:=fun M d K e q=>by
   show cj 60 (L3.dv M d)=true/\(dM (L3.dv M d)).showable=true/\(dM (L3.dv M d)).shown.length<=sizeLine/\K (.str (dM (L3.dv M d)).shown) M;rw [e];exact ⟨s1,s2,s3,q⟩
  simp only [aZ,au,bD,a9,aa,dNil,GD,dt];refine rp _ _ _ hd.dv ?_;simp only [aB,bV,i6,aa,hmx (unlK C s t),GD,dt,cm,srcOf,eO,GR,HL,HE,HK,Kl];refine j7 (fun d=>match dA d with|some k=>decide (k∈l)|none=>false) id bQ (by simp;lia) (fun x hx K q=>?_) (fun x hx _ K q=>q) ?_
  ·obtain ⟨k,hk,rfl⟩:=Hc.mp hx
   have e:dA (kD k)=some k:=by cases k<;>rfl
   simp only [e] at q;exact E6 hd (fun K q=>q) (fun K q=>q) q
  ·intro p hp
   have e:(((unlK C s t).map kD).filter fun d=>match dA d with|some k=>decide (k∈l)|none=>false).map id=l.map kD:=by
    rw [List.map_id,JX];have e2:((unlK C s t).filter ((fun d=>match dA d with|some k=>decide (k∈l)|none=>false) ∘ kD))=(unlK C s t).filter fun k=>decide (k∈l):=JE fun k _=>by cases k<;>rfl
    rw [e2,q_ sb (zL o)]
   rw [e];refine frzN hp (rp _ _ _ rfl ?_);show cj 60 (.str _)=true/\cj 60 (.str _)=true/\_;refine ⟨rfl,rfl,?_⟩;have ed:∀(N:Mem) (x:Str),bc (L3.dv N (.str x)) (L3.dv N (.str x))=true:=fun N x=>by simp [L3.dv,bc]
   rw [ed];exact drp_id h
 rw [Fs (n:=0)];unfold oO;generalize iZ ad (aU E)=K at t1 ⊢;simp only [aw,bp,fQ,cY,bD,a9,aa,dC,dNil,fY,GD,dt,hd.ty];exact ⟨rfl,t1⟩
end
end Tw
namespace Tw
open PySem L2 L3
section
variable {C:Cse}{s t:Sta}{ad:Ad}{M N:Mem}{Q:DK}{E:DX}{ks:List aP}{ts:List (List aP)}{d c:Addr}{ds:List D}
theorem D5{l:List aP}(e:N d=some (.dT (hZ C s t ts))):kh N d (.tup (l.map kD))=some (if l∈ts then some (.str (C.ver s t l)) else none):=by
 unfold kh;simp only [e,oq,cP,mh]
theorem wE{EE:DX}{D2:DEnds}{fd:D}{p:Addr}{l:List aP}{l1:List (List aP)}{c5 c6:Option D}(cs:CsOk C s t)(hp:M p=some (.lst (l.map kD)))(hd:M d=some (.dT (hZ C s t l1)))(sb:l.Sublist (unlK C s t))(hn:l∉l1)(hl:l1.length<=100000)
  (h:D2.nx [some (bd C s t),some (e_ (unlK C s t)),some fd,some (.ref d),some (.tup [.ref p,.str (C.ver s t l)]),c5,c6] (M.upd d (.dT (hZ C s t (l1++[l]))))):
  mR ad EE D2 [some (bd C s t),some (e_ (unlK C s t)),some fd,some (.ref d),some (.tup [.ref p,.str (C.ver s t l)]),c5,c6] M:=by
 have hx:IsMx M (.ref p) l:=.inr ⟨p,rfl,hp⟩;have vs:(LY (C.ver s t l)).shown.length<=sizeLine:=by
  unfold Cse.ver
  split
  ·decide +kernel
  ·split<;>decide +kernel
 have t1:lV ad EE D2 [some (bd C s t),some (e_ (unlK C s t)),some fd,some (.ref d),some (.tup [.ref p,.str (C.ver s t l)]),c5,c6] M:=by
  unfold lV aE;simp only [au,aa,dC,aO,cm,atI_1,atI_0,fc,bD,a9,dNil,GD,dt];refine hx.tup ?_;simp only [wB,hd,oq,cP,wW hn];exact ⟨by rw [hZ,GF];exact g_ (by lia),h⟩
 have t2:lD ad EE D2 [some (bd C s t),some (e_ (unlK C s t)),some fd,some (.ref d),some (.tup [.ref p,.str (C.ver s t l)]),c5,c6] M:=by
  unfold lD;generalize lV ad EE=K1 at t1 ⊢;simp only [aw,bp,aL,au,bD,a9,dNil,aa,dC,aB,aA,aO,cm,atI_1,atI_0,GD,dt];refine ⟨rfl,rfl,vs,rfl,bt (fun _ _ q=>uR hx cs.o cs.hs cs.ht q) ?_⟩;refine ⟨rfl,rfl,vs,?_⟩;refine ⟨rfl,rfl,?_⟩;have ed:∀(N:Mem) (x:Str),(!bc (L3.dv N (.str x)) (L3.dv N (.str x)))=false:=fun N x=>by simp [L3.dv,bc]
  rw [ed];exact t1
 unfold mR;generalize lD ad EE=K2 at t2 ⊢;simp only [aw,bp,qd,fQ,cY,aL,au,bD,a9,dNil,aa,dC,aB,aA,aO,cm,atI_1,atI_0,fY,cO,bK,GI,Hg,GD,dt];refine ⟨rfl,?_⟩;show cj 60 (.int _)=true/\cj 60 (.int _)=true/\_;refine ⟨rfl,rfl,trivial,bt (fun _ _ q=>iq cs.o cs.n cs.m hx sb q) ?_⟩;exact t2
theorem wv{EE:DX}{D':DEnds}{c:Addr}(cs:CsOk C s t)(na:Naf (unlK C s t) ts)(hl:ts.length<=100000)(T:Tld M C s t ts ds)(hd:M d=none)
  (h:∀c4,D'.nx [some (bd C s t),some (e_ (unlK C s t)),some (.tup [.lst ds,.ref c]),some (.ref d),c4,none,none] (M.upd d (.dT (hZ C s t ts)))):
  dFor (i6 (au aO (aa 2) (dC (.int 0)))) (ap 4) (mR ad EE) D' [some (bd C s t),some (e_ (unlK C s t)),some (.tup [.lst ds,.ref c]),some (.ref d),none,none,none] (M.upd d (.dT [])):=by
 simp only [dFor,i6,au,aa,dC,aO,cm,atI_0,srcOf,GD,dt]
 refine forD_inv (fun xs δ N=>∃(l1 l2:List (List aP)) (c4:Option D),ts=l1++l2/\Tld M C s t l2 xs/\δ=[some (bd C s t),some (e_ (unlK C s t)),some (.tup [.lst ds,.ref c]),some (.ref d),c4,none,none]/\N=M.upd d (.dT (hZ C s t l1)))
  (fun _ _ _ _=>bQ) ?_ ?_ _ _ _ ⟨[],ts,none,rfl,T,rfl,rfl⟩
 ·rintro δ N ⟨l1,l2,c4,e1,T2,rfl,rfl⟩
  have:l2=[]:=by
   cases l2 with
   |nil=>rfl
   |cons _ _=>
    obtain ⟨_,_,e,_⟩:=T2;cases e
  subst this;rw [HD] at e1;subst e1;exact h c4
 ·rintro x xs δ N ⟨l1,l2,c4,e1,T2,rfl,rfl⟩ E' hnx _ _ _
  cases l2 with
  |nil=>cases T2
  |cons l l2=>
   obtain ⟨p,ds',e,hp,T3⟩:=T2;cases e;have hl2:=congrArg Iu e1;simp only [GP,GI] at hl2;have hn:l∉l1:=fun z=>by
    have:=na.nd;rw [e1] at this;exact (JD.mp this).2.2 l z l (by simp) rfl
   simp only [ap,Hv];refine wE cs (by rw [ai (fun z=>by rw [z,hd] at hp;cases hp)];exact hp) Mem.upd_same (na.sb l (by rw [e1];simp)) hn (by lia) ?_
   rw [Mem.upd_upd];exact hnx _ _ ⟨l1++[l],l2,_,by simp [e1],T3,rfl,rfl⟩
theorem ET{EE:DX}{D':DEnds}{x0 x1 x2 x4:Option D}(hc:M c=some (.lst (ks.map kD)))(hd:M d=some (.dT (hZ C s t ts)))(hl:ks.length<=100)(hk:∀l∈tE ks,l∈ts/\C.cau s t l=false)(h:D'.rt (.bl true) M):
  mm ad EE D' [x0,x1,x2,some (.ref d),x4,some (.ref c),none] M:=by
 unfold mm;simp only [aw,dFor,cU,bD,a9,aa,dNil,bK,cm,hc,GF,GD,dt];refine ⟨by lia,by lia,?_⟩
 refine forD_inv (fun xs δ N=>∃(c6:Option D),(∀x∈xs,∃i:Nat,i<ks.length/\x=.int (i:Nat))/\δ=[x0,x1,x2,some (.ref d),x4,some (.ref c),c6]/\N=M) (fun _ _ _ _=>bQ) ?_ ?_ _ _ _ ⟨none,fun x hx=>?_,rfl,rfl⟩
 ·rintro δ N ⟨c6,_,rfl,rfl⟩
  exact h
 ·rintro x xs δ N ⟨c6,hx,rfl,rfl⟩ E' hnx _ _ _
  obtain ⟨i,hi,rfl⟩:=hx x (by simp)
  have hnx':=hnx [x0,x1,x2,some (.ref d),x4,some (.ref c),some (.int (i:Nat))] N ⟨_,fun y hy=>hx y (by simp [hy]),rfl,rfl⟩
  have e1:((i:Nat):Int)+1=((i+1:Nat):Int):=by lia
  obtain ⟨m1,m2⟩:=hk (ks.take i++ks.drop (i+1)) (Hc.mpr ⟨i,HZ.mpr hi,rfl⟩);have hv:¬C.ver s t (ks.take i++ks.drop (i+1))="faulty":=by simpa [Cse.cau] using m2
  simp only [ap,Hv];unfold v9;simp only [bp,aL,au,xQ,aa,GD,dt];refine ⟨by simp only [EI,hd],?_⟩
  simp! [hc,n8,cut_mx2];intro p1 q1;simp! [Mem.upd_del,ao q1,hc,e1,cut_mx2];intro p2 q2;simp! [Mem.upd_del,ao q2];refine ⟨szl (by simp only [GF,HN,HW];lia),fun p3 q3=>?_⟩
  have eL:(ks.take i).map kD++(ks.drop (i+1)).map kD=(ks.take i++ks.drop (i+1)).map kD:=by rw [II]
  rw [eL];simp! [Mem.upd_del,ao q3,hd,cP,mh,if_pos m1,hv,decide_eq_true_eq,if_false];exact hnx'
 ·simp only [b_,Hc,HZ] at hx
  obtain ⟨i,hi,rfl⟩:=hx;exact ⟨i,by lia,by simp⟩
end
end Tw
namespace Tw
open PySem L2 L3
section
variable {C:Cse}{s t:Sta}{ad:Ad}{M N:Mem}{Q:DK}{E:DX}{ks:List aP}{ts:List (List aP)}{d c:Addr}{ds:List D}
structure NrOk(C:Cse)(s t:Sta)(ts:List (List aP))(ks:List aP):Prop where
 na:Naf (unlK C s t) ts
 sb:ks.Sublist (unlK C s t)
 ca:C.cau s t ks=true
 me:ks∈ts
 le:∀l∈tE ks,l∈ts/\C.cau s t l=false
 ln:ts.length<=100000
theorem G0{EE:DX}{D':DEnds}{x0 x2 x4:Option D}(cs:CsOk C s t)(n:NrOk C s t ts ks)(hc:M c=some (.lst (ks.map kD)))(hd:M d=some (.dT (hZ C s t ts)))(hl:ks.length<=100)(h:D'.rt (.bl true) M):
  ma ad EE D' [x0,some (e_ (unlK C s t)),x2,some (.ref d),x4,some (.ref c),none] M:=by
 have hx:IsMx M (.ref c) ks:=.inr ⟨c,rfl,hc⟩;have hv:C.ver s t ks="faulty":=by simpa [Cse.cau] using n.ca
 have t5:=ET (ad:=ad) (EE:=EE) (D':=D') (x0:=x0) (x1:=some (e_ (unlK C s t))) (x2:=x2) (x4:=x4) hc hd hl n.le h;unfold ma;generalize mm ad EE=K at t5 ⊢;simp only [aw,bp,qd,fQ,cY,aL,au,we,bD,a9,dNil,aa,dC,aB,aA,GD,dt];refine ⟨rfl,bt (d:=.bl true) (fun _ _ q=>iq cs.o cs.n cs.m hx n.sb q) ?_⟩;refine ⟨by simp only [EI,hd],hx.tup ?_⟩
 simp only [D5 hd,if_pos n.me,hv];refine ⟨rfl,rfl,?_⟩;have ed:∀(N:Mem) (x:Str),(!bc (L3.dv N (.str x)) (L3.dv N (.str x)))=false:=fun N x=>by simp [L3.dv,bc]
 rw [ed];exact t5
theorem G8{EE:DX}{D':DEnds}{x0 x4:Option D}(cs:CsOk C s t)(n:NrOk C s t ts ks)(T:Tld M C s t ts ds)(hc:M c=some (.lst (ks.map kD)))(hd:M d=some (.dT (hZ C s t ts)))(hl:ks.length<=100)(h:D'.rt (.bl true) M):
  qo ad EE D' [x0,some (e_ (unlK C s t)),some (.tup [.lst ds,.ref c]),some (.ref d),x4,none,none] M:=by
 have tl:=T.len;have t6:=G0 (ad:=ad) (EE:=EE) (D':=D') (x0:=x0) (x2:=some (.tup [.lst ds,.ref c])) (x4:=x4) cs n hc hd hl h;have t7:m_ ad EE D' [x0,some (e_ (unlK C s t)),some (.tup [.lst ds,.ref c]),some (.ref d),x4,none,none] M:=by
  unfold m_;generalize ma ad EE=K at t6 ⊢;simp only [aw,aE,au,aa,dC,aO,cm,atI_1,ap,Hv,GD,dt];exact t6
 obtain ⟨sf,_,_⟩:=BJ cs.n cs.m (J0 (unlK C s t));have e0:=n.na.hd;cases ts with
 |nil=>cases e0
 |cons l ts=>
  cases e0;obtain ⟨p,ds',rfl,hp,_⟩:=T;unfold qo;generalize m_ ad EE=K at t7 ⊢;have td:(hZ C s t (unlK C s t::ts)).length=ts.length+1:=by simp [hZ]
  rw [GI,GI] at tl;simp only [aw,bp,qd,aL,au,bD,a9,dNil,aa,dC,aB,ce,aO,cm,atI_0,bK,rA,hd,td,v0,yr,GI,Hg,GD,dt];rw [tl];have e1:decide (((ts.length+1:Nat):Int)<((ts.length+1:Nat):Int))=false:=decide_eq_false (by lia)
  rw [e1,if_neg (by simp)]
  refine ⟨szl (by decide),fun q hq=>frzN hq ?_⟩
  refine ⟨by simp,?_⟩
  simp only [GX,if_false];have e2:L3.dv M (.ref p)=e_ (unlK C s t):=by simp only [L3.dv,hp];rfl
  unfold pW;rw [e2];refine ⟨sf,sf,?_⟩;have e3:(!bc (e_ (unlK C s t)) (L3.dv M (e_ (unlK C s t))))=false:=by
   have:=oh sf;show (!bc (e_ (unlK C s t)) (e_ (unlK C s t)))=false;rw [this];rfl
  rw [e3];exact t7
theorem oP(cs:CsOk C s t)(n:NrOk C s t ts ks)(T:Tld M C s t ts ds)(hc:M c=some (.lst (ks.map kD)))(hl:ks.length<=100)(h:Q (.bl true) M):zG ad [bd C s t,e_ (unlK C s t),.tup [.lst ds,.ref c]] M Q E:=by
 rw [u_q1 (n:=0)];unfold xl;generalize hK:qq ad (aU E)=K;simp only [aw,bp,qd,fQ,cY,aL,au,bD,a9,dNil,aa,dC,aO,cm,atI_0,fY,cO,bK,aE,sS,ap,GI,Hg,GD,dt];refine ⟨rfl,?_⟩;show cj 60 (.int _)=true/\cj 60 (.int _)=true/\_;refine ⟨rfl,rfl,rfl,fun d hd=>?_⟩;rw [<- hK];unfold qq;have up:∀v x o,M x=some o->(M.upd d v) x=some o:=fun v x o e=>by rw [ai (fun z=>by rw [z,hd] at e;cases e)];exact e
 refine wv cs n.na n.ln T hd fun c4=>?_;refine G8 cs n (T.mono (up _)) (up _ _ _ hc) Mem.upd_same hl ?_;exact ⟨M,fun b o e=>up _ b o e,h⟩
end
end Tw
namespace Tw
open PySem L2 L3
section
variable {C:Cse}{s t:Sta}{ad:Ad}{M N:Mem}{ts:List (List aP)}{ks:List aP}{ds:List D}{c:Addr}
theorem Fq{EE:DX}{D2:DEnds}{x0 x1 x2 x3 x4:Option D}(na:Naf (unlK C s t) ts)(T:Tld M C s t ts ds)(hc:M c=some (.lst (ks.map kD)))(hl:ks.length<=100)(h:∀N,D2.nx [x0,x1,x2,x3,x4,some (.tup [.lst ds,.ref c])] N):
  jl ad EE D2 [x0,x1,x2,x3,x4,some (.tup [.lst ds,.ref c])] M:=by
 have e0:=na.hd;cases ts with
 |nil=>cases e0
 |cons l ts=>
  obtain ⟨p,ds',rfl,hp,_⟩:=T;have hc':∃ys:List D,ys.length<=100/\(M.upd p (.lst [])) c=some (.lst ys):=by
   by_cases z:c=p
   ·subst z;exact ⟨[],by simp,Mem.upd_same⟩
   ·exact ⟨ks.map kD,by simpa using hl,by rw [ai z];exact hc⟩
  obtain ⟨ys,hy,hc'⟩:=hc';unfold jl;generalize hK:nc ad EE=K;simp only [aw,bZ,rf,au,aa,dC,dNil,aO,cm,atI_0,cO,hp,lF,GD,dt];refine ⟨trivial,?_⟩;rw [<- hK];unfold nc;simp only [bZ,rf,au,aa,dC,a9,dNil,aO,cm,atI_1,cO,hc',cH,GD,dt];exact ⟨trivial,g_ (by lia),h _⟩
theorem xA{EE:DX}{D2:DEnds}{x0 x1 x4 c5:Option D}(cs:CsOk C s t)(ul:(unlK C s t).length<=11)(h:∀c5 N,D2.nx [x0,x1,some (bd C s t),some (e_ (unlK C s t)),x4,c5] N):
  ja ad EE D2 [x0,x1,some (bd C s t),some (e_ (unlK C s t)),x4,c5] M:=by
 obtain ⟨a,b,ea,eb,hab⟩:=cs.e;obtain ⟨r1,r2,r3,r4⟩:=AS cs.o cs.hs cs.ht ea eb hab;obtain ⟨n1,n2⟩:=yz (C:=C) (s:=s) (t:=t);have b1:(unlK C s t).length*(unlK C s t).length<=11*11:=Jz ul ul;have hmx:e_ (unlK C s t)=.lst ((unlK C s t).map kD):=rfl;unfold ja;generalize hK4:lM ad EE=K4;simp only [aw,aE,aA,a9,aa,dNil,GD,dt];refine ⟨rfl,kb cs.o cs.hs cs.ht ea eb hab (by lia) (by lia) fun ds c N T hc=>?_⟩
 have kl:=n2.length_le;have t2:=Fq (ad:=ad) (EE:=EE) (D2:=D2) (x0:=x0) (x1:=x1) (x2:=some (bd C s t)) (x3:=some (e_ (unlK C s t))) (x4:=x4) n1 T hc (by lia) (fun N=>h _ N)
 simp only [ap,Hv];rw [<- hK4];unfold lM;generalize hK3:lB ad EE=K3;simp only [aw,bp,fQ,cY,aB,aA,a9,aa,dNil,GD,dt];refine ⟨rfl,bt (d:=.bl true) (fun _ _ q=>oP cs ⟨n1,n2,r1,r2,r3,by lia⟩ T hc (by lia) q) ?_⟩
 show K3 D2 _ N;rw [<- hK3];unfold lB;generalize jl ad EE=K2 at t2 ⊢;have tl:=T.len;simp! [hmx,atI_0,tl,GF];rw [<- hmx];have e1:¬(((unlK C s t).length:Int)*((unlK C s t).length:Int)+3*((unlK C s t).length:Int)+2<(((C.nar s t).2.length:Nat):Int)):=by
  have:(((C.nar s t).2.length:Nat):Int)<=(((unlK C s t).length*(unlK C s t).length+3*(unlK C s t).length+2:Nat):Int):=Int.ofNat_le.mpr r4;rw [Int.natCast_add,Int.natCast_add,Int.natCast_mul,Int.natCast_mul] at this;exact Int.not_lt.mpr this
 rw [if_neg e1];refine ⟨?_,?_,t2⟩
 ·exact .inl ⟨by lia,by lia⟩
 ·exact .inl ⟨by lia,by lia⟩
end
theorem uq(ad:Ad)(ns:List Int)(hl:ns.length<=63):wU ad [.ml (ns.map D.int)] (fun _=>none) (fun d _=>d=.bl true) ni:=by
 simp only [Fe];unfold nK rj sP;generalize hK6:mK ad (aU ni)=K6;simp only [aw,aE,aA,a9,aa,dNil,startN,GR,HL,GI,Hg,GK,HE,HK,GD,dt];refine ⟨trivial,calls_of fun Q' E' hq _=>uo fun k M1 h1 _=>hq _ _ ?_⟩;simp only [aw,aE,ap,Hv,aB,au,ce,aA,a9,aa,dC,dNil,GD,dt];refine ⟨szl (by decide),fun p0 hp0=>lA hp0 ⟨rfl,?_⟩⟩
 refine aV (b:=700+9*100 ^ 5) (h1.le (by decide)) (by decide) (by decide) fun r N1 a1 b1 d1=>?_
 have ixr:∀{M:Mem} {Q:DK},(∀i:Int,Q (.int i) M)->frz (.int r) M fun y M2=>aO (.lst [.int 6,.int 3,.int 1,.int 6]) y M2 Q:=fun {M Q} h=>by
  have:r=0\/r=1\/r=2\/r=3:=by lia
  rcases this with rfl|rfl|rfl|rfl<;>exact h _
 refine ixr fun few=>?_;refine ⟨rfl,calls_of fun Q' E' hq _=>uA (rn:=7) (most:=50) (b:=100) (by decide) (by decide) (d1.1.le (by decide)) fun C s t M2 cs K2=>hq _ _ ?_⟩
 have l1:=cs.n.n1;have m1:=cs.m;have ec:bd C s t=.tup [C.d,s.d,t.d,.int (C.most:Nat)]:=rfl;have tl:(cC C).length=C.names.length+C.many:=by simp [cC]
 have ul:(unlK C s t).length<=11:=Hd (IJ _ _) (by lia)
 have f1:∀{M:Mem} {Q:DK},Q (bd C s t) M->frz (bd C s t) M Q:=fun h=>h;refine f1 ?_;have ix:∀{M:Mem} {Q:DK} (i:Int) (d:D),atI [C.d,s.d,t.d,.int (C.most:Nat)] i=some d->Q d M->aO (bd C s t) (.int i) M Q:=fun i d e h=>by
  simp only [ec,aO,cm,e];exact h
 refine ix 0 C.d rfl ?_;refine ix 1 s.d rfl ?_;refine ix 2 t.d rfl ?_;refine ⟨rfl,calls_of fun Q' E' hq _=>nQ cs.o cs.hs cs.ht fun p hp=>hq _ _ (lA hp ?_)⟩;have hmx:∀l,e_ l=.lst (l.map kD):=fun _=>rfl;rw [<- hmx,<- hK6];unfold mK;generalize hK5:ja ad (aU ni)=K5;simp only [aw,ap,Hv,dFor,cU,a9,dC,dNil];refine ⟨by decide,by decide,?_⟩
 refine forD_inv (fun xs δ N=>∃(c4 c5:Option D),δ=[some (.ml (ns.map D.int)),some (.ref k.p),some (bd C s t),some (e_ (unlK C s t)),c4,c5]) (fun _ _ _ _=>bQ) ?_ ?_ _ _ _ ⟨none,none,rfl⟩
 ·rintro δ N ⟨c4,c5,rfl⟩
  exact ⟨N,fun _ _ e=>e,rfl⟩
 ·rintro x xs δ N ⟨c4,c5,rfl⟩ D' hnx _ _ _
  simp only [ap,Hv];rw [<- hK5];exact xA cs ul fun c5 N=>hnx _ _ ⟨_,_,rfl⟩
end Tw
namespace Tw
open PySem L2 L3
def wu(K:GH):Sp:=fun vs H Q _=>∃(a:Addr) (ns:List Int),vs=[.ref a]/\x_ H/\SqL K H a (ns.map V.int)/\ns.length<=63/\∀H',Q (.bl true) H'
theorem BG{α:Type}{P:List α->Prop}(h:∀a0,P [a0]):∀us:List α,us.length=1->P us
 |[a0],_=>h a0
theorem nh{α:Type}{P:List α->Prop}(h:∀a0 a1,P [a0,a1]):∀us:List α,us.length=2->P us
 |[a0,a1],_=>h a0 a1
theorem ox{α:Type}{P:List α->Prop}(h:∀a0 a1 a2,P [a0,a1,a2]):∀us:List α,us.length=3->P us
 |[a0,a1,a2],_=>h a0 a1 a2
theorem F8{α:Type}{P:List α->Prop}(h:∀a0 a1 a2 a3,P [a0,a1,a2,a3]):∀us:List α,us.length=4->P us
 |[a0,a1,a2,a3],_=>h a0 a1 a2 a3
theorem us5{α:Type}{P:List α->Prop}(h:∀a0 a1 a2 a3 a4,P [a0,a1,a2,a3,a4]):∀us:List α,us.length=5->P us
 |[a0,a1,a2,a3,a4],_=>h a0 a1 a2 a3 a4
structure Nf(K:GH)(x:Str)(st:Stmt)(f:Addr)(fd:FuncData):Prop where
 a:Jb K mainGlobals x=some (some (.ref f))
 F:Fun K x x st f fd
structure Mf(K:GH)(C:Addr)(x q:Str)(st:Stmt)(f:Addr)(fd:FuncData):Prop where
 a:HS K (.ref C) x=some (some (.ref f))
 i:W.isFn K (.ref f)=true
 F:Fun K x q st f fd
theorem all_mk{l:W.OpenLaw}{w:World}{K:GH}{h:Heap}{mg:Str->Option Value}{fa C_Askings C_Walk C_Dry C_NoCase f1 f2 f3 f4 f5 f6 f7 f8 f9 f10 f11 f12 f13 f14 f15 f16 f17 f18 f19 f20 f21 f22 f23 f24 f25 f26 f27 f28 f29 f30 f31 f32 f33 f34 f35 f36 f37 f38 f39 f40 f41 f42 f43 f44 f45 f46 f47 f48 f49:Addr}(X:K.In h)(G:h.Ns mainGlobals mg)(hfa:mg "law"=some (.ref fa))
  {e1 e2 e3 e4 e5 e6 e7 e8 e9 e10 e11 e12 e13 e14 e15 e16 e17 e18 e19 e20 e21 e22 e23 e24 e25 e26 e27 e28 e29 e30 e31 e32 e33 e34 e35 e36 e37 e38 e39 e40 e41 e42 e43 e44 e45 e46 e47 e48 e49:FuncData}
  (aC_Askings:Jb K mainGlobals "Askings"=some (some (.ref C_Askings)))
  (aC_Walk:Jb K mainGlobals "Walk"=some (some (.ref C_Walk)))
  (aC_Dry:Jb K mainGlobals "Dry"=some (some (.ref C_Dry)))
  (aC_NoCase:Jb K mainGlobals "NoCase"=some (some (.ref C_NoCase)))
  (l1:Mf K C_Walk "__init__" "Walk.__init__" E4 f1 e1)
  (l2:Mf K C_Walk "note_step" "Walk.note_step" E9 f2 e2)
  (l3:Mf K C_Walk "look" "Walk.look" vi f3 e3)
  (l4:Nf K "run" xU f4 e4)
  (l5:Nf K "mark" vZ f5 e5)
  (l6:Nf K "do_rows" wP f6 e6)
  (l7:Nf K "do_row" xW f7 e7)
  (l8:Nf K "do_if" xg f8 e8)
  (l9:Nf K "do_again" xz f9 e9)
  (l10:Nf K "number_of" xC f10 e10)
  (l11:Nf K "piece_read" vD f11 e11)
  (l12:Nf K "joined" wl f12 e12)
  (l13:Nf K "all_things" y4 f13 e13)
  (l14:Nf K "number_in" vS f14 e14)
  (l15:Nf K "unlike" xS f15 e15)
  (l16:Nf K "marks" vV f16 e16)
  (l17:Nf K "unlike_of" y8 f17 e17)
  (l18:Nf K "stand_of" wT f18 e18)
  (l19:Nf K "number_mixed" Cs f19 e19)
  (l20:Nf K "verdict_of" vY f20 e20)
  (l21:Mf K C_Askings "__init__" "Askings.__init__" BN f21 e21)
  (l22:Mf K C_Askings "ask" "Askings.ask" xF f22 e22)
  (l23:Mf K C_Askings "is_cause" "Askings.is_cause" Cg f23 e23)
  (l24:Nf K "narrowed" va f24 e24)
  (l25:Nf K "halved" xM f25 e25)
  (l26:Nf K "thinned" wc f26 e26)
  (l27:Nf K "_law_tape" wK f27 e27)
  (l28:Nf K "_law_draw" vA f28 e28)
  (l29:Nf K "_law_names" wA f29 e29)
  (l30:Nf K "_law_one_row" xZ f30 e30)
  (l31:Nf K "_law_loop" vj f31 e31)
  (l32:Nf K "_law_some_rows" BP f32 e32)
  (l33:Nf K "_law_plan" xN f33 e33)
  (l34:Nf K "_law_stand" y9 f34 e34)
  (l35:Nf K "_law_set" vF f35 e35)
  (l36:Nf K "_law_do" w4 f36 e36)
  (l37:Nf K "_law_begun" wo f37 e37)
  (l38:Nf K "_law_mark_by" xK f38 e38)
  (l39:Nf K "_law_two_stands" CA f39 e39)
  (l40:Nf K "_law_fewer" wy f40 e40)
  (l41:Nf K "_law_last_row" BS f41 e41)
  (l42:Nf K "_law_case" vb f42 e42)
  (l43:Nf K "_law_things" vg f43 e43)
  (l44:Nf K "_law_unlike" wq f44 e44)
  (l45:Nf K "_law_mixed" y6 f45 e45)
  (l46:Nf K "_law_verdict" Cy f46 e46)
  (l47:Nf K "_law_is_mix" wZ f47 e47)
  (l48:Nf K "_law_is_narrowed" Cu f48 e48)
  (l49:Nf K "law" gS f49 e49)
  (OF:W.excIn K C_Dry [.type "ValueError",.type "Exception",.type "BaseException",.type "object"] "ValueError.__new__"=true)
  (MV:W.excIn K C_NoCase [.type "ValueError",.type "Exception",.type "BaseException",.type "object"] "ValueError.__new__"=true)
  (OO:J1 K C_Askings Str.empty=true)
  (OP:J8 K C_Askings=true)
  (OQ:KS K C_Askings=true)
  (OR:HS K (.ref C_Askings) "__setattr__"=some (some (.builtin "object.__setattr__")))
  (MQ:LW K C_Askings=true)
  (OS:GV K (.ref C_Askings)=true)
  (Q8:J1 K C_Walk Str.empty=true)
  (Q9:J8 K C_Walk=true)
  (Ra:KS K C_Walk=true)
  (Rb:HS K (.ref C_Walk) "__setattr__"=some (some (.builtin "object.__setattr__")))
  (Nt:LW K C_Walk=true)
  (Rc:GV K (.ref C_Walk)=true)
  (MA:HS K (.ref C_Askings) "case"=some none)
  (My:HS K (.ref C_Askings) "told"=some none)
  (MG:HS K (.ref C_Askings) "two"=some none)
  (MJ:HS K (.ref C_Walk) "most"=some none)
  (Mz:HS K (.ref C_Walk) "numbers"=some none)
  (MH:HS K (.ref C_Walk) "pieces"=some none)
  (MK:HS K (.ref C_Walk) "plan"=some none)
  (ME:HS K (.ref C_Walk) "steps"=some none)
  (z_dict:Jb K mainGlobals "dict"=some none)
  (z_enumerate:Jb K mainGlobals "enumerate"=some none)
  (z_int:Jb K mainGlobals "int"=some none)
  (z_isinstance:Jb K mainGlobals "isinstance"=some none)
  (z_len:Jb K mainGlobals "len"=some none)
  (z_list:Jb K mainGlobals "list"=some none)
  (z_min:Jb K mainGlobals "min"=some none)
  (z_range:Jb K mainGlobals "range"=some none)
  (z_repr:Jb K mainGlobals "repr"=some none)
  (z_str:Jb K mainGlobals "str"=some none)
  (z_tuple:Jb K mainGlobals "tuple"=some none)
  (z_zip:Jb K mainGlobals "zip"=some none):
  ∃fd:FuncData,(∀(s:Shared) (v:Value),BindsTo s fd ⟨[v],[]⟩ [("_law_script",v)])/\∀base:Heap,K.In base->base.Ns mainGlobals mg->FnOk l.prog w K mg base CX0 33 fa fd ["_law_script"] (wu K):=by
 have e:=hfa.symm.trans (Hi X G l49.a);cases e;obtain ⟨_,_,kV,dc,pm,an,cd,ct,_,rfl,_⟩:=l49.F.ex;have b1:=l1.F.binds (ps:=["self","plan","stand","most"]) fun _ _ _ _ _ _=>F8 fun _ _ _ _=>rfl;have b2:=l2.F.binds (ps:=["self","place","number"]) fun _ _ _ _ _ _=>ox fun _ _ _=>rfl;have b3:=l3.F.binds (ps:=["self","place","name"]) fun _ _ _ _ _ _=>ox fun _ _ _=>rfl;have b4:=l4.F.binds (ps:=["plan","stand","most"]) fun _ _ _ _ _ _=>ox fun _ _ _=>rfl;have b5:=l5.F.binds (ps:=["plan","stand","most"]) fun _ _ _ _ _ _=>ox fun _ _ _=>rfl;have b6:=l6.F.binds (ps:=["walk","rows","place"]) fun _ _ _ _ _ _=>ox fun _ _ _=>rfl;have b7:=l7.F.binds (ps:=["walk","row","place"]) fun _ _ _ _ _ _=>ox fun _ _ _=>rfl;have b8:=l8.F.binds (ps:=["walk","row","place"]) fun _ _ _ _ _ _=>ox fun _ _ _=>rfl;have b9:=l9.F.binds (ps:=["walk","row","place"]) fun _ _ _ _ _ _=>ox fun _ _ _=>rfl;have b10:=l10.F.binds (ps:=["plan","numbers","pieces","row"]) fun _ _ _ _ _ _=>F8 fun _ _ _ _=>rfl;have b11:=l11.F.binds (ps:=["plan","numbers","row"]) fun _ _ _ _ _ _=>ox fun _ _ _=>rfl;have b12:=l12.F.binds (ps:=["word","y","z","wheel"]) fun _ _ _ _ _ _=>F8 fun _ _ _ _=>rfl;have b13:=l13.F.binds (ps:=["plan"]) fun _ _ _ _ _ _=>BG fun _=>rfl;have b14:=l14.F.binds (ps:=["plan","stand","thing"]) fun _ _ _ _ _ _=>ox fun _ _ _=>rfl;have b15:=l15.F.binds (ps:=["plan","one","other"]) fun _ _ _ _ _ _=>ox fun _ _ _=>rfl;have b16:=l16.F.binds (ps:=["case"]) fun _ _ _ _ _ _=>BG fun _=>rfl;have b17:=l17.F.binds (ps:=["case"]) fun _ _ _ _ _ _=>BG fun _=>rfl;have b18:=l18.F.binds (ps:=["case","mix"]) fun _ _ _ _ _ _=>nh fun _ _=>rfl;have b19:=l19.F.binds (ps:=["case","mix","thing"]) fun _ _ _ _ _ _=>ox fun _ _ _=>rfl;have b20:=l20.F.binds (ps:=["two","one"]) fun _ _ _ _ _ _=>nh fun _ _=>rfl;have b21:=l21.F.binds (ps:=["self","case"]) fun _ _ _ _ _ _=>nh fun _ _=>rfl;have b22:=l22.F.binds (ps:=["self","mix"]) fun _ _ _ _ _ _=>nh fun _ _=>rfl;have b23:=l23.F.binds (ps:=["self","mix"]) fun _ _ _ _ _ _=>nh fun _ _=>rfl;have b24:=l24.F.binds (ps:=["case"]) fun _ _ _ _ _ _=>BG fun _=>rfl;have b25:=l25.F.binds (ps:=["askings","cause"]) fun _ _ _ _ _ _=>nh fun _ _=>rfl;have b26:=l26.F.binds (ps:=["askings","cause"]) fun _ _ _ _ _ _=>nh fun _ _=>rfl;have b27:=l27.F.binds (ps:=["_law_script"]) fun _ _ _ _ _ _=>BG fun _=>rfl;have b28:=l28.F.binds (ps:=["_law_tape_here","_law_many"]) fun _ _ _ _ _ _=>nh fun _ _=>rfl;have b29:=l29.F.binds (ps:=["_law_tape_here"]) fun _ _ _ _ _ _=>BG fun _=>rfl;have b30:=l30.F.binds (ps:=["_law_tape_here","_law_frame"]) fun _ _ _ _ _ _=>nh fun _ _=>rfl;have b31:=l31.F.binds (ps:=["_law_tape_here","_law_frame","_law_deep"]) fun _ _ _ _ _ _=>ox fun _ _ _=>rfl;have b32:=l32.F.binds (ps:=["_law_tape_here","_law_frame","_law_many","_law_deep"]) fun _ _ _ _ _ _=>F8 fun _ _ _ _=>rfl;have b33:=l33.F.binds (ps:=["_law_tape_here","_law_most"]) fun _ _ _ _ _ _=>nh fun _ _=>rfl;have b34:=l34.F.binds (ps:=["_law_tape_here","_law_plan_here"]) fun _ _ _ _ _ _=>nh fun _ _=>rfl;have b35:=l35.F.binds (ps:=["_law_here","_law_row"]) fun _ _ _ _ _ _=>nh fun _ _=>rfl;have b36:=l36.F.binds (ps:=["_law_here","_law_rows"]) fun _ _ _ _ _ _=>nh fun _ _=>rfl;have b37:=l37.F.binds (ps:=["_law_plan_here","_law_stand_here","_law_most"]) fun _ _ _ _ _ _=>ox fun _ _ _=>rfl;have b38:=l38.F.binds (ps:=["_law_plan_here","_law_stand_here","_law_most"]) fun _ _ _ _ _ _=>ox fun _ _ _=>rfl;have b39:=l39.F.binds (ps:=["_law_tape_here","_law_plan_here"]) fun _ _ _ _ _ _=>nh fun _ _=>rfl;have b40:=l40.F.binds (ps:=["_law_tape_here","_law_plan_here","_law_one","_law_other","_law_few"]) fun _ _ _ _ _ _=>us5 fun _ _ _ _ _=>rfl;have b41:=l41.F.binds (ps:=["_law_tape_here","_law_plan_here"]) fun _ _ _ _ _ _=>nh fun _ _=>rfl;have b42:=l42.F.binds (ps:=["_law_tape_here","_law_rows","_law_most","_law_few"]) fun _ _ _ _ _ _=>F8 fun _ _ _ _=>rfl;have b43:=l43.F.binds (ps:=["_law_plan_here"]) fun _ _ _ _ _ _=>BG fun _=>rfl;have b44:=l44.F.binds (ps:=["_law_plan_here","_law_one","_law_other"]) fun _ _ _ _ _ _=>ox fun _ _ _=>rfl;have b45:=l45.F.binds (ps:=["_law_case_here","_law_mix"]) fun _ _ _ _ _ _=>nh fun _ _=>rfl;have b46:=l46.F.binds (ps:=["_law_case_here","_law_mix"]) fun _ _ _ _ _ _=>nh fun _ _=>rfl;have b47:=l47.F.binds (ps:=["_law_all","_law_thing"]) fun _ _ _ _ _ _=>nh fun _ _=>rfl;have b48:=l48.F.binds (ps:=["_law_case_here","_law_all","_law_found"]) fun _ _ _ _ _ _=>ox fun _ _ _=>rfl;have b49:=l49.F.binds (ps:=["_law_script"]) fun _ _ _ _ _ _=>BG fun _=>rfl
 let ad:Ad:={ C_Askings:=C_Askings,C_Walk:=C_Walk,C_Dry:=C_Dry,C_NoCase:=C_NoCase,Qc:=f1,QU:=e1,Qd:=f2,QW:=e2,NU:=f3,OU:=e3,NV:=f4,OV:=e4,NW:=f5,OW:=e5,MU:=f6,MW:=e6,MX:=f7,Ni:=e7,MY:=f8,Nj:=e8,MZ:=f9,Nk:=e9,NX:=f10,OX:=e10,NY:=f11,OY:=e11,NZ:=f12,OZ:=e12,N0:=f13,O0:=e13,N5:=f14,Pa:=e14,N6:=f15,Pb:=e15,N7:=f16,Pc:=e16,N8:=f17,Pd:=e17,N9:=f18,Pe:=e18,Qe:=f19,QX:=e19,Oa:=f20,Pf:=e20,Qf:=f21,QY:=e21,Ob:=f22,Pg:=e22,Qg:=f23,QZ:=e23,Oc:=f24,Ph:=e24,Oe:=f25,Pj:=e25,Of:=f26,Pk:=e26,Og:=f27,Pl:=e27,Oh:=f28,Pm:=e28,Oi:=f29,Pn:=e29,Oj:=f30,Po:=e30,Np:=f31,Nx:=e31,NR:=f32,Ol:=e32,Om:=f33,Pp:=e33,Oo:=f34,Pq:=e34,Oq:=f35,Pr:=e35,Nq:=f36,Ny:=e36,Ot:=f37,Pu:=e37,Ou:=f38,Pw:=e38,Qh:=f39,Q0:=e39,Ov:=f40,Px:=e40,Qi:=f41,Q1:=e41,Ow:=f42,Py:=e42,Ox:=f43,Pz:=e43,Oy:=f44,PB:=e44,Oz:=f45,PC:=e45,Qj:=f46,Q4:=e46,OA:=f47,PD:=e47,Qk:=f48,Q5:=e48,a_law:=fa,d_law:=KL "law" "law" (fK gS) (eW gS) (az gS) .none kV dc pm an cd ct }
 have T:En K mg ad:={
  Mx:=⟨OO,OP,OQ,OR⟩
  mC_Askings:=Hi X G aC_Askings
  MQ:=⟨MQ,l21.a,l21.i,OS⟩
  MF:=⟨Q8,Q9,Ra,Rb⟩
  mC_Walk:=Hi X G aC_Walk
  Nt:=⟨Nt,l1.a,l1.i,Rc⟩
  MA:=MA
  My:=My
  MG:=MG
  MJ:=MJ
  Mz:=Mz
  MH:=MH
  MK:=MK
  ME:=ME
  OF:=jY X OF
  mC_Dry:=Hi X G aC_Dry
  MV:=jY X MV
  mC_NoCase:=Hi X G aC_NoCase
  F_q7:=l1.F
  b_q7:=b1
  k_q7:=l1.F.kp
  F_q5:=l2.F
  Ts:=b2
  k_q5:=l2.F.kp
  Ql:=⟨l2.a,l2.i,l2.F.kp⟩
  Rf:=l3.F
  Qm:=b3
  TN:=l3.F.kp
  OL:=⟨l3.a,l3.i,l3.F.kp⟩
  Rg:=l4.F
  Rh:=b4
  Ri:=l4.F.kp
  Rj:=Hi X G l4.a
  Rk:=l5.F
  PF:=b5
  PH:=l5.F.kp
  PJ:=Hi X G l5.a
  Rl:=l6.F
  PK:=b6
  PL:=l6.F.kp
  PM:=Hi X G l6.a
  Rm:=l7.F
  Rn:=b7
  Ro:=l7.F.kp
  Rq:=Hi X G l7.a
  Rr:=l8.F
  Rt:=b8
  Ru:=l8.F.kp
  Rv:=Hi X G l8.a
  Rx:=l9.F
  Ry:=b9
  Rz:=l9.F.kp
  RA:=Hi X G l9.a
  RB:=l10.F
  RC:=b10
  RD:=l10.F.kp
  RE:=Hi X G l10.a
  RF:=l11.F
  RG:=b11
  RH:=l11.F.kp
  RI:=Hi X G l11.a
  RJ:=l12.F
  RK:=b12
  RL:=l12.F.kp
  RM:=Hi X G l12.a
  RN:=l13.F
  RO:=b13
  RP:=l13.F.kp
  RQ:=Hi X G l13.a
  RS:=l14.F
  PN:=b14
  PQ:=l14.F.kp
  PR:=Hi X G l14.a
  RT:=l15.F
  RU:=b15
  RV:=l15.F.kp
  RW:=Hi X G l15.a
  RX:=l16.F
  RY:=b16
  RZ:=l16.F.kp
  R0:=Hi X G l16.a
  R1:=l17.F
  R3:=b17
  R4:=l17.F.kp
  R5:=Hi X G l17.a
  R6:=l18.F
  R7:=b18
  R8:=l18.F.kp
  R9:=Hi X G l18.a
  F_q8:=l19.F
  Tt:=b19
  Tu:=l19.F.kp
  Tv:=Hi X G l19.a
  Sa:=l20.F
  Sb:=b20
  Se:=l20.F.kp
  Sf:=Hi X G l20.a
  F_q2:=l21.F
  b_q2:=b21
  k_q2:=l21.F.kp
  Sg:=l22.F
  Qn:=b22
  TQ:=l22.F.kp
  OM:=⟨l22.a,l22.i,l22.F.kp⟩
  F_q0:=l23.F
  Q6:=b23
  k_q0:=l23.F.kp
  PU:=⟨l23.a,l23.i,l23.F.kp⟩
  Sh:=l24.F
  Si:=b24
  Sj:=l24.F.kp
  Sk:=Hi X G l24.a
  Sl:=l25.F
  Sm:=b25
  Sn:=l25.F.kp
  So:=Hi X G l25.a
  Sq:=l26.F
  Sr:=b26
  Ss:=l26.F.kp
  Su:=Hi X G l26.a
  Sv:=l27.F
  Sw:=b27
  Sy:=l27.F.kp
  Sz:=Hi X G l27.a
  SA:=l28.F
  MB:=b28
  MC:=l28.F.kp
  MD:=Hi X G l28.a
  SD:=l29.F
  SE:=b29
  SF:=l29.F.kp
  SG:=Hi X G l29.a
  SH:=l30.F
  SI:=b30
  SJ:=l30.F.kp
  SK:=Hi X G l30.a
  SM:=l31.F
  SN:=b31
  SO:=l31.F.kp
  SQ:=Hi X G l31.a
  F_q4:=l32.F
  Qo:=b32
  Qp:=l32.F.kp
  Qq:=Hi X G l32.a
  SS:=l33.F
  SU:=b33
  SV:=l33.F.kp
  SW:=Hi X G l33.a
  SX:=l34.F
  Qr:=b34
  Qs:=l34.F.kp
  Qt:=Hi X G l34.a
  SY:=l35.F
  S0:=b35
  S1:=l35.F.kp
  S2:=Hi X G l35.a
  S3:=l36.F
  NG:=b36
  NH:=l36.F.kp
  NI:=Hi X G l36.a
  S4:=l37.F
  PV:=b37
  PX:=l37.F.kp
  PY:=Hi X G l37.a
  S5:=l38.F
  PZ:=b38
  P0:=l38.F.kp
  P1:=Hi X G l38.a
  F_q3:=l39.F
  b_q3:=b39
  k_q3:=l39.F.kp
  m_q3:=Hi X G l39.a
  S6:=l40.F
  S7:=b40
  S8:=l40.F.kp
  S9:=Hi X G l40.a
  F_q6:=l41.F
  b_q6:=b41
  k_q6:=l41.F.kp
  m_q6:=Hi X G l41.a
  Ta:=l42.F
  Tb:=b42
  Tc:=l42.F.kp
  Td:=Hi X G l42.a
  Te:=l43.F
  Qu:=b43
  Qv:=l43.F.kp
  Qw:=Hi X G l43.a
  Tg:=l44.F
  Th:=b44
  Ti:=l44.F.kp
  Tj:=Hi X G l44.a
  Tn:=l45.F
  To:=b45
  Tp:=l45.F.kp
  Tq:=Hi X G l45.a
  F_q9:=l46.F
  b_q9:=b46
  k_q9:=l46.F.kp
  m_q9:=Hi X G l46.a
  Tr:=l47.F
  Qx:=b47
  Qy:=l47.F.kp
  Qz:=Hi X G l47.a
  F_q1:=l48.F
  b_q1:=b48
  k_q1:=l48.F.kp
  m_q1:=Hi X G l48.a
  F_law:=l49.F
  b_law:=b49
  k_law:=l49.F.kp
  m_law:=Hi X G l49.a
  z_dict:=Ia X G z_dict
  z_enumerate:=Ia X G z_enumerate
  z_int:=Ia X G z_int
  z_isinstance:=Ia X G z_isinstance
  z_len:=Ia X G z_len
  z_list:=Ia X G z_list
  z_min:=Ia X G z_min
  z_range:=Ia X G z_range
  z_repr:=Ia X G z_repr
  z_str:=Ia X G z_str
  z_tuple:=Ia X G z_tuple
  z_zip:=Ia X G z_zip
 }
 refine ⟨KL "law" "law" (fK gS) (eW gS) (az gS) .none kV dc pm an cd ct,fun s v=>.of_eq rfl,fun base _ _=>?_⟩;exact (Co (C8 (P:=l.prog) (w:=w) (base:=base) T)).imp fun vs H Q E ⟨a,ns,e,hO,hS,hl,k⟩=>by subst e;exact Aj hO hS (uq ad ns hl) k
theorem walk{l:W.OpenLaw}{q:Program}{loose:List Str}{XP:(Str->Option Value)->Heap->Prop}{YP:World->Heap->Prop}{d:DefRec}{K:Params->GH}(hn:l.most=some 63)(hdf:d.params.defaults=[])
  (hY:∀(w:World) (h:Heap),YP w h->(K w.params).In h)
  (F:∀(w:World) (mg:Str->Option Value) (fa:Addr) (h:Heap),(K w.params).In h->h.Ns mainGlobals mg->mg d.name=some (.ref fa)->
   ∃fd:FuncData,(∀(s:Shared) (u:Value),BindsTo s fd ⟨[u],[]⟩ [("_law_script",u)])/\∀base:Heap,(K w.params).In base->base.Ns mainGlobals mg->FnOk l.prog w (K w.params) mg base CX0 33 fa fd ["_law_script"] (wu (K w.params))):
  W.WalkO q loose XP YP l.row.toRowW d [] (fun f vs=>L9 f vs):=
 L2.AH (n:=63) (k:=33) (x:="_law_script") (CX:=fun _=>CX0) (sp:=fun w=>wu (K w.params)) hn (by decide) hdf ⟨rfl,by decide,by decide,rfl⟩ hY F (fun _ _ a ns hl hO hS=>⟨a,ns,rfl,hO,hS,hl,fun _=>rfl⟩) fun _ _ _ _ _ z=>z
end Tw
open PySem PySem.W PyProof.Rows
namespace PySem.W.Fast
theorem tw11410514094871521849:0=0:=rfl
theorem tw16563925077304287023:0=0:=rfl
theorem tw11201019596441606894:0=0:=rfl
theorem tw385422786934312006:0=0:=rfl
theorem tw5258312983175305134:0=0:=rfl
theorem tw5881601778181118652:0=0:=rfl
theorem tw523185968816102204:0=0:=rfl
theorem tw310715082488051416:0=0:=rfl
theorem tw6480150362727635901:0=0:=rfl
theorem tw4373574475112731549:0=0:=rfl
theorem tw17012466210461513036:0=0:=rfl
theorem tw15865984115113606671:0=0:=rfl
theorem tw14666803098853334708:0=0:=rfl
theorem tw9764308805001939915:0=0:=rfl
theorem tw9522154205529431960:0=0:=rfl
theorem tw6957223869217193289:0=0:=rfl
theorem tw171257343658888187:0=0:=rfl
theorem tw10689598690135119946:0=0:=rfl
theorem tw1552733716153013554:0=0:=rfl
theorem tw690268148278171633:0=0:=rfl
theorem tw11171863496893599238:0=0:=rfl
theorem tw12108570806667995650:0=0:=rfl
theorem tw572605645267479880:0=0:=rfl
theorem tw16854314679060331380:0=0:=rfl
theorem tw3564241145821833554:0=0:=rfl
theorem tw2637381899953103257:0=0:=rfl
theorem tw2509876617342816106:0=0:=rfl
theorem tw11143351729620951539:0=0:=rfl
theorem tw14483938496073713779:0=0:=rfl
theorem tw3255166942623562009:0=0:=rfl
theorem tw8464646660392238049:0=0:=rfl
theorem tw1345144473662487619:0=0:=rfl
theorem tw17646890561981843730:0=0:=rfl
theorem tw1876790531406178781:0=0:=rfl
theorem tw6232734868204318831:0=0:=rfl
theorem tw13625285196355709881:0=0:=rfl
theorem tw3502853808979036511:0=0:=rfl
theorem tw3768256806716922268:0=0:=rfl
theorem tw10892673480846452877:0=0:=rfl
theorem tw9334186743352406976:0=0:=rfl
theorem tw10988227678841749127:0=0:=rfl
theorem tw3384384036313164137:0=0:=rfl
theorem tw16485102028577844911:0=0:=rfl
theorem tw5191199322654426003:0=0:=rfl
theorem tw7162946456760507345:0=0:=rfl
theorem tw9662302719100470190:0=0:=rfl
theorem tw17272292514508782063:0=0:=rfl
theorem tw16236434293659262586:0=0:=rfl
theorem tw15615477956138175681:0=0:=rfl
theorem tw10508298722011165969:0=0:=rfl
theorem tw6349325971925388372:0=0:=rfl
theorem tw2589710065692895044:0=0:=rfl
theorem tw4643795772142384714:0=0:=rfl
theorem tw6163092905182450431:0=0:=rfl
theorem tw17644254961599987844:0=0:=rfl
theorem tw2466397063107560883:0=0:=rfl
theorem tw12363304040873411380:0=0:=rfl
theorem tw18023398708980709108:0=0:=rfl
theorem tw15497717851190390397:0=0:=rfl
theorem tw11872609858067252756:0=0:=rfl
theorem tw3383509855336546892:0=0:=rfl
theorem tw16542103172327118683:0=0:=rfl
theorem tw7035008744938110765:0=0:=rfl
theorem tw12117738384913136198:0=0:=rfl
theorem tw9403810507007203740:0=0:=rfl
theorem tw17391968586650841421:0=0:=rfl
end PySem.W.Fast
set_option maxRecDepth 100000 in
set_option maxHeartbeats 0 in
theorem PySem.Challenge.cw_twinstride_k65_narrowed_holds : PySem.Challenge.rw_twinstride_k65_narrowed.Holds := by
 w_on;o_law;k_head;(case hw=>w_witness2)
 k_fill
 refine Tw.walk (l:=PySem.Challenge.rw_twinstride_k65_narrowed) rfl rfl (fun w h Y=>W.kIn_of Y) ?F
 case F=>
  intro w mg fa h KX G hmg;refine' Tw.all_mk KX G hmg ..
  any_goals k_is
  any_goals (first|refine' Tw.Nf.mk ?_ (L2.v7 ?_ ?_ ?_)|refine' Tw.Mf.mk ?_ ?_ (L2.v7 ?_ ?_ ?_))
  any_goals k_is
  any_goals k_exc
