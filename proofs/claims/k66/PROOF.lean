import PyProof.Rows.All
import Wide.All
import OpenK.AllK
import Wide.FinOn
import Lean
import PyProof.EqAt
import PyProof.EqKinds
import PyProof.TupleCall
import PySem.Challenge.RW_twinstride_k66_narrowings_looked_at
set_option Elab.async false
set_option linter.all false
set_option maxRecDepth 100000
set_option maxHeartbeats 4000000
set_option compiler.extract_closed false
set_option Elab.async false
set_option linter.all false
set_option maxRecDepth 100000
open Array renaming length_toList->Pm,toList->PY,replicate->Qk,append_assoc->QF,getElem?_toList->RU,forIn_toList->Sm
open Bool renaming false_eq_true->Nv,false_ne_true->NA,and_false->NF,false_and->NN,beq_eq_decide_eq->NR,or_false->NV,false_or->NW,true_or->N6,or_true->Ob,and_eq_true->Oo,not_false->OF,not_true->OV,true_and->O5,and_true->PM,and_self->Qe,and_assoc->Ru
open False renaming elim->Ov
open ForInStep renaming yield->Qd
open Function renaming comp_apply->OH,comp_def->R6
open Int renaming toNat_natCast->Nw,eq_ofNat_of_zero_le->OJ,emod_lt_of_pos->O3,zero_add->Pl,emod_nonneg->Pu,toNat->Py,toNat_of_nonneg->Sv
open List renaming getElem?_cons_zero->dt,getElem?_cons_succ->MV,length_map->MW,getElem?_eq_getElem->MY,length_cons->MZ,size_toArray->Na,map_cons->Nb,length_append->Nd,replicate->Nh,mem_cons_of_mem->Nk,mem_cons->Nl,length_nil->Nq,getElem?_map->Nr,mem_map->Nu,mem_append->Nx,cons_append->Nz,mem_append_right->NC,nil_append->NG,set->NH,replicate_succ->NI,not_mem_nil->NK,range->NL,map_nil->NM,length_take->NP,map_map->NQ,mem_singleton->NS,append_nil->NT,length_drop->NY,lookup->N0,mem_range->N7,foldl_cons->Oe,map_congr_left->Og,length->Oj,map_append->Ol,getElem_mem->Om,mem_of_mem_take->Ow,getElem?_append_right->Ox,getD_eq_getElem?_getD->Oy,getElem?_eq_some_iff->OA,flatten_cons->OI,mem_map_of_mem->OL,getElem?_eq_none->OP,getElem?_append_left->OQ,mem_of_mem_drop->OR,any_cons->OU,filterMap_cons->OW,all_eq_true->OX,length_filter_le->O6,mem_append_left->Pd,drop_eq_getElem_cons->Pk,length_zip->Pp,find?_cons->Pq,zip_cons_cons->Pr,take_of_length_le->PC,filter_congr->PD,eraseIdx_eq_take_drop_succ->PH,any_eq_true->PJ,map_take->PL,of_mem_zip->PQ,nodup_cons->PR,mem_filter->PU,filter_map->PV,mem_cons_self->P6,range_succ_eq_map->Qi,drop_eq_nil_of_le->Qj,forIn_cons->Qo,length_singleton->Qp,mem_of_getElem?->Qt,mem_iff_getElem->Qu,forIn_nil->Qv,map_drop->QE,map_inj_right->QL,reverse_cons->QS,nodup_append->QT,append_assoc->QU,eraseIdxIfInBounds_toArray->Q1,zipIdx_cons->Q5,range'_succ->Q6,lookup_cons->Q7,foldl->Rt,mem_of_find?_eq_some->Rx,all_cons->RE,getElem?_replicate->RJ,getElem?_set_self->RQ,drop_of_length_le->RS,all_map->RT,dropLast_eq_take->R5,range'->Sb,getElem?_set_ne->Se,length_pos_iff->Sk,getElem?_range->Sl,mem_filterMap->Ss,findIdx?_cons->Su
open List.Sublist renaming refl->Qq
open List.cons renaming injEq->NU
open Nat renaming le_refl->Ni,ne_of_lt->Np,lt_of_lt_of_le->Nt,le_trans->Ny,zero_le->N5,mul_le_mul_right->Oa,lt_irrefl->Ou,le_add_right->OD,ne_of_gt->Pj,not_lt_zero->PX,le_of_lt->Qn,pow_le_pow_right->Qy,lt_of_le_of_lt->QO,succ_mul->QZ,lt_or_ge->Q0,lt_succ_self->Q9,le_succ->Rb,pow_succ->R0,mul_comm->R1,min_self->R3,lt_trans->R4
open Ne renaming symm->N8
open Option renaming join_some->OB,map_some->OG,map_eq_some_iff->OZ,isSome_some->P0,isSome_map->QK,isSome_iff_exists->Rr,isSome_none->R9,isNone_some->Sa,getD_none->Sr
open Option.some renaming inj->NZ
open PyProof.Rows renaming callWith_type1->NX,slot_tuple_getitem->Of,assign_Tuple->QN,envOfC->Rk
open PySem renaming mem_of_lookup->OK,Within->RF,call->Sf,list_append->Sn
open PySem.Around renaming under_plainId->O9,under->QJ
open PySem.AutoSeq1 renaming sub_tuple_tuple->P5,idx_int->QI
open PySem.Builtin.Dict renaming updateFrom->Pe,pairItems->P4,selfAndRest->QP,addKeywords->QR
open PySem.Builtin.List renaming listTooLong->O8
open PySem.Builtin.Slice renaming slicePlaces->O4,sliceAdjust->PK,sliceApplied->QD
open PySem.Builtin.SmallTypes renaming nextOf->NB,ownedTupleIsFree->NJ,ownedTupleHandOut->P2
open PySem.Builtin.Tuple renaming tupleExact->ON,tupleTooMany->QB,tupleItemsOf->QC
open PySem.Calls renaming spliced_cons->O0,evalArgs_plain->Pc,spliced_nil->Pz,callWith_builtin->PB,Name_function_global->Rj
open PySem.Code renaming isFrame->RP
open PySem.Expr renaming Call->RI
open PySem.F renaming slot_dict_get->OM,slot_zip_next->OS,slot_tuple_mul->OY,slot_tuple_iterator_next->Ph,entry_dict_get->Px,slot_list_getattribute->PF,slot_int_rmul->P1,args_tuple_mul_2->P7,args_tuple_add_2->P8,plainAttrs_list->Qa,entry_tuple_mul->Qb,entry_tuple_add->Qc,slot_tuple_add->Qf,args_zip_next_1->Qg,slot_zip_getattribute->Ql,entry_zip_next->Qm,slot_list_append->Qx,slot_list_pop->QY,slot_tuple_index->Ri,slot_tuple_rmul->Rm,plainAttrs_dict->Rn,args_dict_get_3->Ro,args_dict_get_2->Rq,args_tuple_iterator_next_1->Rv,type_dict_get->RB,slot_dict_len->RC,entry_tuple_iterator_next->RD,slot_list_extend->RY,args_dict_init_2->RZ,entry_dict_init->R7,args_int_rmul_2->R8,slot_int_index->Si,entry_int_rmul->Sj,slot_enumerate_next->So,fills_int_mul->Sq
open PySem.Heap renaming get?_push_of_some->MX,lt_size->Nc,get?_push_size->Nj,size_push->Oi,SameBut->Pf,get?_update_other->RN,get?_update_self->RX
open PySem.Heap.DictOf renaming new->RO
open PySem.Heap.IsSliceOf renaming new->Ra
open PySem.Heap.SameBut renaming update->Rh
open PySem.Obj renaming mapSeq->QM
open PySem.Paired renaming length->OC
open PySem.PyData renaming shownAll->Oc,showable->Ot,hasDict->OE,depth->PN,str->PZ,showableAll->Qz,shown->QG,hasDictAll->QH,depthAll->Q4,noDict_hsm->Sh
open PySem.SeqAt renaming EqAt->Qh,RcNeAt->RG,RcAt->Sg
open PySem.SeqAt.EqAt renaming str_int->Rz,int_str->RA
open PySem.SeqAt.RcAt renaming lists_lengths->Q3,tuples->RH,lists->RM
open PySem.Shared renaming heap->RL
open PySem.Str renaming ofString->Oh,join->Qw
open PySem.Value renaming ref->ND,bool->Pb,none->Po,str->QW,int->QX,type->Rg,float->RW
open PySem.W renaming Frag->Ng,mg_none_of->Oq,findIn->Oz,nsIn->Pa,emptyDict->Pg,kia_one->Pn,keepIn->Pw,instObj->P9,plainGet->Qr,fnOf->Qs,hasDictIn->QA,callWith_K->Q8,makesIn->Rc,hideAll->Rf,plainOver->Rl,mg_of->Ry,plainGet_of->RV
open Std.Legacy renaming Range->RK
open String renaming reduceBEq->NO
open Sum renaming inr->Nm,inl->O7
open True renaming intro->OO
namespace L2
open PySem PySem.Spec PyProof.Rows
abbrev ax:=Sum Int Str
def nv:ax->Value->Bool
 |.inl k,v=>Value.isInt k v
 |.inr x,v=>Value.isStrOf x v
def keyH(w:World):ax->Int
 |.inl k=>hashInt k
 |.inr x=>hashStr w x
theorem bB:∀{k:ax} {v:Value},nv k v=true->(∃i t,k=O7 i/\v=QX i t)\/(∃x t,k=Nm x/\v=QW x t)
 |.inl i,v,h=>by
  obtain⟨t,e⟩:=Value.isInt_shape (k:=i) (v:=v) h;exact .inl ⟨i,t,rfl,e⟩
 |.inr x,v,h=>by
  obtain⟨t,e⟩:=Value.isStrOf_shape (x:=x) (v:=v) h;exact .inr ⟨x,t,rfl,e⟩
theorem zh(i:Int)(t:Tok):nv (.inl i) (.int i t)=true:=by simp[nv,Value.isInt]
theorem zo(x:Str)(t:Tok):nv (.inr x) (.str x t)=true:=by simp[nv,Value.isStrOf]
theorem J4(a b:Int):decide ((O7 a:ax)=O7 b)=(a==b):=by
 by_cases e:a=b
 .subst e;simp
 .have h:¬(O7 a:ax)=O7 b:=λq=>e (Sum.inl.inj q)
  rw[decide_eq_false h];exact(beq_eq_false_iff_ne.mpr e).symm
theorem GP(a b:Str):decide ((Nm a:ax)=Nm b)=decide (a=b):=by
 by_cases e:a=b
 .subst e;simp
 .have h:¬(Nm a:ax)=Nm b:=λq=>e (Sum.inr.inj q)
  rw[decide_eq_false h,decide_eq_false e]
theorem IR(a:Int)(b:Str):decide ((O7 a:ax)=Nm b)=false:=decide_eq_false (λq=>nomatch q)
theorem Jn(a:Str)(b:Int):decide ((Nm a:ax)=O7 b)=false:=decide_eq_false (λq=>nomatch q)
def aO(prog:Program)(w:World):PySem.KeyKind prog w ax where
 is:=nv
 hash:=keyH w
 inj:=λv a b g f=>by
  rcases bB g with⟨i,t,rfl,rfl⟩|⟨x,t,rfl,rfl⟩
  .rcases bB f with⟨j,u,rfl,e⟩|⟨y,u,rfl,e⟩
   .injection e with e1 _;rw[e1]
   .exact nomatch e
  .rcases bB f with⟨j,u,rfl,e⟩|⟨y,u,rfl,e⟩
   .exact nomatch e
   .injection e with e1 _;rw[e1]
 byValue:=λk v h=>by
  rcases bB h with⟨i,t,rfl,rfl⟩|⟨x,t,rfl,rfl⟩<;>rfl
 pyHash:=λc h=>by
  rcases bB c with⟨i,t,rfl,rfl⟩|⟨x,t,rfl,rfl⟩
  .exact wpAny_pyHash_int h
  .exact wpAny_pyHash_str h
 eqBool:=λl c h=>by
  rcases bB l with⟨i,t,rfl,rfl⟩|⟨x,t,rfl,rfl⟩
  .rcases bB c with⟨j,u,rfl,rfl⟩|⟨y,u,rfl,rfl⟩
   .rw[J4]at h;exact wpAny_eqBool_int h
   .rw[IR]at h;exact RA i t y u _ _ _ _ h
  .rcases bB c with⟨j,u,rfl,rfl⟩|⟨y,u,rfl,rfl⟩
   .rw[Jn]at h;exact Rz x t j u _ _ _ _ h
   .rw[GP]at h;exact wpAny_eqBool_str h
 «strs»:=λk x t v h=>by
  rcases bB h with⟨i,u,rfl,e⟩|⟨y,u,rfl,e⟩
  .exact nomatch e
  .injection e with e1 _
   subst e1;cases v<;>rfl
theorem qY(prog:Program)(w:World)(i:Int)(t:Tok):(aO prog w).is (.inl i) (.int i t)=true:=zh i t
theorem qH(prog:Program)(w:World)(x:Str)(t:Tok):(aO prog w).is (.inr x) (.str x t)=true:=zo x t
inductive V where
 |non|bl (b:Bool)|int (i:Int)|str (x:Str)|byt (b:Array UInt8)|flt (b:UInt64)|ref (a:Addr)|ty (n:String)
 deriving DecidableEq
def RelV:V->Value->Prop
 |.non,u=>u=Po
 |.bl b,u=>u=Pb b
 |.int i,u=>∃t,u=QX i t
 |.str x,u=>∃t,u=QW x t
 |.byt b,u=>∃t,u=Value.bytes b t
 |.flt b,u=>∃t,u=RW b t
 |.ref a,u=>u=ND a
 |.ty n,u=>u=Rg n
abbrev Vals:List V->List Value->Prop:=Paired RelV
theorem Vals.length{xs:List V}{us:List Value}(r:Vals xs us):xs.length=us.length:=OC r
theorem Vals.get:∀{xs:List V} {us:List Value} {i:Nat} {x:V},Vals xs us->xs[i]?=some x->∃u,us[i]?=some u/\RelV x u
 |_,_,_,_,.nil,e=>by simp at e
 |_,_,0,_,.cons r _,e=>by simp at e;subst e;exact⟨_,rfl,r⟩
 |_,_,i+1,x,.cons _ t,e=>by
  obtain⟨u,a,b⟩:=Vals.get (i:=i) (x:=x) t (by simpa using e)
  exact⟨u,by simpa using a,b⟩
theorem Vals.set{x:V}{u:Value}(r:RelV x u):∀{xs:List V} {us:List Value} (i:Nat),Vals xs us->Vals (xs.set i x) (us.set i u)
 |_,_,_,.nil=>.nil
 |_,_,0,.cons _ t=>.cons r t
 |_,_,i+1,.cons q t=>.cons q (Vals.set r i t)
theorem Vals.append:∀{xs ys:List V} {us ws:List Value},Vals xs us->Vals ys ws->Vals (xs++ys) (us++ws)
 |_,_,_,_,.nil,s=>s
 |_,_,_,_,.cons r t,s=>.cons r (Vals.append t s)
theorem Vals.take:∀{xs:List V} {us:List Value} (n:Nat),Vals xs us->Vals (xs.take n) (us.take n)
 |_,_,0,_=>.nil
 |_,_,_+1,.nil=>.nil
 |_,_,n+1,.cons r t=>.cons r (Vals.take n t)
theorem Vals.drop:∀{xs:List V} {us:List Value} (n:Nat),Vals xs us->Vals (xs.drop n) (us.drop n)
 |_,_,0,r=>r
 |_,_,_+1,.nil=>.nil
 |_,_,n+1,.cons _ t=>Vals.drop n t
def RelO:Option V->Option Value->Prop
 |some v,some u=>RelV v u
 |none,none=>True
 |_,_=>False
def KV{κ:Type}:List (κ×V)->List (κ×Value)->Prop:=Paired λ(p:κ×V) (q:κ×Value)=>p.1=q.1/\RelV p.2 q.2
def kV:ax->V
 |.inl i=>.int i
 |.inr x=>.str x
inductive HO where
  |lst (xs:List V)
  |tup (xs:List V)
  |dK (kvs:List (ax×V))|dT (kvs:List (List ax×V))
  |set (S:Int->Bool) (n:Nat)
  |ins (C dx:Addr) (fs:List (Str×V))
  |own (x:Addr)
  |xd (fs:List (Str×V))
  |met (f x:Addr)
  |rng (lo hi:Int)
  |frz (o:Obj) (u:HO)
  |tbl (ps:Array Value)
  |ext (φ:Heap->Prop)
abbrev Hp:=Addr->Option HO
def upd(H:Hp)(a:Addr)(o:HO):Hp:=λb=>if b=a then some o else H b
theorem upd_same{H:Hp}{a:Addr}{o:HO}:upd H a o a=some o:=by unfold upd;rw[if_pos rfl]
theorem aH{H:Hp}{a b:Addr}{o:HO}(h:b≠a):upd H a o b=H b:=by unfold upd;rw[if_neg h]
theorem Mc{H:Hp}{a b:Addr}{o u:HO}(h:H a=some o)(h':H b=some u)(d:o≠u):a≠b:=by
 intro e;subst e;rw[h]at h';exact d (NZ h')
theorem bf{H:Hp}{a b:Addr}{o:HO}(h:H a=some o)(h':H b=none):a≠b:=by
 intro e;subst e;rw[h]at h';cases h'
section
variable (P:Program)(w:World)
def ObjOk(H:Hp)(h:Heap)(a:Addr):HO->Prop
 |.lst xs=>xs.length<=sizeLine/\∃(its:List Value) (n:Nat),Vals xs its/\h.get? a=some { cls:=.type "list",data:=.seq its.toArray n }
 |.tup xs=>xs.length<=sizeLine/\∃its:List Value,Vals xs its/\∃o,h.get? a=some o/\(o.cls=.type "tuple"/\∃n,o.data=.seq its.toArray n)/\o.dict=none
 |.dK kvs=>kvs.length<=sizeLine/\(a==sysModules)=false/\∃vs,KV kvs vs/\h.DictOf (aO P w) a vs
 |.dT kvs=>kvs.length<=sizeLine/\(a==sysModules)=false/\∃xs:List (List ax×Addr×Value),
   Paired (λ(p:List ax×V) (q:List ax×Addr×Value)=>p.1=q.1/\H q.2.1=some (.tup<|p.1.map kV)/\RelV p.2 q.2.2) kvs xs/\
   ∃o es ep,h.get? a=some o/\o.ExactDict/\o.data=.dict es ep/\es.toList=xs.map (entryOfKey<|tupleKind<|aO P w)/\(xs.map (·.1)).Nodup
 |.set S n=>h.SetOf (intKind P w) a S n
 |.ins C dx fs=>H dx=some (.own a)/\fs.length<=1000/\dx≠a/\h.get? a=some (P9 C dx)/\
   ∃mA,h.Ns1 dx mA/\(∀f,RelO (fs.lookup f) (mA f))/\RF mA (fs.map (·.1))
 |.own _=>∃o,h.get? a=some o
 |.xd fs=>∃mA,h.Ns1 a mA/\∀f,RelO (fs.lookup f) (mA f)
 |.rng lo hi=>∃t u v,h.get? a=some { cls:=.type "range",data:=.fields #[.int lo t,.int hi u,.int 1 v] }
 |.frz o u=>h.get? a=some o/\ObjOk H h a u
 |.tbl ps=>h.get? a=some { cls:=.none,data:=.fields ps }
 |.met f x=>h.get? a=some (W.methodObj (.ref f)<|.ref x)
 |.ext φ=>φ h/\(∃o,h.get? a=some o)/\∀h1 h2:Heap,φ h1->(∀o,h1.get? a=some o->h2.get? a=some o)->φ h2
def HOk(H:Hp)(h:Heap):Prop:=∀a o,H a=some o->ObjOk P w H h a o
end
section
variable {P:Program}{w:World}{H H':Hp}{h h':Heap}{a:Addr}{o:HO}
theorem ObjOk.lt(x:ObjOk P w H h a o):a<h.objs.size:=by
 cases o with
 |lst xs=>obtain⟨_,_,_,_,e⟩:=x;exact Nc e
 |tup xs=>obtain⟨_,_,_,_,e,_⟩:=x;exact Nc e
 |dK kvs=>obtain⟨_,_,_,_,o,_,_,e,_⟩:=x;exact Nc e
 |dT kvs=>obtain⟨_,_,_,_,o,_,_,e,_⟩:=x;exact Nc e
 |set S n=>obtain⟨o,_,_,_,e,_⟩:=x;exact Nc e
 |ins C dx fs=>obtain⟨_,_,_,e,_⟩:=x;exact Nc e
 |own y=>obtain⟨_,e⟩:=x;exact Nc e
 |xd fs=>obtain⟨_,⟨_,_,_,e,_⟩,_⟩:=x;exact Nc e
 |rng lo hi=>obtain⟨_,_,_,e⟩:=x;exact Nc e
 |frz ob u=>obtain⟨e,_⟩:=x;exact Nc e
 |tbl ps=>exact Nc (show h.get? a=some _ from x)
 |met f y=>exact Nc (show h.get? a=some _ from x)
 |ext φ=>obtain⟨_,⟨_,e⟩,_⟩:=x;exact Nc e
theorem dR{α β:Type}{F G:α->β->Prop}:∀{l₁:List α} {l₂:List β},Paired F l₁ l₂->(∀a b,F a b->G a b)->Paired G l₁ l₂
 |_,_,.nil,_=>.nil
 |_,_,.cons r t,f=>.cons (f _ _ r) (dR t f)
theorem ObjOk.stay(x:ObjOk P w H h a o)(k:∀b u,(b=a\/H b=some (.own a))->h.get? b=some u->h'.get? b=some u)
  (ho:∀b,H b=some (.own a)->H' b=some (.own a)) (ht:∀b xs,H b=some (.tup xs)->H' b=some (.tup xs)):ObjOk P w H' h' a o:=by
 induction o with
 |lst xs=>obtain⟨z,l,n,r,e⟩:=x;exact⟨z,l,n,r,k _ _ (.inl rfl) e⟩
 |tup xs=>obtain⟨z,l,r,g,e,c⟩:=x;exact⟨z,l,r,g,k _ _ (.inl rfl) e,c⟩
 |dK kvs=>obtain⟨z,y,B,r,g,i,j,e,c⟩:=x;exact⟨z,y,B,r,g,i,j,k _ _ (.inl rfl) e,c⟩
 |dT kvs=>
  obtain⟨z,y,xs,r,g,i,j,e,c⟩:=x;exact⟨z,y,xs,dR r λp q z=>⟨z.1,ht _ _ z.2.1,z.2.2⟩,g,i,j,k _ _ (.inl rfl) e,c⟩
 |set S n=>obtain⟨g,i,j,t,e,c⟩:=x;exact⟨g,i,j,t,k _ _ (.inl rfl) e,c⟩
 |ins C dx fs=>
  obtain⟨d,z,ne,e,s,⟨m,i,j,E,c⟩,r⟩:=x;exact⟨ho _ d,z,ne,k _ _ (.inl rfl) e,s,⟨m,i,j,k _ _ (.inr d) E,c⟩,r⟩
 |own y=>obtain⟨g,e⟩:=x;exact⟨g,k _ _ (.inl rfl) e⟩
 |xd fs=>obtain⟨s,⟨m,i,j,e,c⟩,r⟩:=x;exact⟨s,⟨m,i,j,k _ _ (.inl rfl) e,c⟩,r⟩
 |rng lo hi=>obtain⟨t,u,v,e⟩:=x;exact⟨t,u,v,k _ _ (.inl rfl) e⟩
 |frz g u ih=>obtain⟨e,q⟩:=x;exact⟨k _ _ (.inl rfl) e,ih q⟩
 |tbl ps=>
  have e:h.get? a=some { cls:=.none,data:=.fields ps }:=x;show h'.get? a=some { cls:=.none,data:=.fields ps };exact k a _ (.inl rfl) e
 |met f y=>
  have e:h.get? a=some (W.methodObj (.ref f)<|.ref y):=x;show h'.get? a=some (W.methodObj (.ref f)<|.ref y);exact k a _ (.inl rfl) e
 |ext φ=>obtain⟨p,⟨o,e⟩,A⟩:=x;exact⟨A _ _ p λo q=>k _ _ (.inl rfl) q,⟨o,k _ _ (.inl rfl) e⟩,A⟩
theorem HOk.lt(x:HOk P w H h)(e:H a=some o):a<h.objs.size:=(x a o e).lt
theorem HOk.fresh(x:HOk P w H h)(e:h.objs.size<=a):H a=none:=by
 cases q:H a with
 |none=>rfl
 |some u=>exact absurd (Nt (x.lt q) e) (Ou _)
theorem HOk.kept(x:HOk P w H h)(k:∀b u,h.get? b=some u->h'.get? b=some u):HOk P w H h':=λa o e=>
 (x a o e).stay (λb u _ q=>k b u q) (λ_ q=>q) λ_ _ q=>q
theorem HOk.laid(x:HOk P w H h)(k:∀b u,h.get? b=some u->h'.get? b=some u)(hp:h.objs.size<=a)(new:ObjOk P w (upd H a o) h' a o):HOk P w (upd H a o) h':=λb u e=>by
 have g:=x.fresh hp
 by_cases f:b=a
 .subst f;rw[upd_same]at e;cases e;exact new
 .rw[aH f]at e
  exact(x b u e).stay (λc v _ q=>k c v q) (λc q=>by rw[aH (bf q g)];exact q) λc i q=>by rw[aH (bf q g)];exact q
end
def Rd(H:Hp)(a:Addr)(u:HO):Prop:=H a=some u\/∃o,H a=some (.frz o u)
theorem Rd.ok{P:Program}{w:World}{H:Hp}{h:Heap}{a:Addr}{u:HO}(r:Rd H a u)(x:HOk P w H h):ObjOk P w H h a u:=by
 rcases r with r|⟨o,r⟩
 .exact x a u r
 .obtain⟨_,q⟩:=x a _ r
  exact q
def Mi:Option HO->Prop
 |some (.lst _)=>True
 |some (.dK _)=>True
 |some (.dT _)=>True
 |some (.set _ _)=>True
 |some (.ins _ _ _)=>True
 |some (.ext _)=>True
 |_=>False
section
variable {P:Program}{w:World}{H:Hp}{h h':Heap}{x e:Addr}{o':HO}
theorem HOk.write(ok:HOk P w H h)(mu:Mi (H x))(he:e=x\/H e=some (.own x))(k:∀b u,b≠e->h.get? b=some u->h'.get? b=some u)(heo:∃u,h'.get? e=some u)
  (new:ObjOk P w (upd H x o') h' x o'):HOk P w (upd H x o') h':=λb u q=>by
 have f:∀c y,H c=some (.own y)->c≠x:=λc y r z=>by subst z;rw[r]at mu;exact mu
 have g:∀c j,H c=some (.tup j)->c≠x:=λc j r z=>by subst z;rw[r]at mu;exact mu
 by_cases i:b=x
 .subst i;rw[upd_same]at q;cases q;exact new
 .rw[aH i]at q
  by_cases a:b=e
  .have l:H b=some (.own x):=by
    rcases he with z|z
    .exact absurd (a.trans z) i
    .rw[a];exact z
   rw[q]at l;cases l;obtain⟨v,m⟩:=heo;exact⟨v,by rw[a];exact m⟩
  .refine (ok b u q).stay (λc v hc r=>k c v ?_ r) (λc r=>by rw[aH (f c b r)];exact r) λc j r=>by rw[aH (g c j r)];exact r
   rcases hc with rfl|hc
   .exact a
   .rintro rfl
    rcases he with z|z
    .exact f c b hc z
    .rw[hc]at z;cases z;exact i rfl
end
structure Un(fs ex:List Addr)(H H':Hp)(h h':Heap):Prop where
 keep:∀b o,h.get? b=some o->H b=none->b∉fs->b∉ex->h'.get? b=some o
 slot:∀b o,h.get? b=some o->H b=none->b∈fs->b∉ex->∃sl,h'.get? b=some { o with slots:=sl }
 free:∀b o,h.get? b=some o->H b=none->b∉ex->H' b=none
 there:∀b o,h.get? b=some o->b∉ex->∃o',h'.get? b=some o'
 tups:∀b xs,H b=some (.tup xs)->H' b=some (.tup xs)
 frzs:∀b o u,H b=some (.frz o u)->H' b=some (.frz o u)
 tbls:∀b ps,H b=some (.tbl ps)->∃more,H' b=some (.tbl (ps++more))
section
variable {fs fs' ex ex':List Addr}{H H1 H2:Hp}{h h1 h2 h':Heap}{a x e:Addr}{o:HO}
theorem Un.any(u:Un fs ex H H1 h h1){b:Addr}{ob:Obj}(q:h.get? b=some ob)(n:H b=none)(hx:b∉ex):∃sl,h1.get? b=some { ob with slots:=sl }:=by
 by_cases c:b∈fs
 .exact u.slot b ob q n c hx
 .exact⟨ob.slots,u.keep b ob q n c hx⟩
theorem Un.kept(k:∀b u,h.get? b=some u->h'.get? b=some u):Un fs ex H H h h':=
 ⟨λb c q _ _ _=>k b c q,λb c q _ _ _=>⟨c.slots,k b c q⟩,λ_ _ _ n _=>n,λb c q _=>⟨c,k b c q⟩,λ_ _ q=>q,λ_ _ _ q=>q,λ_ f q=>⟨#[],by rw[q];simp⟩⟩
theorem Un.refl:Un fs ex H H h h:=Un.kept λ_ _ q=>q
theorem Un.laid(k:∀b u,h.get? b=some u->h'.get? b=some u)(hp:h.objs.size<=a)(hn:H a=none):Un fs ex H (upd H a o) h h' where
 keep:=λb u q _ _ _=>k b u q
 slot:=λb u q _ _ _=>⟨u.slots,k b u q⟩
 free:=λb u q n _=>by rw[aH (Np<|Nt (Nc q) hp)];exact n
 there:=λb u q _=>⟨u,k b u q⟩
 tups:=λb c q=>by rw[aH (bf q hn)];exact q
 frzs:=λb u c q=>by rw[aH (bf q hn)];exact q
 tbls:=λb f q=>⟨#[],by rw[aH (bf q hn),q];simp⟩
theorem Un.write(mu:Mi (H x))(he:e=x\/H e=some (.own x))(k:∀b u,b≠e->h.get? b=some u->h'.get? b=some u)(heo:∃u,h'.get? e=some u):Un fs ex H (upd H x o) h h':=by
 have g:∀b,H b=none->b≠x:=λb n z=>by subst z;rw[n]at mu;exact mu
 have f:∀b,H b=none->b≠e:=λb n z=>by
  subst z;rcases he with r|r
  .exact g b n r
  .rw[n]at r;cases r
 have hm:∀b u,H b=some u->¬Mi (some u)->b≠x:=λb u q nm z=>by subst z;rw[q]at mu;exact nm mu
 refine⟨λb u q n _ _=>k b u (f b n) q,λb u q n _ _=>⟨u.slots,k b u (f b n) q⟩,λb u q n _=>by rw[aH (g b n)];exact n,λb u q _=>?_,
  λb i q=>by rw[aH (hm b _ q λz=>z)];exact q,λb u i q=>by rw[aH (hm b _ q λz=>z)];exact q,λb j q=>⟨#[],by rw[aH (hm b _ q λz=>z),q];simp⟩⟩
 by_cases c:b=e
 .subst c;exact heo
 .exact⟨u,k b u c q⟩
end
def trk(h:Heap)(H:Hp):List Addr:=(NL h.objs.size).filter λa=>(H a).isSome
def oN(h:Heap)(H:Hp):Heap:=Rf h (trk h H)
theorem zn(h:Heap)(H:Hp):(oN h H).objs.size=h.objs.size:=W.hideAll_size _ _
theorem Cr{h:Heap}{H:Hp}{b:Addr}{o:Obj}(e:h.get? b=some o)(n:H b=none):(oN h H).get? b=some o:=
 W.hideAll_get _ e λhm=>by
  have q:(H b).isSome=true:=(PU.mp hm).2;rw[n]at q;simp at q
theorem Dt{h:Heap}{H:Hp}{b:Addr}{o:Obj}(e:(oN h H).get? b=some o):h.get? b=some o/\H b=none:=by
 have a:h.get? b=some o:=W.of_hideAll (trk h H) e;refine⟨a,?_⟩;cases q:H b with
 |none=>rfl
 |some x=>
  have hm:b∈trk h H:=PU.mpr ⟨N7.mpr (Nc a),by simp[q]⟩
  have z:(oN h H).get? b=none:=W.hideAll_none (trk h H) hm;rw[z]at e;cases e
structure Mod(K:Ng)(mg:Str->Option Value)(base:Heap):Prop where
 kin:K.In base
 glob:base.Ns mainGlobals mg
 blt:∃mb,base.Ns builtinsNs mb/\∀x:Str,x≠"__name__"->mb x=bootBuiltins x
 nolimit:base.NoLimit
structure Cx where
 prog:Program
 w:World
 K:Ng
 mg:Str->Option Value
 base:Heap
 A:Around
 N:List Str
 s₀:Shared
 H₀:Hp
 env:Env
 outer:List Env
 stack:List Env
 ex:List Addr
 fn:Str->Bool
 calm:Bool
 pn:List (Addr×Obj)
 xe:Value->Shared->Prop
def g8(l:List Env):List Addr:=l.filterMap (·.frame)
abbrev Cx.fs(X:Cx):List Addr:=g8 X.outer
def Kd(sc:Scope)(x:Str):Prop:=sc.names.lookup x=some .local\/sc.names.lookup x=some .cell\/sc.names.lookup x=some .free
def zG(sc:Scope)(x:Str):Prop:=sc.names.lookup x=some .local\/sc.names.lookup x=some .cell
def Look(env:Env)(h:Heap)(m:Str->Option Value)(x:Str)(u:Value):Prop:=
 (env.kindOf x=some .local/\m x=some u)\/((env.kindOf x=some .cell\/env.kindOf x=some .free)/\∃c,env.cells.lookup x=some c/\h.IsCell c (some u))
structure Cx.Ok(X:Cx):Prop where
 mod:Mod X.K X.mg X.base
 kind:X.env.scope.kind=.function
 glob:X.env.globals=mainGlobals
 blt:X.env.builtins=builtinsNs
 above:X.s₀.heap.objs.size<=X.env.locals
 inj:∀x y c,X.env.cells.lookup x=some c->X.env.cells.lookup y=some c->x=y
 has:∀x,(X.env.kindOf x=some .cell\/X.env.kindOf x=some .free)->∃c,X.env.cells.lookup x=some c
 cab:∀x c,X.fn x=true->X.env.cells.lookup x=some c->X.s₀.heap.objs.size<=c
 hd:X.calm=true->X.A.handled=none
 frames:X.A.frames=some X.stack
 stk:X.stack=X.outer\/(X.stack=X.env::X.outer/\X.env.frame=some X.env.locals)
 exf:∀b∈X.ex,b≠X.env.locals/\∀x c,X.env.cells.lookup x=some c->c≠b
 bs:∀b o,X.base.get? b=some o->X.s₀.heap.get? b=some o/\X.H₀ b=none
 bsz:X.base.objs.size<=X.s₀.heap.objs.size
 noex:∀b o,X.base.get? b=some o->b∉X.ex
 exfs:∀b∈X.ex,b∉X.fs
 funs:X.s₀.heap.FunFrames X.base X.outer
 frf:∀b∈X.fs,X.H₀ b=none
structure Inv(X:Cx)(pins:List (Addr×Obj))(Z:List (Option V))(H:Hp)(s:Shared):Prop where
 ok:X.Ok
 os:s.os=X.s₀.os
 bare:AllBare s.gens
 base:Un X.fs X.ex X.H₀ H X.s₀.heap s.heap
 loc:∃m,s.heap.Ns X.env.locals m/\∀(i:Nat) (x:Str) (v:V),X.N[i]?=some x->Z[i]?=some (some v)->Kd X.env.scope x->∃u,RelV v u/\Look X.env s.heap m x u
 cell:∀x c,X.env.cells.lookup x=some c->∃v,s.heap.IsCell c v
 free:H X.env.locals=none
 freeC:∀x c,X.env.cells.lookup x=some c->H c=none
 pin:∀p∈X.pn++pins,s.heap.get? p.1=some p.2/\H p.1=none/\p.1≠X.env.locals/\p.1∉X.fs/\∀v,p.2.data≠.cell v
 hok:HOk X.prog X.w H s.heap
 len:Z.length=X.N.length
section
variable {X:Cx}{pins:List (Addr×Obj)}{Z:List (Option V)}{H H':Hp}{s:Shared}{h':Heap}
theorem Cx.Ok.nofr(ok:X.Ok){b:Addr}{o:Obj}(e:X.base.get? b=some o):b∉X.fs:=λa=>by
 have:=(ok.funs.mem a).1;rw[e]at this;cases this
theorem Inv.bs(I:Inv X pins Z H s):∀b o,X.base.get? b=some o->s.heap.get? b=some o/\H b=none:=λb o e=>
 ⟨I.base.keep b o (I.ok.bs b o e).1 (I.ok.bs b o e).2 (I.ok.nofr e) (I.ok.noex b o e),I.base.free b o (I.ok.bs b o e).1 (I.ok.bs b o e).2<|I.ok.noex b o e⟩
theorem Inv.bk(I:Inv X pins Z H s):∀b o,X.base.get? b=some o->s.heap.get? b=some o:=λb o e=>(I.bs b o e).1
theorem Inv.mod(I:Inv X pins Z H s):Mod X.K X.mg X.base:=I.ok.mod
theorem Inv.kIn(I:Inv X pins Z H s):X.K.In s.heap:=I.ok.mod.kin.keeps I.bk
theorem Inv.lt(I:Inv X pins Z H s):X.env.locals<s.heap.objs.size:=let ⟨_,hn,_⟩:=I.loc;hn.lt
theorem Inv.sz(I:Inv X pins Z H s):X.s₀.heap.objs.size<=s.heap.objs.size:=Ny I.ok.above (Qn I.lt)
theorem Inv.nofs(I:Inv X pins Z H s){a:Addr}(h:s.heap.objs.size<=a):a∉X.fs:=λc=>by
 obtain⟨_,o,b,_⟩:=I.ok.funs.mem c;exact absurd (Nt (Nc b)<|Ny I.sz h) (Ou _)
theorem Inv.cne(I:Inv X pins Z H s):∀x c,X.env.cells.lookup x=some c->c≠X.env.locals:=λx c e z=>by
 obtain⟨v,o,f,g⟩:=I.cell x c e;obtain⟨m,⟨j,i,h,b,a,_⟩,_⟩:=I.loc;rw[z,b]at f;cases f;rw[a]at g;cases g
theorem Inv.funs(I:Inv X pins Z H s):s.heap.FunFrames X.base X.outer:=by
 have all:∀(l:List Env),(∀b∈g8 l,b∈X.fs)->X.s₀.heap.FunFrames X.base l->s.heap.FunFrames X.base l:=by
  intro l
  induction l with
  |nil=>intro _ _;trivial
  |cons env r ih=>
   intro g j;obtain⟨n,⟨L,o,a,m,h,i⟩,p⟩:=j;have f:L∈X.fs:=g L (by unfold g8;rw[OW,a];exact P6)
   obtain⟨q,e⟩:=I.base.slot L o h (I.ok.frf L f) f λz=>I.ok.exfs L z f;exact⟨n,⟨L,_,a,m,e,i⟩,ih (λb c=>g b (by unfold g8;rw[OW,a];exact Nk _ c)) p⟩
 exact all X.outer (λ_ c=>c) I.ok.funs
theorem Inv.stack(I:Inv X pins Z H s):s.heap.FunFrames X.base X.stack:=by
 rcases I.ok.stk with e|⟨e,hf⟩
 .rw[e];exact I.funs
 .rw[e]
  obtain⟨m,a,_⟩:=I.loc;refine .cons (by rw[I.ok.kind];decide) hf a ?_ I.funs
  exact Heap.get?_none_of_le (Ny I.ok.bsz I.ok.above)
theorem Inv.stkSub(I:Inv X pins Z H s):∀b∈g8 X.stack,b∈X.env.locals::X.fs:=λb a=>by
 rcases I.ok.stk with e|⟨e,hf⟩
 .rw[e]at a;exact Nk _ a
 .rw[e]at a
  unfold g8 at a;rw[OW,hf]at a;exact a
theorem Inv.stkFree(I:Inv X pins Z H s):∀b∈g8 X.stack,H b=none:=λb hb=>by
 rcases Nl.mp (I.stkSub b hb) with e|hb
 .rw[e];exact I.free
 .obtain⟨_,o,a,_⟩:=I.ok.funs.mem hb
  exact I.base.free b o a (I.ok.frf b hb) λz=>I.ok.exfs b z hb
theorem Inv.step{g':Array GenState}{t':Nat}{d':Drawn}{ch:List Addr}(I:Inv X pins Z H s)
  (hch:∀b∈ch,(b∈X.ex\/X.s₀.heap.objs.size<=b)/\b≠X.env.locals/\(∀x c,X.env.cells.lookup x=some c->c≠b)/\∀p∈X.pn++pins,p.1≠b)
  (keep:∀b o,b≠X.env.locals->b∉X.fs->b∉ch->s.heap.get? b=some o->H b=none->h'.get? b=some o)
  (slot:∀b o,b≠X.env.locals->b∈X.fs->b∉ch->s.heap.get? b=some o->H b=none->∃sl,h'.get? b=some { o with slots:=sl }) (free:∀b o,b∉ch->s.heap.get? b=some o->H b=none->H' b=none)
  (there:∀b o,b∉ch->s.heap.get? b=some o->∃C,h'.get? b=some C)
  (tups:∀b y,H b=some (.tup y)->H' b=some (.tup y)) (frzs:∀b o u,H b=some (.frz o u)->H' b=some (.frz o u)) (tbls:∀b G,H b=some (.tbl G)->∃more,H' b=some (.tbl (G++more)))
  (ns:∀m,s.heap.Ns X.env.locals m->h'.Ns X.env.locals m) (hok:HOk X.prog X.w H' h') (hg:AllBare g'):
  Inv X pins Z H' { s with heap:=h',gens:=g',drawn:=d',toks:=t' }:=by
 have F:∀b o,X.s₀.heap.get? b=some o->b≠X.env.locals:=λb o e=>Np (Nt (Nc e) I.ok.above);have h:∀b o,X.s₀.heap.get? b=some o->b∉X.ex->b∉ch:=λb o e a A=>by
  rcases (hch b A).1 with z|z
  .exact a z
  .exact absurd (Nt (Nc e) z) (Ou _)
 have g:∀x c,X.env.cells.lookup x=some c->∀v,s.heap.IsCell c v->h'.IsCell c v:=λx c e v ⟨o,B,J⟩=>by
  have f:c∉ch:=λz=>(hch c z).2.2.1 x c e rfl
  by_cases M:c∈X.fs
  .obtain⟨sl,q⟩:=slot c o (I.cne x c e) M f B (I.freeC x c e)
   exact⟨_,q,J⟩
  .exact⟨o,keep c o (I.cne x c e) M f B (I.freeC x c e),J⟩
 refine⟨I.ok,I.os,hg,⟨λb o e n A a=>?_,λb o e n A a=>?_,λb o e n a=>?_,λb o e a=>?_,λb y e=>tups b y (I.base.tups b y e),λb o y e=>frzs b o y (I.base.frzs b o y e),λb G e=>?_⟩,?_,λx c e=>?_,?_,λx c e=>?_,λp N=>?_,hok,I.len⟩
 .exact keep b o (F b o e) A (h b o e a) (I.base.keep b o e n A a) (I.base.free b o e n a)
 .obtain⟨sl,j⟩:=I.base.slot b o e n A a
  obtain⟨K,E⟩:=slot b _ (F b o e) A (h b o e a) j (I.base.free b o e n a);exact⟨K,E⟩
 .obtain⟨C,j⟩:=I.base.there b o e a
  exact free b C (h b o e a) j (I.base.free b o e n a)
 .obtain⟨C,j⟩:=I.base.there b o e a
  exact there b C (h b o e a) j
 .obtain⟨Q,j⟩:=I.base.tbls b G e
  obtain⟨P,E⟩:=tbls b _ j;exact⟨Q++P,by rw[E,QF]⟩
 .obtain⟨m,S,R⟩:=I.loc
  refine⟨m,ns m S,λi x v j E O=>?_⟩;obtain⟨u,r,l⟩:=R i x v j E O;refine⟨u,r,?_⟩;rcases l with l|⟨k,c,e,z⟩
  .exact .inl l
  .exact .inr ⟨k,c,e,g x c e _ z⟩
 .obtain⟨v,z⟩:=I.cell x c e
  exact⟨v,g x c e v z⟩
 .obtain⟨m,⟨o,_,_,B,_⟩,_⟩:=I.loc
  exact free _ o (λz=>(hch _ z).2.1 rfl) B I.free
 .obtain⟨v,o,B,J⟩:=I.cell x c e
  exact free c o (λz=>(hch c z).2.2.1 x c e rfl) B (I.freeC x c e)
 .obtain⟨e,n,ne,L,d⟩:=I.pin p N
  have f:p.1∉ch:=λz=>(hch p.1 z).2.2.2 p N rfl;exact⟨keep p.1 p.2 ne L f e n,free p.1 p.2 f e n,ne,L,d⟩
theorem Inv.un{t':Nat}(I:Inv X pins Z H s)(u:Un X.fs [] H H' s.heap h')(hok:HOk X.prog X.w H' h'):Inv X pins Z H' { s with heap:=h',toks:=t' }:=by
 obtain⟨m,⟨o,l,v,h,r⟩,_⟩:=id I.loc;obtain⟨x,j⟩:=u.any h I.free (by simp)
 exact I.step (g':=s.gens) (d':=s.drawn) (ch:=[]) (λ_ z=>nomatch z) (λb o _ g _ e n=>u.keep b o e n g (by simp)) (λb o _ g _ e n=>u.slot b o e n g (by simp)) (λb o _ e n=>u.free b o e n (by simp)) (λb o _ e=>u.there b o e (by simp)) u.tups u.frzs u.tbls (λp hm=>by
  obtain⟨q,f,c,a,i⟩:=hm;rw[h]at a;cases a;exact⟨_,f,c,j,i⟩) hok I.bare
theorem Inv.call{g':Array GenState}{t':Nat}{d':Drawn}{ch:List Addr}(I:Inv X pins Z H s)(u:Un (g8 X.stack) ch H H' s.heap h')(hok:HOk X.prog X.w H' h')(hg:AllBare g')
  (hch:∀b∈ch,(b∈X.ex\/X.s₀.heap.objs.size<=b)/\b≠X.env.locals/\(∀x c,X.env.cells.lookup x=some c->c≠b)/\∀p∈X.pn++pins,p.1≠b):
  Inv X pins Z H' { s with heap:=h',gens:=g',drawn:=d',toks:=t' }:=by
 obtain⟨m,⟨o,v,B,j,r⟩,_⟩:=id I.loc;obtain⟨C,i⟩:=u.any j I.free λz=>(hch _ z).2.1 rfl;exact I.step (ch:=ch) hch (λb o i q a e n=>u.keep b o e n (λz=>(Nl.mp<|I.stkSub b z).elim i q) a) (λb o _ _ a e n=>u.any e n a) (λb o a e n=>u.free b o e n a) (λb o a e=>u.there b o e a) u.tups u.frzs u.tbls (λy hm=>by
  obtain⟨A,h,g,f,l⟩:=hm;rw[j]at f;cases f;exact⟨_,h,g,i,l⟩) hok hg
theorem Inv.turned{t':Nat}{it:Addr}(I:Inv X pins Z H s)(k:∀b o,b≠it->s.heap.get? b=some o->h'.get? b=some o)(hn:H it=none)(hL:it≠X.env.locals)
  (h1:it∈X.ex\/X.s₀.heap.objs.size<=it) (h2:∀x c,X.env.cells.lookup x=some c->c≠it) (h3:∀p∈X.pn++pins,p.1≠it):Inv X pins Z H { s with heap:=h',toks:=t' }:=by
 have f:∀b u,H b=some u->b≠it:=λb u e z=>by rw[z,hn]at e;cases e
 refine I.step (g':=s.gens) (d':=s.drawn) (ch:=[it]) (λb j=>?_) (λb o _ _ a e _=>k b o (λz=>a (by simp[z])) e) (λb o _ _ a e _=>⟨o.slots,k b o (λz=>a (by simp[z])) e⟩) (λ_ _ _ _ n=>n)
  (λb o a e=>⟨o,k b o (λz=>a (by simp[z])) e⟩) (λ_ _ e=>e) (λ_ _ _ e=>e) (λb l e=>⟨#[],by rw[e];simp⟩) (λm hm=>?_) (λb u e=>?_) I.bare
 .have e:b=it:=by simpa using j
  subst e;exact⟨h1,hL,h2,h3⟩
 .obtain⟨o,g,h,i,r⟩:=hm
  exact⟨o,g,h,k _ o (N8 hL) i,r⟩
 .refine (I.hok b u e).stay (λc v a q=>k c v ?_ q) (λ_ q=>q) λ_ _ q=>q
  rcases a with z|z
  .rw[z];exact f b u e
  .exact f c _ z
theorem Inv.tok(I:Inv X pins Z H s)(t:Nat):Inv X pins Z H { s with toks:=t }:=I.un (h':=s.heap) (t':=t) Un.refl I.hok
theorem Inv.kept{t':Nat}(I:Inv X pins Z H s)(k:∀b u,s.heap.get? b=some u->h'.get? b=some u):Inv X pins Z H { s with heap:=h',toks:=t' }:=I.un (Un.kept k) (I.hok.kept k)
theorem Inv.laid{a:Addr}{o:HO}{t':Nat}(I:Inv X pins Z H s)(k:∀b u,s.heap.get? b=some u->h'.get? b=some u)(hp:s.heap.objs.size<=a)(new:ObjOk X.prog X.w (upd H a o) h' a o):
  Inv X pins Z (upd H a o) { s with heap:=h',toks:=t' }:=I.un (Un.laid k hp<|I.hok.fresh hp) (I.hok.laid k hp new)
theorem Inv.write{x e:Addr}{o:HO}{t':Nat}(I:Inv X pins Z H s)(mu:Mi (H x))(he:e=x\/H e=some (.own x))(k:∀b u,b≠e->s.heap.get? b=some u->h'.get? b=some u)(heo:∃u,h'.get? e=some u)
  (new:ObjOk X.prog X.w (upd H x o) h' x o):Inv X pins Z (upd H x o) { s with heap:=h',toks:=t' }:=I.un (Un.write mu he k heo) (I.hok.write mu he k heo new)
theorem Inv.pins_of{pins':List (Addr×Obj)}(I:Inv X pins Z H s)(h:∀p∈pins',s.heap.get? p.1=some p.2/\H p.1=none/\p.1≠X.env.locals/\p.1∉X.fs/\∀v,p.2.data≠.cell v):Inv X pins' Z H s:=
 ⟨I.ok,I.os,I.bare,I.base,I.loc,I.cell,I.free,I.freeC,λp a=>(Nx.mp a).elim (λz=>I.pin p (Pd _ z)) (h p),I.hok,I.len⟩
theorem qE{N:List Str}(hN:N.Nodup){i j:Nat}{x:Str}(a:N[i]?=some x)(b:N[j]?=some x):i=j:=by
 obtain⟨f,e⟩:=OA.mp a;obtain⟨g,c⟩:=OA.mp b;exact(List.getElem_inj hN).mp (e.trans c.symm)
theorem nH{M:Model}{A:Around}{E:Value->Shared->Prop}{i:Nat}{x:Str}{v:V}{u:Value}{Q:Unit->Shared->Prop}(I:Inv X pins Z H s)(hN:X.N.Nodup)(hi:X.N[i]?=some x)(hx:zG X.env.scope x)(r:RelV v u)
  (h:∀s',Inv X pins (Z.set i<|some v) H s'->(∃a,Pf a s.heap s'.heap/\(a=X.env.locals\/X.env.cells.lookup x=some a))->Q () s') (hf:X.fn x=true\/X.env.scope.names.lookup x=some .local:=by first|exact .inl rfl|exact .inr rfl|assumption):wpAny M A (storeName X.env x u) Q E s:=by
 obtain⟨m,hn,hl⟩:=id I.loc;have R:(X.env.scope.kind==.class||(X.env.scope.kind==.module&&X.env.locals != X.env.globals))=false:=by rw[I.ok.kind];rfl
 have F:i<Z.length:=by rw[I.len];exact(OA.mp hi).1
 have cne:=I.cne;have g:∀{a:Addr} {h':Heap},(∃o,s.heap.get? a=some o/\H a=none)->Pf a s.heap h'->HOk X.prog X.w H h':=λ{a h'} ha f b ob e=>by
  obtain⟨_,_,B⟩:=ha;refine (I.hok b ob e).stay (λc U hc q=>(f.2 c ?_).trans q) (λ_ q=>q) λ_ _ q=>q
  rintro rfl
  rcases hc with rfl|hc
  .rw[B]at e;cases e
  .rw[B]at hc;cases hc
 rcases hx with hk|hk
 .refine wpAny_storeName_local hk hn (λh' hn' f=>?_) R
  obtain⟨oL,_,_,hoL,_⟩:=id hn;refine h _ ⟨I.ok,I.os,I.bare,⟨λb o e n K hx=>?_,λb o e n K hx=>?_,I.base.free,λb o e hx=>?_,I.base.tups,I.base.frzs,I.base.tbls⟩,⟨_,hn',λj y v' l C e3=>?_⟩,λy c e=>?_,I.free,I.freeC,λp hp=>?_,g ⟨oL,hoL,I.free⟩ f,by simpa using I.len⟩ ⟨_,f,.inl rfl⟩
  .exact(f.2 b<|Np<|Nt (Nc e) I.ok.above).trans (I.base.keep b o e n K hx)
  .obtain⟨sl,l⟩:=I.base.slot b o e n K hx
   exact⟨sl,(f.2 b<|Np<|Nt (Nc e) I.ok.above).trans l⟩
  .obtain⟨Y,l⟩:=I.base.there b o e hx
   exact⟨Y,(f.2 b<|Np<|Nt (Nc e) I.ok.above).trans l⟩
  .by_cases J:j=i
   .subst J
    rw[hi]at l;cases l;rw[RQ F]at C;cases C;exact⟨u,r,.inl ⟨hk,by simp⟩⟩
   .rw[Se (N8 J)]at C
    obtain⟨u',r',q⟩:=hl j y v' l C e3;refine⟨u',r',?_⟩;rcases q with⟨k,e⟩|⟨k,c,e,z⟩
    .refine .inl ⟨k,?_⟩
     have:y≠x:=λe=>J (qE hN l (e▸hi));simp[this,e]
    .exact .inr ⟨k,c,e,z.sameBut f<|cne y c e⟩
  .obtain⟨U,z⟩:=I.cell y c e
   exact⟨U,z.sameBut f<|cne y c e⟩
  .obtain⟨e,n,ne,W,d⟩:=I.pin p hp
   exact⟨(f.2 p.1 ne).trans e,n,ne,W,d⟩
 .have G:X.fn x=true:=by
   rcases hf with z|z
   .exact z
   .rw[z]at hk;cases hk
  obtain⟨c,hc⟩:=I.ok.has x (.inl hk);obtain⟨U,z⟩:=I.cell x c hc;refine wpAny_storeName_cell I.ok.kind hk hc z (λh' P f=>?_);obtain⟨oc,O,S⟩:=id z;refine h { s with heap:=h' } ⟨I.ok,I.os,I.bare,⟨λb o e n K hx=>?_,λb o e n K hx=>?_,I.base.free,λb o e hx=>?_,I.base.tups,I.base.frzs,I.base.tbls⟩,⟨m,hn.sameBut f (N8<|cne x c hc),λj y v' l C e3=>?_⟩,λy T e=>?_,I.free,I.freeC,λp hp=>?_,g ⟨oc,O,I.freeC x c hc⟩ f,by simpa using I.len⟩ ⟨c,f,.inr hc⟩
  .exact(f.2 b<|Np<|Nt (Nc e)<|I.ok.cab x c G hc).trans (I.base.keep b o e n K hx)
  .obtain⟨sl,l⟩:=I.base.slot b o e n K hx
   exact⟨sl,(f.2 b<|Np<|Nt (Nc e)<|I.ok.cab x c G hc).trans l⟩
  .obtain⟨Y,l⟩:=I.base.there b o e hx
   exact⟨Y,(f.2 b<|Np<|Nt (Nc e)<|I.ok.cab x c G hc).trans l⟩
  .by_cases J:j=i
   .subst J
    rw[hi]at l;cases l;rw[RQ F]at C;cases C;exact⟨u,r,.inr ⟨.inl hk,c,hc,P⟩⟩
   .rw[Se (N8 J)]at C
    obtain⟨u',r',q⟩:=hl j y v' l C e3;refine⟨u',r',?_⟩;rcases q with q|⟨k,T,e,z'⟩
    .exact .inl q
    .refine .inr ⟨k,T,e,z'.sameBut f ?_⟩
     rintro rfl
     exact J (qE hN l (I.ok.inj _ _ _ e hc▸hi))
  .by_cases L:T=c
   .subst L;exact⟨_,P⟩
   .obtain⟨w2,z2⟩:=I.cell y T e
    exact⟨w2,z2.sameBut f L⟩
  .obtain⟨e,n,ne,W,d⟩:=I.pin p hp
   refine⟨(f.2 p.1 ?_).trans e,n,ne,W,d⟩;intro q;rw[q,O]at e;have q':oc=p.2:=NZ e;exact d U (by rw[<- q'];exact S)
theorem lA{M:Model}{A:Around}{E:Value->Shared->Prop}{i:Nat}{x:Str}{v:V}{u:Value}{Q:Unit->Shared->Prop}(I:Inv X pins Z H s)(hN:X.N.Nodup)(hi:X.N[i]?=some x)(hx:zG X.env.scope x)(r:RelV v u)
  (h:∀s',Inv X pins (Z.set i<|some v) H s'->Q () s') (hf:X.fn x=true\/X.env.scope.names.lookup x=some .local:=by first|exact .inl rfl|exact .inr rfl|assumption):wpAny M A (storeName X.env x u) Q E s:=
 nH I hN hi hx r (λs' I' _=>h s' I') hf
theorem Inv.call'{s':Shared}{ch:List Addr}(I:Inv X pins Z H s)(ho:s'.os=s.os)(u:Un (g8 X.stack) ch H H' s.heap s'.heap)(hok:HOk X.prog X.w H' s'.heap)(hg:AllBare s'.gens)
  (hch:∀b∈ch,(b∈X.ex\/X.s₀.heap.objs.size<=b)/\b≠X.env.locals/\(∀x c,X.env.cells.lookup x=some c->c≠b)/\∀p∈X.pn++pins,p.1≠b):Inv X pins Z H' s':=by
 obtain⟨h',g',d',t',a⟩:=s';have e:a=s.os:=ho;subst e;exact I.call (g':=g') (t':=t') (d':=d') u hok hg hch
end
abbrev XK:=Value->Option Addr->Hp->Prop
abbrev St:=List (Option V)
abbrev VK:=V->Hp->Prop
abbrev TE:=St->Hp->VK->Prop
abbrev TT:=St->Hp->(Bool->Hp->Prop)->Prop
abbrev TA:=St->Hp->(List V->Hp->Prop)->Prop
structure Ends where
 nx:St->Hp->Prop
 rt:VK
 bk:St->Hp->Prop:=λ_ _=>False
 ct:St->Hp->Prop:=λ_ _=>False
abbrev TS:=Ends->St->Hp->Prop
inductive EP(X:Cx)(pins:List (Addr×Obj))(Z:St)(Q:VK)(u:Value)(s':Shared):Prop
 |mk (v:V) (H':Hp) (h0:Inv X pins Z H' s') (h1:RelV v u) (h2:Q v H'):EP X pins Z Q u s'
inductive TP(X:Cx)(pins:List (Addr×Obj))(Z:St)(Q:Bool->Hp->Prop)(b:Bool)(s':Shared):Prop
 |mk (H':Hp) (h0:Inv X pins Z H' s') (h1:Q b H'):TP X pins Z Q b s'
inductive AP(X:Cx)(pins:List (Addr×Obj))(Z:St)(Q:List V->Hp->Prop)(us:List Value)(s':Shared):Prop
 |mk (vs:List V) (H':Hp) (h0:Inv X pins Z H' s') (h1:Vals vs us) (h2:Q vs H'):AP X pins Z Q us s'
def SP(X:Cx)(pins:List (Addr×Obj))(D:Ends)(f:Flow)(s':Shared):Prop:=
 match f with
 |.next=>∃σ' H',Inv X pins σ' H' s'/\D.nx σ' H'
 |.brk=>∃σ' H',Inv X pins σ' H' s'/\D.bk σ' H'
 |.cont=>∃σ' H',Inv X pins σ' H' s'/\D.ct σ' H'
 |.ret u=>∃v σ' H',Inv X pins σ' H' s'/\RelV v u/\D.rt v H'
def PE(X:Cx)(e:Expr)(t:TE):Prop:=
 ∀(pins:List (Addr×Obj)) (s:Shared) (Z:St) (H:Hp) (Q:VK),Inv X pins Z H s->t Z H Q->wpAny (model X.prog X.w) X.A (eval e X.env) (EP X pins Z Q) X.xe s
def PT(X:Cx)(e:Expr)(t:TT):Prop:=
 ∀(pins:List (Addr×Obj)) (s:Shared) (Z:St) (H:Hp) (Q:Bool->Hp->Prop),Inv X pins Z H s->t Z H Q->wpAny (model X.prog X.w) X.A (isTrue e X.env<|eval e X.env) (TP X pins Z Q) X.xe s
def PW(X:Cx)(e:Expr)(t:TT):Prop:=
 ∀(whole:Sem Value) (pins:List (Addr×Obj)) (s:Shared) (Z:St) (H:Hp) (Q:Bool->Hp->Prop),Inv X pins Z H s->t Z H Q->wpAny (model X.prog X.w) X.A (isTrue e X.env whole) (TP X pins Z Q) X.xe s
theorem MQ{X:Cx}{e:Expr}{t:TT}(h:PW X e t):PT X e t:=h _
def PA(X:Cx)(es:List Expr)(t:TA):Prop:=
 ∀(pos:Pos) (pins:List (Addr×Obj)) (s:Shared) (Z:St) (H:Hp) (Q:List V->Hp->Prop),Inv X pins Z H s->t Z H Q->wpAny (model X.prog X.w) X.A (spliced<|backTo pos<|starEach es X.env) (AP X pins Z Q) X.xe s
def PS(X:Cx)(st:Stmt)(t:TS):Prop:=
 ∀(pins:List (Addr×Obj)) (s:Shared) (Z:St) (H:Hp) (D:Ends),Inv X pins Z H s->t D Z H->wpAny (model X.prog X.w) X.A (exec st X.env) (SP X pins D) X.xe s
def wo(X:Cx)(st:List Stmt)(t:TS):Prop:=
 ∀(pins:List (Addr×Obj)) (s:Shared) (Z:St) (H:Hp) (D:Ends),Inv X pins Z H s->t D Z H->wpAny (model X.prog X.w) X.A (execs st X.env) (SP X pins D) X.xe s
theorem bF{α:Type}{t:Sem α}{Q Q':α->Shared->Prop}{M:Model}{A:Around}{E:Value->Shared->Prop}{s:Shared}(h:wpAny M A t Q E s)(hQ:∀a s,Q a s->Q' a s):wpAny M A t Q' E s:=wpAny_mono h hQ λ_ _ x=>x
section
variable {X:Cx}
def tVar(i:Nat):TE:=λZ H Q=>∃v,Z[i]?=some (some v)/\Q v H
def tC(v:V):TE:=λ_ H Q=>Q v H
theorem Ia{i:Nat}{x:Str}{pos:Pos}(hN:X.N[i]?=some x)(hv:Kd X.env.scope x)(hd:(x==("__debug__":Str))=false:=by decide)(hcd:(x==("__classdict__":Str))=false:=by decide):PE X (.Name x pos) (tVar i):=by
 intro a s Z H Q I h;obtain⟨v,e,h⟩:=h;obtain⟨m,f,b⟩:=I.loc;obtain⟨u,r,l⟩:=b i x v hN e hv;have fin:EP X a Z Q u s:=⟨v,H,I,r,h⟩;rcases l with⟨hk,hm⟩|⟨hk,c,hc,hcell⟩
 .exact wpAny_Name (wpAny_loadName_local I.ok.kind hk f hm fin) hd
 .rcases hk with hk|hk
  .exact wpAny_Name (wpAny_loadName_cell I.ok.kind hk hc hcell fin) hd
  .exact wpAny_Name (wpAny_loadName_free I.ok.kind hk hc hcell fin hcd) hd
theorem JU{i j pos}:PE X (.Constant (.int i) j pos) (tC<|.int i):=λ_ _ _ H _ I h=>wpAny_Constant_int ⟨.int i,H,I.tok _,⟨_,rfl⟩,h⟩
theorem LJ{b j pos}:PE X (.Constant (.bool b) j pos) (tC<|.bl b):=λ_ _ _ H _ I h=>Constant_bool ⟨.bl b,H,I,rfl,h⟩
theorem GY{j pos}:PE X (.Constant .none j pos) (tC .non):=λ_ _ _ H _ I h=>Constant_none ⟨.non,H,I,rfl,h⟩
theorem tq{x j pos}:PE X (.Constant (.str x) j pos) (tC<|.str x):=λ_ _ _ H _ I h=>Calls.Constant_str ⟨.str x,H,I.tok _,⟨_,rfl⟩,h⟩
def Gl(X:Cx)(x:Str):Prop:=X.env.kindOf x=some .globalImplicit
theorem gM{E:Value->Shared->Prop}{pins:List (Addr×Obj)}{s:Shared}{Z:St}{H:Hp}{x:Str}{u:Value}{pos:Pos}{Q:Value->Shared->Prop}(I:Inv X pins Z H s)(hg:Gl X x)(hm:X.mg x=some u)(h:Q u s)
  (hd:(x==("__debug__":Str))=false:=by decide):wpAny (model X.prog X.w) X.A (eval (.Name x pos) X.env) Q E s:=
 Rj I.ok.kind hg (Calls.loadGlobal_global (by rw[I.ok.glob];exact I.mod.glob.keeps I.bk) hm h) hd
theorem dS{E:Value->Shared->Prop}{pins:List (Addr×Obj)}{s:Shared}{Z:St}{H:Hp}{x:Str}{u:Value}{pos:Pos}{Q:Value->Shared->Prop}(I:Inv X pins Z H s)(hg:Gl X x)(hm:X.mg x=none)(hv:bootBuiltins x=some u)(h:Q u s)
  (hn:x≠"__name__":=by decide) (hd:(x==("__debug__":Str))=false:=by decide):wpAny (model X.prog X.w) X.A (eval (.Name x pos) X.env) Q E s:=by
 obtain⟨c,a,b⟩:=I.mod.blt;exact Rj I.ok.kind hg (Calls.loadGlobal_builtin (by rw[I.ok.glob];exact I.mod.glob.keeps I.bk) hm (by rw[I.ok.blt];exact a.keeps I.bk) ((b x hn).trans hv) h) hd
theorem F4{x:Str}{v:V}{u:Value}{pos:Pos}(hg:Gl X x)(hm:X.mg x=none)(hv:bootBuiltins x=some u)(r:RelV v u)(hn:x≠"__name__":=by decide)(hd:(x==("__debug__":Str))=false:=by decide):PE X (.Name x pos) (tC v):=
 λ_ _ _ H _ I h=>dS I hg hm hv ⟨v,H,I,r,h⟩ hn hd
variable {a b:Expr}{ta tb:TE}{pos:Pos}
variable {tA tB':TT}{rest:List Expr}
def tAnd(t u:TT):TT:=λZ H Q=>t Z H λc H1=>if c=true then u Z H1 Q else Q false H1
def tOr(t u:TT):TT:=λZ H Q=>t Z H λc H1=>if c=true then Q true H1 else u Z H1 Q
def tNot(t:TT):TT:=λZ H Q=>t Z H λc H1=>Q (!c) H1
theorem DC(ha:PT X a tA):PW X (.BoolOp .And [a] pos) tA:=by
 intro i f s Z H Q I h;refine isTrue_and (bF (ha f s Z H Q I h) λc g e=>?_);cases c with
 |true=>exact isTrue_and_nil e
 |false=>exact e
theorem Jo(ha:PT X a tA):PW X (.BoolOp .Or [a] pos) tA:=by
 intro i f s Z H Q I h;refine isTrue_or (bF (ha f s Z H Q I h) λc g e=>?_);cases c with
 |false=>exact isTrue_or_nil e
 |true=>exact e
theorem JS(ha:PT X a tA)(hb:PW X (.BoolOp .And (b::rest) pos) tB'):PW X (.BoolOp .And (a::b::rest) pos) (tAnd tA tB'):=by
 intro i e s Z H Q I h;refine isTrue_and (bF (ha e s Z H _ I h) λc g ⟨H1,I1,f⟩=>?_);cases c with
 |true=>exact hb i e g Z H1 Q I1 f
 |false=>exact⟨H1,I1,f⟩
theorem Mv(ha:PT X a tA)(hb:PW X (.BoolOp .Or (b::rest) pos) tB'):PW X (.BoolOp .Or (a::b::rest) pos) (tOr tA tB'):=by
 intro i e s Z H Q I h;refine isTrue_or (bF (ha e s Z H _ I h) λc g ⟨H1,I1,f⟩=>?_);cases c with
 |true=>exact⟨H1,I1,f⟩
 |false=>exact hb i e g Z H1 Q I1 f
theorem Ig(ha:PT X a tA):PT X (.UnaryOp .Not a pos) (tNot tA):=by
 intro f s Z H Q I h;exact isTrue_not (wpAny_mono (ha f s Z H (λc H1=>Q (!c) H1) I h) (λc g z=>by cases z with|mk a b d=>exact⟨a,b,d⟩) λ_ _ e=>e)
def L6(ta tb:TE):TE:=λZ H Q=>ta Z H λx H1=>∃c,x=.bl c/\if c=true then tb Z H1 Q else Q (.bl false) H1
theorem I0{op}{t:TE}(h:PE X a t):PE X (.BoolOp op [a] pos) t:=λc s Z H Q I e=>BoolOp_one (h c s Z H Q I e)
theorem H_(ha:PE X a ta)(hb:PE X (.BoolOp .And (b::rest) pos) tb):PE X (.BoolOp .And (a::b::rest) pos) (L6 ta tb):=by
 intro e s Z H Q I h;refine BoolOp_and (bF (ha e s Z H _ I h) λv g ⟨x,H1,I1,i,f⟩=>?_);obtain⟨c,rfl,f⟩:=f;cases i;refine wpAny_truthy_bool ?_;cases c with
 |true=>exact hb e g Z H1 Q I1 f
 |false=>exact⟨.bl false,H1,I1,rfl,f⟩
def tIf(t:TT)(ta tb:TE):TE:=λZ H Q=>t Z H λc H1=>if c=true then ta Z H1 Q else tb Z H1 Q
theorem BX{c:Expr}(hc:PT X c tA)(ha:PE X a ta)(hb:PE X b tb):PE X (.IfExp c a b pos) (tIf tA ta tb):=by
 intro e s Z H Q I h;refine wpAny_IfExp (bF (hc e s Z H _ I h) λd f ⟨H1,I1,g⟩=>?_);cases d with
 |true=>exact ha e f Z H1 Q I1 g
 |false=>exact hb e f Z H1 Q I1 g
end
def SqL(K:Ng)(H:Hp)(a:Addr)(xs:List V):Prop:=
 Rd H a (.lst xs)\/
  ∃(o:Obj) (its:Array Value) (n:Nat),K.lookup a=some o/\o.cls=.type "list"/\o.dict=none/\o.data=.seq its n/\its.size<=sizeLine/\Vals xs its.toList
def iE(K:Ng)(H:Hp)(a:Addr)(xs:List V):Prop:=
 Rd H a (.tup xs)\/
  ∃(o:Obj) (its:Array Value) (n:Nat),K.lookup a=some o/\o.cls=.type "tuple"/\o.data=.seq its n/\its.size<=sizeLine/\Vals xs its.toList
def absV:Value->Option V
 |.none=>some .non
 |.bool b=>some (.bl b)
 |.int i _=>some (.int i)
 |.str x _=>some (.str x)
 |.bytes b _=>some (.byt b)
 |.float b _=>some (.flt b)
 |.ref a=>some (.ref a)
 |.type n=>some (.ty n)
 |_=>none
theorem RelV.abs{x:V}{u:Value}(r:RelV x u):absV u=some x:=by
 cases x with
 |non=>cases r;rfl
 |bl _=>cases r;rfl
 |int _=>obtain⟨t,rfl⟩:=r;rfl
 |str _=>obtain⟨t,rfl⟩:=r;rfl
 |byt _=>obtain⟨t,rfl⟩:=r;rfl
 |flt _=>obtain⟨t,rfl⟩:=r;rfl
 |ref _=>cases r;rfl
 |ty _=>cases r;rfl
theorem RelV.inj{x y:V}{u:Value}(r:RelV x u)(q:RelV y u):x=y:=NZ (r.abs.symm.trans q.abs)
theorem Vals.inj:∀{xs ys:List V} {us:List Value},Vals xs us->Vals ys us->xs=ys
 |_,_,_,.nil,.nil=>rfl
 |_,_,_,.cons r t,.cons r' t'=>by rw[r.inj r',Vals.inj t t']
section
variable {X:Cx}{pins:List (Addr×Obj)}{Z:St}{H:Hp}{s:Shared}{a:Addr}{xs ys:List V}
theorem iV{K:Ng}(h:H a=some (.lst xs)):SqL K H a xs:=.inl (.inl h)
theorem Inv.list(I:Inv X pins Z H s)(h:SqL X.K H a xs):∃its:List Value,Vals xs its/\PlainL s.heap a its.toArray/\xs.length<=sizeLine:=by
 rcases h with h|⟨o,its,n,hk,hc,hd,hs,hz,r⟩
 .obtain⟨z,its,n,r,e⟩:=h.ok I.hok
  exact⟨its,r,⟨_,n,e,rfl,rfl,rfl⟩,z⟩
 .refine⟨its.toList,r,⟨o,n,I.kIn a o hk,hc,hd,by simpa using hs⟩,?_⟩
  have e:=r.length;simp only[Pm]at e;lia
theorem Inv.tuple(I:Inv X pins Z H s)(h:iE X.K H a xs):∃its:List Value,Vals xs its/\IsTup s.heap a its.toArray/\xs.length<=sizeLine:=by
 rcases h with h|⟨o,its,n,hk,hc,hs,hz,r⟩
 .obtain⟨z,its,r,b,e,c,_⟩:=h.ok I.hok
  exact⟨its,r,⟨b,e,c⟩,z⟩
 .refine⟨its.toList,r,⟨o,I.kIn a o hk,hc,n,by simpa using hs⟩,?_⟩
  have e:=r.length;simp only[Pm]at e;lia
theorem Inv.list_inj(I:Inv X pins Z H s)(h:SqL X.K H a xs)(h':SqL X.K H a ys):xs=ys:=by
 obtain⟨c,r,⟨o,n,e,_,_,d⟩,_⟩:=I.list h;obtain⟨b,i,⟨l,j,g,_,_,f⟩,_⟩:=I.list h';rw[e]at g;cases g;rw[d]at f
 injection f with d1 _
 have:c=b:=by simpa using congrArg PY d1
 subst this;exact r.inj i
theorem Inv.tuple_inj(I:Inv X pins Z H s)(h:iE X.K H a xs)(h':iE X.K H a ys):xs=ys:=by
 obtain⟨c,r,⟨o,e,_,n,d⟩,_⟩:=I.tuple h;obtain⟨b,i,⟨l,g,_,j,f⟩,_⟩:=I.tuple h';rw[e]at g;cases g;rw[d]at f
 injection f with d1 _
 have:c=b:=by simpa using congrArg PY d1
 subst this;exact r.inj i
end
abbrev Cx.wish(X:Cx)(E:Value->Shared->Prop):Cx:={ X with xe:=E }
abbrev Cx.nox(X:Cx):Cx:=X.wish λ_ _=>False
theorem Cx.Ok.wish{X:Cx}(ok:X.Ok)(E:Value->Shared->Prop):(X.wish E).Ok:=
 ⟨ok.mod,ok.kind,ok.glob,ok.blt,ok.above,ok.inj,ok.has,ok.cab,ok.hd,ok.frames,ok.stk,ok.exf,ok.bs,ok.bsz,ok.noex,ok.exfs,ok.funs,ok.frf⟩
theorem Cx.Ok.unwish{X:Cx}{E:Value->Shared->Prop}(ok:(X.wish E).Ok):X.Ok:=
 ⟨ok.mod,ok.kind,ok.glob,ok.blt,ok.above,ok.inj,ok.has,ok.cab,ok.hd,ok.frames,ok.stk,ok.exf,ok.bs,ok.bsz,ok.noex,ok.exfs,ok.funs,ok.frf⟩
section
variable {X:Cx}{pins:List (Addr×Obj)}{Z:St}{H:Hp}{s:Shared}{E:Value->Shared->Prop}
theorem Inv.wish(I:Inv X pins Z H s)(E:Value->Shared->Prop):Inv (X.wish E) pins Z H s:=⟨I.ok.wish E,I.os,I.bare,I.base,I.loc,I.cell,I.free,I.freeC,I.pin,I.hok,I.len⟩
theorem Inv.unwish(I:Inv (X.wish E) pins Z H s):Inv X pins Z H s:=⟨I.ok.unwish,I.os,I.bare,I.base,I.loc,I.cell,I.free,I.freeC,I.pin,I.hok,I.len⟩
end
section
variable {X:Cx}{st:Stmt}{rest:List Stmt}{t u:TS}{e:Expr}{te:TE}{pos:Pos}
def Ms:TS:=λD Z H=>D.nx Z H
def tSeq(t u:TS):TS:=λD Z H=>t { D with nx:=u D } Z H
theorem De:wo X [] Ms:=λ_ _ Z H _ I h=>wpAny_execs_nil ⟨Z,H,I,h⟩
theorem Cw(h1:PS X st t)(h2:wo X rest u):wo X (st::rest) (tSeq t u):=by
 intro a s Z H D I h;refine wpAny_execs_cons (bF (h1 a s Z H { D with nx:=u D } I h) λf c q=>?_);cases f with
 |next=>
  obtain⟨b,H',I',q⟩:=q;exact h2 a c b H' D I' q
 |ret v=>exact q
 |brk=>exact q
 |cont=>exact q
theorem Fq(h1:PS X st t):wo X [st] t:=by
 intro a s Z H D I h;refine wpAny_execs_cons (bF (h1 a s Z H D I h) λf b q=>?_);cases f with
 |next=>exact wpAny_execs_nil q
 |ret v=>exact q
 |brk=>exact q
 |cont=>exact q
theorem Inv.quiet{pins:List (Addr×Obj)}{Z:St}{H:Hp}{s:Shared}(I:Inv X pins Z H s):interactive X.env=false:=by simp[interactive,I.ok.kind]
def Mz(te:TE):TS:=λD Z H=>te Z H λ_ H1=>D.nx Z H1
theorem Du(he:PE X e te)(hs:swapsWith e none pos.line X.env=pure false:=by rfl):PS X (.Expr e pos) (Mz te):=by
 intro a s Z H D I h;exact wpAny_Expr_any (bF (he a s Z H _ I h) λv c ⟨x,H1,I1,f,b⟩=>⟨Z,H1,I1,b⟩) I.quiet hs
def tRet(te:TE):TS:=λD Z H=>te Z H D.rt
theorem Hi(he:PE X e te):PS X (.Return (some e) pos) (tRet te):=by
 intro a s Z H D I h;exact wpAny_Return_some (bF (he a s Z H _ I h) λv f ⟨x,H1,I1,b,c⟩=>⟨x,Z,H1,I1,b,c⟩)
def tIfS(c:TT)(t u:TS):TS:=λD Z H=>c Z H λb H1=>if b=true then t D Z H1 else u D Z H1
theorem K_{c:Expr}{a b:List Stmt}{tc:TT}(hc:PT X c tc)(ha:wo X a t)(hb:wo X b u):PS X (.If c a b pos) (tIfS tc t u):=by
 intro f s Z H D I h;refine wpAny_If (bF (hc f s Z H _ I h) λd g ⟨H1,I1,i⟩=>?_);cases d with
 |true=>exact ha f g Z H1 D I1 i
 |false=>exact hb f g Z H1 D I1 i
end
abbrev TG:=V->St->Hp->(St->Hp->Prop)->Prop
abbrev GA:=List V->St->Hp->(St->Hp->Prop)->Prop
def PG(X:Cx)(target:Expr)(t:TG):Prop:=
 ∀(pins:List (Addr×Obj)) (s:Shared) (Z:St) (H:Hp) (v:V) (u:Value) (Q:St->Hp->Prop),Inv X pins Z H s->RelV v u->t v Z H Q->
  wpAny (model X.prog X.w) X.A (assign target X.env u) (λ_ a=>∃σ' H',Inv X pins σ' H' a/\Q σ' H') X.xe s
def JK(X:Cx)(ts:List Expr)(t:GA):Prop:=
 ∀(pins:List (Addr×Obj)) (s:Shared) (Z:St) (H:Hp) (vs:List V) (us:List Value) (Q:St->Hp->Prop),Inv X pins Z H s->Vals vs us->t vs Z H Q->
  wpAny (model X.prog X.w) X.A (assignInOrder ((assignEach ts X.env).map (·.2)) us) (λ_ a=>∃σ' H',Inv X pins σ' H' a/\Q σ' H') X.xe s
abbrev Hl:=V->V->V->Hp->(Hp->Prop)->Prop
def Hz(X:Cx)(t:Hl):Prop:=
 ∀(pins:List (Addr×Obj)) (s:Shared) (Z:St) (H:Hp) (o i v:V) (ov iv u:Value) (Q:Hp->Prop),Inv X pins Z H s->RelV o ov->RelV i iv->RelV v u->t o i v H Q->
  wpAny (model X.prog X.w) X.A (setItem ov iv u) (λ_ a=>∃H',Inv X pins Z H' a/\Q H') X.xe s
abbrev TIp:=V->V->Hp->VK->Prop
def Jy(X:Cx)(op:Operator)(t:TIp):Prop:=
 ∀(pins:List (Addr×Obj)) (s:Shared) (Z:St) (H:Hp) (x y:V) (v u:Value) (Q:VK),Inv X pins Z H s->RelV x v->RelV y u->t x y H Q->
  wpAny (model X.prog X.w) X.A (inplaceOp op v u) (EP X pins Z Q) X.xe s
section
variable {X:Cx}{pos:Pos}
def Gs(i:Nat):TG:=λv Z H Q=>Q (Z.set i<|some v) H
theorem Ef{i:Nat}{x:Str}(hN:X.N.Nodup)(hi:X.N[i]?=some x)(hx:zG X.env.scope x)(hf:X.fn x=true\/X.env.scope.names.lookup x=some .local:=by first|exact .inl rfl|exact .inr rfl|assumption):PG X (.Name x pos) (Gs i):=by
 intro a s Z H v u Q I r h;exact wpAny_assign_Name (lA I hN hi hx r (λb I'=>⟨_,H,I',h⟩) hf)
def gNil:GA:=λa Z H Q=>a=[]/\Q Z H
def LV(t:TG)(u:GA):GA:=λb Z H Q=>∃v r,b=v::r/\t v Z H λa H'=>u r a H' Q
theorem E1:JK X [] gNil:=by
 intro a s Z H c b Q I r h;obtain⟨e,h⟩:=h;subst e;cases r;exact assignInOrder_nil ⟨Z,H,I,h⟩
theorem AK{e:Expr}{es:List Expr}{t:TG}{u:GA}(h1:PG X e t)(h2:JK X es u)
  (hs:(assignEach (e::es) X.env).map (·.2)=assign e X.env::(assignEach es X.env).map (·.2):=by rfl):JK X (e::es) (LV t u):=by
 intro a s Z H j i Q I r h;obtain⟨v,l,f,h⟩:=h;subst f;cases r with
 |cons r rr=>
  rw[hs];refine assignInOrder_cons (bF (h1 a s Z H _ _ _ I r h) λ_ c ⟨b,H1,I1,g⟩=>?_);exact h2 a c b H1 _ _ Q I1 rr g
def gTup(K:Ng)(n:Nat)(t:GA):TG:=λv Z H Q=>∃a xs,v=.ref a/\iE K H a xs/\xs.length=n/\t xs Z H Q
theorem HI{es:List Expr}{k:Nat}{t:GA}{n:Nat}(hc:X.calm=true)(h:JK X es t)
  (hn:(assignEach es X.env).length=n:=by rfl) (hst:(assignEach es X.env).findIdx? (·.1)=none:=by rfl):PG X (.Tuple es k pos) (gTup X.K n t):=by
 intro c s Z H v u Q I r f;obtain⟨a,m,q,j,w,f⟩:=f;subst q;cases r;obtain⟨i,g,x,y⟩:=I.tuple j;refine assign_Tuple_tuple (I.ok.hd hc) x (by simp[hn,<- w,g.length]) hst λl p=>?_
 have I1:Inv X c Z H { s with heap:=l }:=I.kept (t':=s.toks) λb o e=>p b o (Np<|Nc e) e;exact h c _ Z H m _ Q I1 (by simpa using g) f
def gSub(to ti:TE)(t:Hl):TG:=λv Z H Q=>to Z H λo H1=>ti Z H1 λi H2=>t o i v H2 λH3=>Q Z H3
theorem IS{o i:Expr}{to ti:TE}{t:Hl}(ho:PE X o to)(hi:PE X i ti)(hs:Hz X t)
  (ha:∀v,assign (.Subscript o i pos) X.env v=(do
   let ov <- holding [v] (eval o X.env)
   let iv <- holding [v,ov] (eval i X.env)
   standAt pos
   holding [v,ov,iv] (setItem ov iv v)
   release [v,ov,iv] []):=by intro _;rfl):PG X (.Subscript o i pos) (gSub to ti t):=by
 intro a s Z H v u Q I r h;rw[ha];refine wpAny_bind (wpAny_holding (bF (ho a s Z H _ I h) λov b ⟨x,H1,I1,g,j⟩=>?_));refine wpAny_bind (wpAny_holding (bF (hi a b Z H1 _ I1 j) λiv c ⟨y,H2,I2,f,e⟩=>?_));refine wpAny_bind (wpAny_standAt<|wpAny_bind<|wpAny_holding (bF (hs a c Z H2 x y v ov iv u _ I2 g f r e) λ_ m ⟨H3,I3,l⟩=>?_));exact wpAny_release ⟨Z,H3,I3,l⟩
def LF(te:TE)(g:TG):TS:=λD Z H=>te Z H λx H1=>g x Z H1 D.nx
theorem Ie{tg e:Expr}{te:TE}{g:TG}(he:PE X e te)(hg:PG X tg g)(hs:swapsWithSole [tg] e pos.line X.env=pure false:=by rfl)(hw:swappedStores [tg] e X.env=pure none:=by rfl)
  (h1:(assignEach [tg] X.env).map (·.2)=[assign tg X.env]:=by rfl):PS X (.Assign [tg] e pos) (LF te g):=by
 intro a s Z H D I h;refine wpAny_Assign_stores (bF (he a s Z H _ I h) λv b ⟨x,H1,I1,c,f⟩=>?_) hs hw;rw[h1];exact bF (hg a b Z H1 x v _ I1 c f) λ_ i q=>q
theorem IP{i:Nat}{x:Str}{e:Expr}{te:TE}{pos':Pos}(hN:X.N.Nodup)(hi:X.N[i]?=some x)(hx:zG X.env.scope x)(he:PE X e te)(hs:swapsWith e (some<|.Name x pos') pos.line X.env=pure false:=by rfl)(hf:X.fn x=true\/X.env.scope.names.lookup x=some .local:=by first|exact .inl rfl|exact .inr rfl|assumption):
  PS X (.Assign [.Name x pos'] e pos) (LF te<|Gs i):=by
 intro a s Z H D I h;refine wpAny_Assign_Name (bF (he a s Z H _ I h) λv f ⟨y,H1,I1,b,c⟩=>?_) hs;exact lA I1 hN hi hx b (λg I2=>⟨_,H1,I2,c⟩) hf
def tAug(i:Nat)(te:TE)(ti:TIp):TS:=λD Z H=>∃x,Z[i]?=some (some x)/\te Z H λy H1=>ti x y H1 λz H2=>D.nx (Z.set i<|some z) H2
theorem IY{i:Nat}{x:Str}{e:Expr}{te:TE}{op:Operator}{ti:TIp}{pos':Pos}(hN:X.N.Nodup)(hi:X.N[i]?=some x)(hx:zG X.env.scope x)(he:PE X e te)(ho:Jy X op ti)(hf:X.fn x=true\/X.env.scope.names.lookup x=some .local:=by first|exact .inl rfl|exact .inr rfl|assumption):
  PS X (.AugAssign (.Name x pos') op e pos) (tAug i te ti):=by
 intro a s Z H D I h;obtain⟨v,E,h⟩:=h;obtain⟨m,C,q⟩:=I.loc;have g:Kd X.env.scope x:=by rcases hx with k|k;exact .inl k;exact .inr (.inl k)
 obtain⟨u,r,l⟩:=q i x v hi E g;refine wpAny_AugAssign_Name ?_;have go:wpAny (model X.prog X.w) X.A (eval e X.env) (λw f=>wpAny (model X.prog X.w) X.A (inplaceOp op u w) (λr b=>wpAny (model X.prog X.w) X.A (storeName X.env x r) (λ_=>SP X a D .next) X.xe b) X.xe f) X.xe s:=by
  refine bF (he a s Z H _ I h) λw n ⟨y,H1,I1,o,p⟩=>?_;refine bF (ho a n Z H1 v y u w _ I1 r o p) λz G ⟨J,H2,I2,j,B⟩=>?_;exact lA I2 hN hi hx j (λF I3=>⟨_,H2,I3,B⟩) hf
 rcases l with⟨hk,hm⟩|⟨hk,c,hc,hcell⟩
 .exact wpAny_loadName_local I.ok.kind hk C hm go
 .rcases hk with hk|hk
  .exact wpAny_loadName_cell I.ok.kind hk hc hcell go
  .rcases hx with k|k
   .have:X.env.scope.names.lookup x=some .free:=hk
    rw[k]at this;cases this
   .have:X.env.scope.names.lookup x=some .free:=hk
    rw[k]at this;cases this
def ipI(f:Int->Int->Int):TIp:=λx y H Q=>∃i j,x=.int i/\y=.int j/\Q (.int<|f i j) H
theorem HS:Jy X .Add (ipI λi j=>i+j):=by
 intro a s Z H x y v u Q I e c h;obtain⟨i,j,b,f,q⟩:=h;subst b;subst f;obtain⟨t,rfl⟩:=e;obtain⟨g,rfl⟩:=c;exact iadd_int ⟨.int _,H,I.tok _,⟨_,rfl⟩,q⟩
end
section
variable {X:Cx}{pos:Pos}
def Ik(c:TT)(tb:TS):TS:=λD Z H=>∃W:Nat->St->Hp->Prop,(∃m,W m Z H)/\∀m Z H,W m Z H->
 c Z H λb H1=>if b=true then ∃N:St->Hp->Prop,(∀σ' H',N σ' H'->∃m',m'<m/\W m' σ' H')/\tb { D with nx:=N,ct:=N,bk:=D.nx } Z H1 else D.nx Z H1
theorem Bj{c:Expr}{body:List Stmt}{tc:TT}{tb:TS}(hp:PassesOwn (model X.prog X.w) X.A X.env X.xe)(hc:PT X c tc)(hb:wo X body tb):PS X (.While c body [] pos) (Ik tc tb):=by
 intro a s Z H D I h;obtain⟨W,⟨r,x⟩,turn⟩:=h;refine wpAny_While (codeAny_whileLoop (λn z=>∃σ' H',Inv X a σ' H' z/\W n σ' H') ?_ r ⟨Z,H,I,x⟩)
 rintro n u ⟨g,H1,I1,y⟩
 refine wpAny_passesOwn hp (bF (hc a u g H1 _ I1<|turn n g H1 y) λb q ⟨H2,I2,j⟩=>?_);cases b with
 |true=>
  obtain⟨N,p,j⟩:=j;rw[if_pos rfl];refine wpAny_passesOwn hp (bF (hb a q g H2 _ I2 j) λf B i=>?_);cases f with
  |next=>
   obtain⟨e,H3,I3,o⟩:=i;obtain⟨m,hm,l⟩:=p e H3 o;exact⟨m,hm,e,H3,I3,l⟩
  |cont=>
   obtain⟨e,H3,I3,o⟩:=i;obtain⟨m,hm,l⟩:=p e H3 o;exact⟨m,hm,e,H3,I3,l⟩
  |brk=>exact i
  |ret v=>exact i
 |false=>
  rw[if_neg NA];exact wpAny_execs_nil ⟨g,H2,I2,j⟩
end
structure It where
 go:Nat->Hp->Prop
 yld:Nat->Hp->V->Hp->Prop
 stop:Nat->Hp->Prop
def iN(X:Cx)(pins:List (Addr×Obj))(H:Hp)(b:Addr):Prop:=
 H b=none/\b≠X.env.locals/\b∉X.fs/\(b∈X.ex\/X.s₀.heap.objs.size<=b)/\(∀x c,X.env.cells.lookup x=some c->c≠b)/\∀p∈X.pn++pins,p.1≠b
theorem Inv.fpOk{X:Cx}{pins:List (Addr×Obj)}{Z:St}{H H':Hp}{s:Shared}{b:Addr}(I:Inv X pins Z H s)(hb:s.heap.objs.size<=b)(hn:H' b=none):iN X pins H' b:=by
 refine⟨hn,Pj (Nt I.lt hb),I.nofs hb,.inr (Ny I.sz hb),λx c e z=>?_,λp a z=>?_⟩
 .obtain⟨v,q⟩:=I.cell x c e
  exact absurd (Nt q.lt<|by rw[z];exact hb) (Ou _)
 .exact absurd (Nt (Nc (I.pin p a).1)<|by rw[z];exact hb) (Ou _)
structure Turn(P:Program)(w:World)(K:Ng)(tg:Expr)(J:It)(fp:List Addr)(it:Addr)(tn:Nat->Heap->Prop):Prop where
 mem:it∈fp
 obj:∀i h,tn i h->∀b∈fp,∃o,h.get? b=some o/\∀v,o.data≠.cell v
 keep:∀i h h',tn i h->(∀b∈fp,∀o,h.get? b=some o->h'.get? b=some o)->tn i h'
 item:∀(X:Cx),X.prog=P->X.w=w->X.K=K->X.calm=true->∀(i:Nat) (pins:List (Addr×Obj)) (s:Shared) (Z:St) (H:Hp) (E:Value->Shared->Prop),Inv X pins Z H s->(∀b∈fp,iN X pins H b)->tn i s.heap->J.go i H->
  wpAny (model P w) X.A (pyNext<|.ref it) (λr s1=>∃u,r=some u/\
   wpAny (model P w) X.A (letOwnedTupleGo tg (.ref it) u) (λ_ s2=>∃x H',Inv X pins Z H' s2/\RelV x u/\J.yld i H x H'/\tn (i+1) s2.heap/\∀b∈fp,H' b=none) E s1) E s
 done:∀(X:Cx),X.prog=P->X.w=w->X.K=K->X.calm=true->∀(i:Nat) (pins:List (Addr×Obj)) (s:Shared) (Z:St) (H:Hp) (E:Value->Shared->Prop),Inv X pins Z H s->(∀b∈fp,iN X pins H b)->tn i s.heap->J.stop i H->
  wpAny (model P w) X.A (pyNext<|.ref it) (λr s1=>r=none/\Inv X pins Z H s1) E s
 self:∀(A:Around) (i:Nat) (s:Shared) (Q:Value->Shared->Prop) (E:Value->Shared->Prop),tn i s.heap->Q (.ref it) s->wpAny (model P w) A (pyIter<|.ref it) Q E s
abbrev TI:=St->Hp->(It->Hp->Prop)->Prop
def PIE(X:Cx)(pins:List (Addr×Obj))(Z:St)(tg:Expr)(R:It->Hp->Prop)(itv:Value)(s2:Shared):Prop:=
 ∃(it:Addr) (fp:List Addr) (tn:Nat->Heap->Prop) (J:It) (H':Hp),itv=.ref it/\Inv X pins Z H' s2/\Turn X.prog X.w X.K tg J fp it tn/\tn 0 s2.heap/\(∀b∈fp,iN X pins H' b)/\R J H'
def PI(X:Cx)(tg iter:Expr)(wi:TI):Prop:=
 ∀(pins:List (Addr×Obj)) (s:Shared) (Z:St) (H:Hp) (R:It->Hp->Prop),Inv X pins Z H s->wi Z H R->
  wpAny (model X.prog X.w) X.A (eval iter X.env) (λv a=>wpAny (model X.prog X.w) X.A (pyIter v) (PIE X pins Z tg R) X.xe a) X.xe s
theorem Ci{M:Model}{A:Around}{E:Value->Shared->Prop}{s:Shared}{tg:Expr}{it:Addr}{u:Value}{o:Obj}{n:String}{vs:Array Value}{Q:Unit->Shared->Prop}(ho:s.heap.get? it=some o)(hc:o.cls=.type n)(hd:o.data=.fields vs)
  (hn:["enumerate","zip","dict_itemiterator","dict_reverseitemiterator","odict_iterator","itertools.zip_longest","itertools.pairwise"].contains n=false) (hQ:Q () s):wpAny M A (letOwnedTupleGo tg (.ref it) u) Q E s:=by
 unfold letOwnedTupleGo
 cases tg<;>first
  |exact wpAny_pure hQ
  |(cases u<;>first
    |exact wpAny_pure hQ
    |(refine wpAny_bind (wpAny_load ho ?_)
      rw[hc,hd];show wpAny M A (if (["enumerate","zip","dict_itemiterator","dict_reverseitemiterator","odict_iterator","itertools.zip_longest","itertools.pairwise"].contains n&&vs[0]?==some (rawInt _))=true then _ else _) Q E s
      rw[if_neg (by intro h;rw[hn,NN]at h;cases h)]
      exact wpAny_pure hQ))
def Itl(K:Ng)(a:Addr):It:=
 ⟨λi H=>∃xs x,SqL K H a xs/\xs[i]?=some x,λi H x H'=>H'=H/\∀xs,SqL K H a xs->xs[i]?=some x,λi H=>∃xs,SqL K H a xs/\xs.length<=i⟩
def Itt(K:Ng)(a:Addr):It:=
 ⟨λi H=>∃xs x,iE K H a xs/\xs[i]?=some x,λi H x H'=>H'=H/\∀xs,iE K H a xs->xs[i]?=some x,λi H=>∃xs,iE K H a xs/\xs.length<=i⟩
def Itr(lo:Int)(n:Nat):It:=⟨λi _=>i<n,λi H x H'=>H'=H/\x=.int (lo+i),λi _=>n<=i⟩
theorem z8{P:Program}{w:World}{K:Ng}{tg:Expr}(a it:Addr):Turn P w K tg (Itl K a) [it] it (λi h=>h.IsListIter it a i) where
 mem:=by simp
 obj:=λi h f b j=>by
  have e:b=it:=by simpa using j
  subst e;obtain⟨o,e,c,d⟩:=f;exact⟨o,e,λv z=>by rw[d]at z;cases z⟩
 keep:=λi h q f k=>f.at λo e=>k it (by simp) o e
 item:=by
  intro X A O F Q i g s Z H E I n f B;subst A O F;obtain⟨W,x,m,M⟩:=B;obtain⟨J,N,p,R⟩:=I.list m;obtain⟨u,hu,Y⟩:=N.get M;obtain⟨C,G,T,L,y,r⟩:=n it (by simp)
  refine wpAny_pyNext_list_item f p.isList (x:=u) (by simpa using hu) λq l U=>?_
  have I1:Inv X g Z H { s with heap:=q }:=I.turned (t':=s.toks) (λb o j e=>(U.2 b j).trans e) C G L y r;obtain⟨o,e,c,d⟩:=id l;exact⟨u,rfl,Ci (s:={ s with heap:=q }) e c d (by decide) ⟨x,H,I1,Y,⟨rfl,λys S=>by rw[I.list_inj S m];exact M⟩,l,λb j=>(n b j).1⟩⟩
 done:=by
  intro X A O F Q i g s Z H E I n f B;subst A O F;obtain⟨W,m,M⟩:=B;obtain⟨J,N,p,R⟩:=I.list m;obtain⟨C,G,T,L,y,r⟩:=n it (by simp)
  have hl:=N.length;exact wpAny_pyNext_list_end (I.ok.hd Q) f p.isList (by simp;lia) λq eb=>⟨rfl,I.turned (t':=s.toks) (λb o j e=>eb b o j e) C G L y r⟩
 self:=λ_ _ _ _ _ f h=>wpAny_pyIter_listiter f h
theorem uh{P:Program}{w:World}{K:Ng}{tg:Expr}(a it:Addr):Turn P w K tg (Itt K a) [it] it (λi h=>h.IsTupleIter it a i) where
 mem:=by simp
 obj:=λi h f b l=>by
  have e:b=it:=by simpa using l
  subst e;obtain⟨o,e,c,d⟩:=f;exact⟨o,e,λv z=>by rw[d]at z;cases z⟩
 keep:=λi h r f k=>f.at λo e=>k it (by simp) o e
 item:=by
  intro X B O G Q i g s Z H E I q f C;subst B O G;obtain⟨W,x,n,M⟩:=C;obtain⟨j,N,p,R⟩:=I.tuple n;obtain⟨u,hu,Y⟩:=N.get M;obtain⟨F,J,T,L,A,y⟩:=q it (by simp)
  refine wpAny_pyNext_tuple_item f (show s.heap.IsTuple a j.toArray from p) (x:=u) (by simpa using hu) λr m U=>?_
  have I1:Inv X g Z H { s with heap:=r }:=I.turned (t':=s.toks) (λb o l e=>(U.2 b l).trans e) F J L A y;obtain⟨o,e,c,d⟩:=id m;exact⟨u,rfl,Ci (s:={ s with heap:=r }) e c d (by decide) ⟨x,H,I1,Y,⟨rfl,λys S=>by rw[I.tuple_inj S n];exact M⟩,m,λb l=>(q b l).1⟩⟩
 done:=by
  intro X B O G Q i g s Z H E I q f C;subst B O G;obtain⟨W,n,M⟩:=C;obtain⟨j,N,p,R⟩:=I.tuple n;obtain⟨F,J,T,L,A,y⟩:=q it (by simp)
  have hl:=N.length;exact wpAny_pyNext_tuple_end (I.ok.hd Q) f (show s.heap.IsTuple a j.toArray from p) (by simp;lia) λr eb=>⟨rfl,I.turned (t':=s.toks) (λb o l e=>eb b o l e) F J L A y⟩
 self:=λ_ _ _ _ _ f h=>wpAny_pyIter_tupleiter f h
theorem sG{P:Program}{w:World}{K:Ng}{tg:Expr}(it:Addr)(lo:Int)(n:Nat):Turn P w K tg (Itr lo n) [it] it (λi h=>IsRangeIter h it (lo+(i:Nat)*1) ((n:Int)-(i:Nat)) 1) where
 mem:=by simp
 obj:=λi h a b f=>by
  have e:b=it:=by simpa using f
  subst e;exact⟨_,a,λv z=>by
   have M:Data.fields _=Data.cell v:=z;cases M⟩
 keep:=λi h l a k=>k it (by simp) _ a
 item:=by
  intro X q C x B i c s Z H E I j a r;subst q C x;obtain⟨u,y,G,A,p,m⟩:=j it (by simp)
  have W:=Walks.range (prog:=X.prog) (w:=X.w) (I.ok.hd B) it lo 1 n;refine W.item i s _ _ r a λv l F L g J=>?_;obtain⟨t,rfl⟩:=L;have I1:Inv X c Z H { s with heap:=l,toks:=F }:=I.turned (λb o f e=>J b o (by simpa using f) e) u y A p m
  refine⟨_,rfl,Ci (s:={ s with heap:=l,toks:=F }) (n:="range_iterator") g rfl rfl (by decide) ⟨.int (lo+i),H,I1,⟨t,?_⟩,⟨rfl,rfl⟩,g,λb f=>(j b f).1⟩⟩
  rw[Int.mul_one]
 done:=by
  intro X q C x B i c s Z H E I j a r;subst q C x;obtain⟨u,y,G,A,p,m⟩:=j it (by simp)
  exact wpAny_pyNext_range_end (I.ok.hd B) a (by have:n<=i:=r;lia) λl N=>⟨rfl,I.turned (t':=s.toks) (λb o f e=>N b o f e) u y A p m⟩
 self:=λ_ _ _ _ _ a h=>wpAny_pyIter_rangeiter a h
section
variable {X:Cx}{tg:Expr}
theorem Ab{pins:List (Addr×Obj)}{Z:St}{H:Hp}{s:Shared}{R:It->Hp->Prop}{E:Value->Shared->Prop}{lo hi:Int}{t u v:Tok}{tk:Nat}(I:Inv X pins Z H s)(h1:-(2 ^ 62)<=lo)(h2:lo<2 ^ 62)(h3:-(2 ^ 62)<=hi)(h4:hi<2 ^ 62)
  (q:R (Itr lo (hi-lo).toNat) H):wpAny (model X.prog X.w) X.A (pyIter<|.ref s.heap.objs.size) (PIE X pins Z tg R) E { s with heap:=s.heap.push { cls:=.type "range",data:=.fields #[.int lo t,.int hi u,.int 1 v] },toks:=tk }:=by
 refine wpAny_pyIter_range (IsRange.new ..) (small_one h1 h2 h3 h4) ?_;have I1:Inv X pins Z H { s with heap:=s.heap.push { cls:=.type "range",data:=.fields #[.int lo t,.int hi u,.int 1 v] },toks:=tk }:=I.kept λb o e=>MX _ e;refine⟨(s.heap.push { cls:=.type "range",data:=.fields #[.int lo t,.int hi u,.int 1 v] }).objs.size,[(s.heap.push { cls:=.type "range",data:=.fields #[.int lo t,.int hi u,.int 1 v] }).objs.size],_,_,H,rfl,
  I1.kept (t':=tk) λb o e=>MX _ e,sG _ lo (hi-lo).toNat,?_,λb f=>?_,q⟩
 .have c:lo+((0:Nat):Int)*1=lo:=by simp
  have a:(((hi-lo).toNat:Nat):Int)-((0:Nat):Int)=Builtin.Range.rangeSize lo hi 1:=by rw[rangeSize_one];split<;>lia
  show IsRangeIter _ _ (lo+((0:Nat):Int)*1) ((((hi-lo).toNat:Nat):Int)-((0:Nat):Int)) 1;rw[c,a];exact Nj _ rfl
 .have e:b=(s.heap.push { cls:=.type "range",data:=.fields #[.int lo t,.int hi u,.int 1 v] }).objs.size:=by simpa using f
  subst e;exact I1.fpOk (Ni _) (I1.hok.fresh<|Ni _)
def Kt(ta:TA):TI:=λZ H R=>ta Z H λa H1=>∃j:Int,a=[.int j]/\-(2 ^ 62)<=j/\j<2 ^ 62/\R (Itr 0 j.toNat) H1
theorem yF{a:Expr}{ta:TA}{p pos:Pos}(hg:Gl X "range")(hm:X.mg "range"=none)(ha:PA X [a] ta)(hs:starEach [a] X.env=[(false,eval a X.env)]:=by rfl):PI X tg (.Call (.Name "range" p) [a] [] pos) (Kt ta):=by
 intro b s Z H R I h;refine Call_ (dS I hg hm boot_range<|NX (bF (ha pos b s Z H _ I h) λl i ⟨m,H1,I1,g,c⟩=>?_) hs rfl);obtain⟨j,e,c,f,q⟩:=c;subst e;cases g with
 |cons r rr=>
  cases rr;obtain⟨t,rfl⟩:=r;exact call_range_1 (Ab I1 (by lia) (by lia) c f<|by simpa using q)
def tFor(wi:TI)(g:TG)(tb:TS):TS:=λD Z H=>wi Z H λJ H1=>∃W:Nat->Nat->St->Hp->Prop,(∃m,W 0 m Z H1)/\∀i m Z H,W i m Z H->
 (J.stop i H/\D.nx Z H)\/(J.go i H/\∃N:St->Hp->Prop,(∀σ' H',N σ' H'->∃m',m'<m/\W (i+1) m' σ' H')/\∀x H',J.yld i H x H'->g x Z H' λa H2=>tb { D with nx:=N,ct:=N,bk:=D.nx } a H2)
def lb(fp:List Addr)(h:Heap):List (Addr×Obj):=fp.filterMap λb=>(h.get? b).map λo=>(b,o)
theorem eW{fp:List Addr}{h:Heap}{b:Addr}{o:Obj}(hb:b∈fp)(e:h.get? b=some o):(b,o)∈lb fp h:=Ss.mpr ⟨b,hb,by rw[e];rfl⟩
theorem zm{fp:List Addr}{h:Heap}{p:Addr×Obj}(hp:p∈lb fp h):p.1∈fp/\h.get? p.1=some p.2:=by
 obtain⟨b,a,e⟩:=Ss.mp hp;cases q:h.get? b with
 |none=>rw[q]at e;cases e
 |some o=>
  rw[q]at e;have c:(b,o)=p:=NZ e;subst c;exact⟨a,q⟩
theorem Inv.pinned{pins:List (Addr×Obj)}{Z:St}{H:Hp}{s:Shared}{fp:List Addr}(I:Inv X pins Z H s)(hf:∀b∈fp,iN X pins H b)(ho:∀b∈fp,∃o,s.heap.get? b=some o/\∀v,o.data≠.cell v):Inv X (pins++lb fp s.heap) Z H s:=
 I.pins_of λp h=>(Nx.mp h).elim (λz=>I.pin p (NC _ z)) λz=>by
  obtain⟨a,e⟩:=zm z;obtain⟨f,i,g,_⟩:=hf p.1 a;obtain⟨o,c,d⟩:=ho p.1 a;rw[e]at c;cases c;exact⟨e,f,i,g,d⟩
theorem Inv.unpinned{pins pl:List (Addr×Obj)}{Z:St}{H:Hp}{s:Shared}(I:Inv X (pins++pl) Z H s):Inv X pins Z H s:=I.pins_of λp a=>I.pin p (NC _<|Pd _ a)
theorem J0{iter:Expr}{body:List Stmt}{wi:TI}{g:TG}{tb:TS}{pos:Pos}(hp:PassesOwn (model X.prog X.w) X.A X.env X.xe)(hc:X.calm=true)(hi:PI X tg iter wi)(hg:PG X tg g)(hb:wo X body tb)
  (hs:∀x,foldedSetIterable iter X.env x=pure x:=by intro _;rfl):PS X (.For tg iter body [] pos) (tFor wi g tb):=by
 intro c s Z H D I h;refine wpAny_For (bF (hi c s Z H _ I h) λv s1 h1=>bF h1 λY s2 h2=>?_) hs;obtain⟨it,C,Q,J,H2,e,I2,T,L,P,W,⟨m0,w0⟩,z⟩:=h2;subst e
 -- what stays true of the iterator's objects through the loop
 have j:∀{H':Hp},(∀b∈C,H' b=none)->∀b∈C,iN X c H' b:=λhn b hb=>⟨hn b hb,(P b hb).2⟩;refine codeAny_forLoop_any (λn R=>∃i σ' H',Inv X c σ' H' R/\Q i R.heap/\(∀b∈C,H' b=none)/\W i n σ' H') ?_ m0 ⟨0,Z,H2,I2,L,λb hb=>(P b hb).1,w0⟩
 rintro n S ⟨i,l,H3,I3,F,E,w3⟩
 rcases z i n l H3 w3 with⟨y,qn⟩|⟨go,N,hN,step⟩
 .refine wpAny_passesOwn hp (bF (T.done X rfl rfl rfl hc i c S l H3 X.xe I3 (j E) F y) λr s4 ⟨O,I4⟩=>?_)
  subst O;exact wpAny_execs_nil ⟨l,H3,I4,qn⟩
 .refine wpAny_passesOwn hp (bF (T.item X rfl rfl rfl hc i c S l H3 X.xe I3 (j E) F go) λr s4 ⟨u,O,h4⟩=>?_)
  subst O;refine wpAny_passesOwn hp (bF h4 λ_ U ⟨x,H5,I5,r5,y5,q,K⟩=>?_);have I5':=I5.pinned (j K) (T.obj _ _ q);refine wpAny_passesOwn hp (bF (hg _ U l H5 x u _ I5' r5<|step x H5 y5) λ_ s6 ⟨G,H6,I6,q6⟩=>?_);refine wpAny_passesOwn hp (bF (hb _ s6 G H6 _ I6 q6) λf M p=>?_);have again:∀{a:St} {H7:Hp},Inv X (c++lb C U.heap) a H7 M->N a H7->∃m,m<n/\∃i σ' H',Inv X c σ' H' M/\Q i M.heap/\(∀b∈C,H' b=none)/\W i m σ' H':=λ{a H7} I7 B=>by
   obtain⟨m',hm,w7⟩:=hN a H7 B;refine⟨m',hm,i+1,a,H7,I7.unpinned,T.keep _ _ _ q λb hb o e=>(I7.pin (b,o)<|NC _<|NC _<|eW hb e).1,λb hb=>?_,w7⟩;obtain⟨o,e,d⟩:=T.obj _ _ q b hb;exact(I7.pin (b,o)<|NC _<|NC _<|eW hb e).2.1
  cases f with
  |next=>obtain⟨a,H7,I7,B⟩:=p;exact again I7 B
  |cont=>obtain⟨a,H7,I7,B⟩:=p;exact again I7 B
  |brk=>obtain⟨a,H7,I7,p⟩:=p;exact⟨a,H7,I7.unpinned,p⟩
  |ret v=>obtain⟨x7,a,H7,I7,r7,p⟩:=p;exact⟨x7,a,H7,I7.unpinned,r7,p⟩
end
abbrev R2:=V->V->Hp->VK->Prop
def du(X:Cx)(f:Value->Value->Sem Value)(r:R2):Prop:=
 ∀(pins:List (Addr×Obj)) (s:Shared) (Z:St) (H:Hp) (x y:V) (v u:Value) (Q:VK),Inv X pins Z H s->RelV x v->RelV y u->r x y H Q->
  wpAny (model X.prog X.w) X.A (f v u) (EP X pins Z Q) X.xe s
def UnR(X:Cx)(f:Value->Sem Value)(r:V->Hp->VK->Prop):Prop:=
 ∀(pins:List (Addr×Obj)) (s:Shared) (Z:St) (H:Hp) (x:V) (v:Value) (Q:VK),Inv X pins Z H s->RelV x v->r x H Q->
  wpAny (model X.prog X.w) X.A (f v) (EP X pins Z Q) X.xe s
def bG(X:Cx)(f:Value)(r:List V->Hp->VK->Prop):Prop:=
 ∀(pins:List (Addr×Obj)) (s:Shared) (Z:St) (H:Hp) (xs:List V) (us:List Value) (Q:VK),Inv X pins Z H s->Vals xs us->r xs H Q->
  wpAny (model X.prog X.w) X.A (call f us) (EP X pins Z Q) X.xe s
def TruR(X:Cx)(r:V->Hp->(Bool->Hp->Prop)->Prop):Prop:=
 ∀(pins:List (Addr×Obj)) (s:Shared) (Z:St) (H:Hp) (x:V) (v:Value) (Q:Bool->Hp->Prop),Inv X pins Z H s->RelV x v->r x H Q->
  wpAny (model X.prog X.w) X.A (truthy v) (TP X pins Z Q) X.xe s
def Km(r:R2)(ta tb:TE):TE:=λZ H Q=>ta Z H λx H1=>tb Z H1 λy H2=>r x y H2 Q
def tUn(r:V->Hp->VK->Prop)(ta:TE):TE:=λZ H Q=>ta Z H λx H1=>r x H1 Q
def rI(C:Int->Int->Prop)(g:Int->Int->V):R2:=λx y H Q=>∃i j,x=.int i/\y=.int j/\C i j/\Q (g i j) H
def GE(g:Int->Int->V):R2:=λx y H Q=>∃i j,x=.int i/\y=.int j/\Q (g i j) H
def rU(g:Int->V):V->Hp->VK->Prop:=λx H Q=>∃i,x=.int i/\Q (g i) H
section
variable {X:Cx}{a b c:Expr}{ta tb tc:TE}{pos:Pos}
theorem Im(ha:PE X a ta)(hb:PE X b tb){pins:List (Addr×Obj)}{s:Shared}{Z:St}{H:Hp}{R:V->V->Hp->Prop}(I:Inv X pins Z H s)
  (h:ta Z H λx H1=>tb Z H1 λy H2=>R x y H2) {Q:Value->Shared->Prop} {f:Value->Value->Sem Value}
  (hf:∀v u s2 x y H2,Inv X pins Z H2 s2->RelV x v->RelV y u->R x y H2->wpAny (model X.prog X.w) X.A (f v u) Q X.xe s2):
  wpAny (model X.prog X.w) X.A (eval a X.env) (λv s₁=>wpAny (model X.prog X.w) X.A (eval b X.env) (λu s₂=>wpAny (model X.prog X.w) X.A (f v u) Q X.xe s₂) X.xe s₁) X.xe s:=by
 refine bF (ha pins s Z H _ I h) λv e ⟨x,H1,I1,i,j⟩=>?_;refine bF (hb pins e Z H1 _ I1 j) λu s2 ⟨y,H2,I2,g,l⟩=>?_;exact hf v u s2 x y H2 I2 i g l
theorem M8{op:Operator}{r:R2}(ho:du X (binaryOp op) r)(ha:PE X a ta)(hb:PE X b tb):PE X (.BinOp a op b pos) (Km r ta tb):=by
 intro e s Z H Q I h;exact wpAny_BinOp (Im ha hb I h λv u f x y H2 I2 i g q=>ho e f Z H2 x y v u Q I2 i g q)
theorem KS{op:UnaryOp}{r:V->Hp->VK->Prop}(ho:UnR X (unaryOp op) r)(ha:PE X a ta):PE X (.UnaryOp op a pos) (tUn r ta):=by
 intro e s Z H Q I h;exact UnaryOp_ (bF (ha e s Z H _ I h) λv f ⟨x,H1,I1,g,i⟩=>ho e f Z H1 x v Q I1 g i)
theorem opI{f:Value->Value->Sem Value}{C:Int->Int->Prop}{g:Int->Int->Int}
  (rule:∀(i j:Int) (t u:Tok) (s:Shared) (Q:Value->Shared->Prop) (E:Value->Shared->Prop),C i j->Q (.int (g i j) s.toks) { s with toks:=s.toks+1 }->wpAny (model X.prog X.w) X.A (f (.int i t)<|.int j u) Q E s):
  du X f (rI C λi j=>.int (g i j)):=by
 intro e s Z H x y v u Q I o n h;obtain⟨i,j,rfl,rfl,m,q⟩:=h;obtain⟨t,rfl⟩:=o;obtain⟨l,rfl⟩:=n;exact rule i j t l s _ _ m ⟨.int (g i j),H,I.tok _,⟨_,rfl⟩,q⟩
theorem KB{f:Value->Value->Sem Value}{g:Int->Int->Int}
  (rule:∀(i j:Int) (t u:Tok) (s:Shared) (Q:Value->Shared->Prop) (E:Value->Shared->Prop),Q (.int (g i j) s.toks) { s with toks:=s.toks+1 }->wpAny (model X.prog X.w) X.A (f (.int i t)<|.int j u) Q E s):
  du X f (GE λi j=>.int (g i j)):=by
 intro e s Z H x y v u Q I n m h;obtain⟨i,j,rfl,rfl,q⟩:=h;obtain⟨t,rfl⟩:=n;obtain⟨l,rfl⟩:=m;exact rule i j t l s _ _ ⟨.int (g i j),H,I.tok _,⟨_,rfl⟩,q⟩
theorem GV{f:Value->Value->Sem Value}{g:Int->Int->Bool}
  (rule:∀(i j:Int) (t u:Tok) (s:Shared) (Q:Value->Shared->Prop) (E:Value->Shared->Prop),Q (.bool<|g i j) s->wpAny (model X.prog X.w) X.A (f (.int i t)<|.int j u) Q E s):
  du X f (GE λi j=>.bl (g i j)):=by
 intro e s Z H x y v u Q I n m h;obtain⟨i,j,rfl,rfl,q⟩:=h;obtain⟨t,rfl⟩:=n;obtain⟨l,rfl⟩:=m;exact rule i j t l s _ _ ⟨.bl (g i j),H,I,rfl,q⟩
def Kp(i j:Int):Prop:=0<=j/\j<=1000000/\i.natAbs<2 ^ 64
def CMul(i j:Int):Prop:=(-(2 ^ 64)<i/\i<2 ^ 64)\/(-(2 ^ 64)<j/\j<2 ^ 64)
theorem CMul.ok{i j:Int}(h:CMul i j):IntMulOk i j:=by
 rcases h with⟨e,f⟩|⟨e,f⟩
 .exact .of_left (intBits_le_64 e f)
 .exact .of_right (intBits_le_64 e f)
theorem JL:du X (binaryOp .Add) (GE λi j=>.int (i+j)):=KB λ_ _ _ _ _ _ _ q=>add_int q
theorem Jd:du X (binaryOp .Sub) (GE λi j=>.int (i-j)):=KB λ_ _ _ _ _ _ _ q=>sub_int q
theorem Hj:du X (binaryOp .Mult) (rI CMul λi j=>.int (i*j)):=opI λ_ _ _ _ _ _ _ e q=>mul_int q e.ok
theorem Ib:du X (binaryOp .Mod) (rI (λ_ j=>0<j) λi j=>.int (i % j)):=opI λi j _ _ _ _ _ e q=>by
 have f:(0:Int)<j:=e;exact mod_int' (by lia) (by rw[Int.fmod_eq_emod_of_nonneg i (by lia)];exact q)
theorem Ji:du X (binaryOp .Pow) (rI Kp λi j=>.int (i ^ j.toNat)):=opI λ_ _ _ _ _ _ _ e q=>pow_int_small e.1 e.2.1 e.2.2 q
theorem unI{f:Value->Sem Value}{g:Int->Int}
  (rule:∀(i:Int) (t:Tok) (s:Shared) (Q:Value->Shared->Prop) (E:Value->Shared->Prop),Q (.int (g i) s.toks) { s with toks:=s.toks+1 }->wpAny (model X.prog X.w) X.A (f<|.int i t) Q E s):
  UnR X f (rU λi=>.int (g i)):=by
 intro e s Z H x v Q I j h;obtain⟨i,rfl,q⟩:=h;obtain⟨t,rfl⟩:=j;exact rule i t s _ _ ⟨.int (g i),H,I.tok _,⟨_,rfl⟩,q⟩
theorem Jg:UnR X (unaryOp .USub) (rU λi=>.int (-i)):=unI λ_ _ _ _ _ q=>neg_int q
end
section
variable {X:Cx}{a b c:Expr}{ta tb tc:TE}{pos:Pos}
theorem Cq{pins:List (Addr×Obj)}{Z:St}{H:Hp}{s:Shared}{Q:VK}{k k':Bool}(I:Inv X pins Z H s)(q:Q (.bl k) H)(e:k=k'):EP X pins Z Q (.bool k') s:=by
 subst e;exact⟨.bl k,H,I,rfl,q⟩
theorem LA:du X (compareOp .Lt) (GE λi j=>.bl (decide (i<j))):=GV λ_ _ _ _ _ _ _ q=>lt_int q
theorem Kl:du X (compareOp .Gt) (GE λi j=>.bl (decide (j<i))):=GV λ_ _ _ _ _ _ _ q=>gt_int q
theorem KU:du X (compareOp .GtE) (GE λi j=>.bl (decide (j<=i))):=GV λ_ _ _ _ _ _ _ q=>ge_int q
theorem Hx:du X (compareOp .Is) (λx y H Q=>y=.non/\Q (.bl<|decide (x=.non)) H):=by
 intro e s Z H x y v u Q I f g h;obtain⟨rfl,q⟩:=h;cases g;refine is_none_gen (Cq I q ?_)
 cases x<;>first
  |(cases f;rfl)
  |(obtain⟨t,rfl⟩:=f;rfl)
theorem D5:du X (compareOp .IsNot) (λx y H Q=>y=.non/\Q (.bl<|!decide (x=.non)) H):=by
 intro e s Z H x y v u Q I f g h;obtain⟨rfl,q⟩:=h;cases g;refine isnot_none_gen (Cq I q ?_)
 cases x<;>first
  |(cases f;rfl)
  |(obtain⟨t,rfl⟩:=f;rfl)
theorem Fh{op:CmpOp}{r:R2}(ho:du X (compareOp op) r)(ha:PE X a ta)(hb:PE X b tb)(hm:behindInMarks op b=false):PE X (.Compare a [op] [b] pos) (Km r ta tb):=by
 intro e s Z H Q I h;exact wpAny_Compare1 (Im ha hb I h λv u f x y H2 I2 i g q=>ho e f Z H2 x y v u Q I2 i g q) hm
def L7(t:TE):TT:=λZ H Q=>t Z H λx H'=>∃k,x=.bl k/\Q k H'
theorem EL{op:CmpOp}{r:R2}(ho:du X (compareOp op) r)(ha:PE X a ta)(hb:PE X b tb)(hm:behindInMarks op b=false):PT X (.Compare a [op] [b] pos) (L7<|Km r ta tb):=by
 intro f s Z H Q I h;refine wpAny_isTrue_Compare1 (bF (ha f s Z H _ I h) λv g ⟨x,H1,I1,n,o⟩=>bF (hb f g Z H1 _ I1 o) λu i ⟨y,H2,I2,m,j⟩=>
  bF (ho f i Z H2 x y v u _ I2 n m j) λc q ⟨z,H3,I3,l,k,e,p⟩=>?_) hm
 subst e;cases l;exact wpAny_truthy_bool ⟨H3,I3,p⟩
def Hh(K:Ng)(x:V)(H:Hp)(k:Bool):Prop:=
 match x with
 |.non=>k=false
 |.bl b=>k=b
 |.int i=>k=(i != 0)
 |.str y=>y.length<=sizeLine/\k=((y.length:Int) != 0)
 |.byt y=>y.size<=sizeLine/\k=((y.size:Int) != 0)
 |.ref p=>(∃xs,SqL K H p xs/\k=!xs.isEmpty)\/(∃xs,iE K H p xs/\k=!xs.isEmpty)\/∃kvs,H p=some (.dK kvs)/\k=!kvs.isEmpty
 |_=>False
theorem sg{κ:Type}{kvs:List (κ×V)}{vs:List (κ×Value)}(r:KV kvs vs):(!vs.isEmpty)=!kvs.isEmpty:=by
 cases r<;>rfl
theorem kK{xs:List V}{its:List Value}(r:Vals xs its):(!its.toArray.isEmpty)=!xs.isEmpty:=by
 cases r<;>simp
theorem gj:(sizeLine:Nat)<2 ^ 63:=by rw[sizeLine_eq];decide
theorem ID:TruR X (λx H Q=>∃k,Hh X.K x H k/\Q k H):=by
 intro A s Z H x v Q I l h;obtain⟨k,e,q⟩:=h;have C:=gj;have E:sizeLine=16777216:=sizeLine_eq;cases x with
 |non=>
  cases l;have f:k=false:=e;subst f;exact truthy_none ⟨H,I,q⟩
 |bl b=>
  cases l;have f:k=b:=e;subst f;exact wpAny_truthy_bool ⟨H,I,q⟩
 |int i=>
  obtain⟨t,rfl⟩:=l;have f:k=(i != 0):=e;subst f;exact PySem.P.truthy_int ⟨H,I,q⟩
 |str y=>
  obtain⟨t,rfl⟩:=l;obtain⟨B,f⟩:y.length<=sizeLine/\k=((y.length:Int) != 0):=e;subst f;exact PySem.P.truthy_str (by lia) ⟨H,I.tok _,q⟩
 |byt y=>
  obtain⟨t,rfl⟩:=l;obtain⟨B,f⟩:y.size<=sizeLine/\k=((y.size:Int) != 0):=e;subst f;exact W.truthy_bytes (by lia) ⟨H,I.tok _,q⟩
 |ref p=>
  cases l;have f:(∃j,SqL X.K H p j/\k=!j.isEmpty)\/(∃j,iE X.K H p j/\k=!j.isEmpty)\/∃kvs,H p=some (.dK kvs)/\k=!kvs.isEmpty:=e;rcases f with⟨j,n,f⟩|⟨j,n,f⟩|⟨kvs,n,f⟩
  .subst f
   obtain⟨u,r,pl,z⟩:=I.list n;have g:=r.length;exact wpAny_truthy_list pl.isList (by simp only[Na];lia) ⟨H,I.tok _,by rw[kK r];exact q⟩
  .subst f
   obtain⟨u,r,pl,z⟩:=I.tuple n;have g:=r.length;exact truthy_tuple pl (by simp only[Na];lia) ⟨H,I.tok _,by rw[kK r];exact q⟩
  .subst f
   obtain⟨z,hS,o,r,m⟩:kvs.length<=sizeLine/\(p==sysModules)=false/\∃o,KV kvs o/\s.heap.DictOf (aO X.prog X.w) p o:=I.hok p _ n;have g:kvs.length=o.length:=OC r;exact wpAny_truthy_dict hS m (by lia) ⟨H,I.tok _,by rw[sg r];exact q⟩
 |_=>exact(show False from e).elim
theorem Ac(ha:PE X a ta)(he:∀whole,isTrue a X.env whole=(do let v <- whole;standAt a.pos;holding [v] (truthy v))):
  PT X a (λZ H Q=>ta Z H λx H'=>∃k,Hh X.K x H' k/\Q k H'):=by
 intro e s Z H Q I h;exact isTrue_plain (bF (ha e s Z H _ I h) λv f ⟨x,H1,I1,g,i⟩=>ID e f Z H1 x v Q I1 g i) (he _)
theorem tK:du X (binaryOp .Add) (λx y H Q=>∃i j,x=.str i/\y=.str j/\i.length+j.length<=sizeLine/\Q (.str (i++j)) H):=by
 intro e s Z H x y v u Q I m l h;obtain⟨i,j,rfl,rfl,g,q⟩:=h;obtain⟨t,rfl⟩:=m;obtain⟨f,rfl⟩:=l;exact add_str (λf n=>⟨.str (i++j),H,I.tok _,⟨_,rfl⟩,q⟩) g
theorem jc{x:V}{us:List Value}(r:Vals [x] us):∃u,us=[u]/\RelV x u:=by
 cases r with
 |cons r1 r2=>cases r2;exact⟨_,rfl,r1⟩
theorem Lu{x y:V}{us:List Value}(r:Vals [x,y] us):∃u w',us=[u,w']/\RelV x u/\RelV y w':=by
 cases r with
 |cons r1 r2=>
  cases r2 with
  |cons r3 r4=>cases r4;exact⟨_,_,rfl,r1,r3⟩
theorem yN(hc:X.calm=true):bG X (.builtin "min") (λxs H Q=>∃i j,xs=[.int i,.int j]/\Q (.int (if j<i then j else i)) H):=by
 intro f s Z H xs l Q I r h;obtain⟨i,j,rfl,q⟩:=h;obtain⟨u,o,rfl,⟨t,rfl⟩,⟨g,rfl⟩⟩:=Lu r;refine min_two_ints (I.ok.hd hc) λm n k=>⟨_,H,I.kept k,?_,q⟩
 by_cases e:j<i
 .rw[if_pos e,if_pos e];exact⟨_,rfl⟩
 .rw[if_neg e,if_neg e];exact⟨_,rfl⟩
end
structure ObjM(h:Heap)(x dx C:Addr)(mA:Str->Option Value):Prop where
 obj:h.get? x=some (P9 C dx)
 ns:h.Ns1 dx mA
 ne:dx≠x
theorem yv{h:Heap}{dx:Addr}{mA:Str->Option Value}(n:h.Ns1 dx mA):∃od,h.get? dx=some od/\∀name,W.lookIn name od=some (mA name):=by
 obtain⟨o,c,m,f,g,j,_,hm⟩:=n;refine⟨o,f,λname=>?_⟩;have e:=hm name;unfold nsFind findBy at e;rw[<- Array.find?_toList]at e;unfold W.lookIn;rw[g];dsimp only
 split
 .rename_i y q
  rw[q]at e;exact congrArg some e
 .rename_i q
  rw[q]at e;have a:c.toList.any (·.refKey)=false:=by
   rw[List.any_eq_false];intro y i;obtain⟨z,t,b⟩:=j y (Array.mem_toList_iff.mp i);simp[DictEntry.refKey,b]
  have l:¬c.toList.any (·.refKey)=true:=by rw[a];exact NA
  rw[if_neg l];exact congrArg some e
theorem ObjM.look{h:Heap}{x dx C:Addr}{mA:Str->Option Value}(I:ObjM h x dx C mA):∃od,W.InstAt h x (P9 C dx) C (some od)/\∀name,W.lookIn name od=some (mA name):=
 let ⟨od,ho,hl⟩:=yv I.ns
 ⟨od,⟨I.obj,rfl,rfl,ho⟩,hl⟩
section
variable {prog:Program}{w:World}{A:Around}{E:Value->Shared->Prop}{s:Shared}{K:Ng}{x dx C f:Addr}{mA:Str->Option Value}{name:Str}{v:Value}
theorem F1{expr:Bool}{Q:Value->Shared->Prop}(X:K.In s.heap)(I:ObjM s.heap x dx C mA)(hg:Qr K C name=true)(hh:QA K C=true)
  (ha:Oz K (.ref C) name=some none) (hv:mA name=some v) (hv':W.handedIn v=true) (h:Q v { s with toks:=s.toks+1 }):
  wpAny (model prog w) A (getAttr (.ref x) name expr) Q E s:=by
 obtain⟨b,J,a⟩:=I.look;exact W.get_value X J (RV hg).1 (W.findObj_own hh ha rfl<|by rw[a,hv]) hv' h
theorem AX{pl:Sem Bool}{Q:Value×List Value->Shared->Prop}(X:K.In s.heap)(I:ObjM s.heap x dx C mA)(hg:Qr K C name=true)
  (hf:Oz K (.ref C) name=some (some<|.ref f)) (ht:W.isFn K (.ref f)=true) (hv:mA name=none) (h:Q (.ref f,[.ref x]) s):
  wpAny (model prog w) A (getMethod (.ref x) name pl) Q E s:=by
 obtain⟨b,J,a⟩:=I.look;exact W.method_fn X J (RV hg).1 (RV hg).2 hf (beq_iff_eq.mp ht) (by show (W.lookIn name b).map (·.isSome)=some false;rw[a,hv];rfl) h
theorem DM{ns:List Str}{Q:Unit->Shared->Prop}(X:K.In s.heap)(I:ObjM s.heap x dx C mA)
  (hs:Oz K (.ref C) "__setattr__"=some (some<|.builtin "object.__setattr__")) (hp:Rl K C=true) (ht:W.takerIn K C name=some none) (hh:QA K C=true)
  (hw:RF mA ns) (hsz:ns.length<=sizeLine)
  (h:∀h',ObjM h' x dx C (λy=>if y=name then some v else mA y)->Pf dx s.heap h'->Q () { s with heap:=h',toks:=s.toks+2 }):
  wpAny (model prog w) A (setAttr (.ref x) name v) Q E s:=by
 obtain⟨q,J,u⟩:=I.look;refine W.set_plain X J hs (W.osa_open (s:={ s with toks:=s.toks+1 }) (r:=none) X J hp ht λb=>?_);obtain⟨B,n,i⟩:=W.any_some hh;have o:s.heap.get? x=some ⟨.ref C,some dx,.plain,#[]⟩:=I.obj;refine wpAny_bind (wpAny_pure<|wpAny_bind<|wpAny_bind<|wpAny_loadPart o<|wpAny_bind<|W.Looks.here (s:={ s with toks:=s.toks+1 }) (W.looks_clsIn X n) ?_);rw[i];refine wpAny_pure (a:=some dx) (wpAny_bind<|wpAny_pure<|wpAny_bind ?_);refine wpAny_nsSet1 (s:={ s with toks:=s.toks+1 }) I.ns λh' e c=>?_;obtain⟨z,p,m,j,g,l⟩:=e.count (PySem.Within.cons name v hw);refine wpAny_bind (wpAny_lookBehind j (by rw[g];exact pastItsLine_dict (Ny l<|by rw[MZ];lia)) ?_)
 exact wpAny_pure (h _ ⟨(c.2 _<|N8 I.ne).trans I.obj,e,I.ne⟩ c)
theorem BP{R:Result->Shared->Prop}{vs:List Value}{kw:List (Str×Value)}(X:K.In s.heap)(hm:Rc K C=true)
  (hi:Oz K (.ref C) "__init__"=some (some<|.ref f)) (hf:W.typeIn K (.ref f)=some (.type "function"))
  (h:codeAny (model prog w) (A.under<|.builtin "type.__call__" ⟨.ref C::vs,kw⟩) (.call (.ref f) ⟨.ref (s.heap.objs.size+1)::vs,kw⟩) (W.InitBack (s.heap.objs.size+1) R)
   { s with heap:=(s.heap.push Pg).push (P9 C s.heap.objs.size) }):
  codeAny (model prog w) A (.call (.ref C) ⟨vs,kw⟩) R s:=by
 obtain⟨c,g,d,t,b⟩:=s;exact W.make_core (W.makes_of X hm) (W.looks_findIn X hi) (λa=>W.bind_fn X a hf) (.inl rfl) h
end
def dE(f:Str)(v:V):List (Str×V)->List (Str×V)
 |[]=>[(f,v)]
 |(g,x)::r=>if g=f then (g,v)::r else (g,x)::dE f v r
theorem jb(f g:Str)(v:V):∀fs:List (Str×V),(dE f v fs).lookup g=if g=f then some v else fs.lookup g
 |[]=>by
  show N0 g [(f,v)]=_
  by_cases h:g=f
  .have a:(g==f)=true:=beq_iff_eq.mpr h
   simp only[N0,a,if_pos h]
  .have a:(g==f)=false:=beq_eq_false_iff_ne.mpr h
   simp only[N0,a,if_neg h]
 |(k,x)::r=>by
  have c:=jb f g v r;rw[show dE f v ((k,x)::r)=(if k=f then (k,v)::r else (k,x)::dE f v r) from rfl]
  by_cases b:k=f
  .rw[if_pos b]
   by_cases h:g=k
   .have a:(g==k)=true:=beq_iff_eq.mpr h
    simp only[N0,a,if_pos (h.trans b)]
   .have a:(g==k)=false:=beq_eq_false_iff_ne.mpr h
    simp only[N0,a,if_neg (λe:g=f=>h (e.trans b.symm))]
  .rw[if_neg b]
   by_cases h:g=k
   .have a:(g==k)=true:=beq_iff_eq.mpr h
    simp only[N0,a,if_neg (λe:g=f=>b (h.symm.trans e))]
   .have a:(g==k)=false:=beq_eq_false_iff_ne.mpr h
    simp only[N0,a];exact c
theorem iJ(f:Str)(v:V):∀fs:List (Str×V),f∈(dE f v fs).map (·.1)/\∀g,g∈fs.map (·.1)->g∈(dE f v fs).map (·.1)
 |[]=>⟨by simp[dE],λg h=>by simp at h⟩
 |(k,x)::r=>by
  obtain⟨c,b⟩:=iJ f v r;rw[show dE f v ((k,x)::r)=(if k=f then (k,v)::r else (k,x)::dE f v r) from rfl]
  by_cases a:k=f
  .rw[if_pos a]
   subst a;exact⟨by simp,λg h=>by simpa using h⟩
  .rw[if_neg a]
   refine⟨?_,λg h=>?_⟩
   .rw[Nb]
    exact Nk _ c
   .rw[Nb]at h ⊢
    rcases Nl.mp h with e|e
    .exact Nl.mpr (.inl e)
    .exact Nk _ (b g e)
theorem iZ(f:Str)(v:V):∀fs:List (Str×V),(dE f v fs).length<=fs.length+1
 |[]=>by simp[dE]
 |(k,x)::r=>by
  have b:=iZ f v r;rw[show dE f v ((k,x)::r)=(if k=f then (k,v)::r else (k,x)::dE f v r) from rfl]
  by_cases a:k=f
  .rw[if_pos a,MZ,MZ];lia
  .rw[if_neg a,MZ,MZ];lia
theorem eX{v:V}{o:Option Value}(r:RelO (some v) o):∃u,o=some u/\RelV v u:=by
 cases o with
 |none=>exact(show False from r).elim
 |some u=>exact⟨u,rfl,r⟩
theorem pX{o:Option Value}(r:RelO none o):o=none:=by
 cases o with
 |none=>rfl
 |some u=>exact(show False from r).elim
theorem yt{v:V}{u:Value}(r:RelV v u):W.handedIn u=true:=by
 cases v with
 |non=>cases (show u=Po from r);rfl
 |bl b=>cases (show u=Pb b from r);rfl
 |int i=>obtain⟨t,e⟩:=(show ∃t,u=QX i t from r);cases e;rfl
 |str x=>obtain⟨t,e⟩:=(show ∃t,u=QW x t from r);cases e;rfl
 |byt b=>obtain⟨t,e⟩:=(show ∃t,u=Value.bytes b t from r);cases e;rfl
 |flt b=>obtain⟨t,e⟩:=(show ∃t,u=RW b t from r);cases e;rfl
 |ref a=>cases (show u=ND a from r);rfl
 |ty n=>cases (show u=Rg n from r);rfl
section
variable {P:Program}{w:World}{H H':Hp}{h h':Heap}{a C dx:Addr}{fs fs':List (Str×V)}
theorem kn(hok:HOk P w H h)(e:H a=some (.ins C dx fs)):∃mA,ObjM h a dx C mA/\(∀f,RelO (fs.lookup f) (mA f))/\RF mA (fs.map (·.1))/\fs.length<=1000/\H dx=some (.own a):=by
 obtain⟨d,z,ne,b,mA,n,r,q⟩:=(show ObjOk P w H h a (.ins C dx fs) from hok a _ e);exact⟨mA,⟨b,n,ne⟩,r,q,z,d⟩
end
structure Cls(K:Ng)(C:Addr):Prop where
 pg:Qr K C Str.empty=true
 hd:QA K C=true
 po:Rl K C=true
 sa:Oz K (.ref C) "__setattr__"=some (some<|.builtin "object.__setattr__")
theorem Cls.get{K:Ng}{C:Addr}(c:Cls K C)(f:Str):Qr K C f=true:=c.pg
def NoAttr(K:Ng)(C:Addr)(f:Str):Prop:=Oz K (.ref C) f=some none
theorem NoAttr.taker{K:Ng}{C:Addr}{f:Str}(n:NoAttr K C f):W.takerIn K C f=some none:=by
 unfold W.takerIn;rw[show Oz K (.ref C) f=some none from n];rfl
structure Meth(K:Ng)(C:Addr)(m:Str)(f:Addr):Prop where
 at_:Oz K (.ref C) m=some (some<|.ref f)
 fn:W.isFn K (.ref f)=true
 kp:Pw K (.ref f)=true
section
variable {X:Cx}{pins:List (Addr×Obj)}{Z:St}{H:Hp}{s:Shared}{a C dx:Addr}{fs:List (Str×V)}{f:Str}{v:V}{A:Around}{E:Value->Shared->Prop}
theorem ui{b:Bool}{Q:Value->Shared->Prop}(I:Inv X pins Z H s)(e:H a=some (.ins C dx fs))(c:Cls X.K C)(n:NoAttr X.K C f)(l:fs.lookup f=some v)
  (h:∀u s',Inv X pins Z H s'->RelV v u->Q u s'):wpAny (model X.prog X.w) A (getAttr (.ref a) f b) Q E s:=by
 obtain⟨j,O,r,_,_,_⟩:=kn I.hok e;obtain⟨u,i,g⟩:=eX (v:=v) (o:=j f) (by rw[<- l];exact r f)
 exact F1 I.kIn O (c.get f) c.hd n i (yt g) (h u _ (I.tok _) g)
theorem tM{m:Str}{g:Addr}{pl:Sem Bool}{Q:Value×List Value->Shared->Prop}(I:Inv X pins Z H s)(e:H a=some (.ins C dx fs))(c:Cls X.K C)(k:Meth X.K C m g)(l:fs.lookup m=none)
  (h:Q (.ref g,[.ref a]) s):wpAny (model X.prog X.w) A (getMethod (.ref a) m pl) Q E s:=by
 obtain⟨b,O,r,_,_,_⟩:=kn I.hok e;have i:b m=none:=pX (by rw[<- l];exact r m)
 exact AX I.kIn O (c.get m) k.at_ k.fn i h
theorem sY{y:V}{u:Value}{Q:Unit->Shared->Prop}(I:Inv X pins Z H s)(e:H a=some (.ins C dx fs))(c:Cls X.K C)(n:NoAttr X.K C f)(hl:fs.length<1000)(ry:RelV y u)
  (h:∀s',Inv X pins Z (upd H a<|.ins C dx<|dE f y fs) s'->Q () s'):wpAny (model X.prog X.w) A (setAttr (.ref a) f u) Q E s:=by
 obtain⟨j,O,r,l,_,i⟩:=kn I.hok e;have p:(fs.map (·.1)).length<=sizeLine:=by rw[MW,sizeLine_eq];lia
 refine DM I.kIn O c.sa c.po n.taker c.hd l p λG O' B=>h _ ?_;have hd:∃o,G.get? dx=some o:=let ⟨o,_,_,e',_⟩:=O'.ns;⟨o,e'⟩;refine I.write (x:=a) (e:=dx) (by rw[e];exact OO) (.inr i) (λb q F z=>(B.2 b F).trans z) hd ?_
 refine⟨by rw[aH O.ne];exact i,?_,O.ne,O'.obj,_,O'.ns,λg=>?_,λg m=>?_⟩
 .have:=iZ f y fs;lia
 .show RelO ((dE f y fs).lookup g) (if g=f then some u else j g)
  rw[jb]
  by_cases q:g=f
  .rw[if_pos q,if_pos q];exact ry
  .rw[if_neg q,if_neg q];exact r g
 .by_cases q:g=f
  .rw[q];exact(iJ f y fs).1
  .refine (iJ f y fs).2 g (l g λz=>m ?_)
   show (if g=f then some u else j g)=none
   rw[if_neg q];exact z
theorem CK(I:Inv X pins Z H s):Inv X pins Z (upd (upd H s.heap.objs.size<|.own (s.heap.objs.size+1)) (s.heap.objs.size+1)<|.ins C s.heap.objs.size [])
  { s with heap:=(s.heap.push Pg).push (P9 C s.heap.objs.size) }:=by
 have c:(s.heap.push Pg).get? s.heap.objs.size=some Pg:=Nj s.heap rfl;have j:((s.heap.push Pg).push<|P9 C s.heap.objs.size).get? (s.heap.objs.size+1)=some (P9 C s.heap.objs.size):=by
  have:=Nj (s.heap.push Pg) (o:=P9 C s.heap.objs.size) rfl
  rwa [Oi]at this
 have g:(s.heap.push Pg).Ns s.heap.objs.size (λ_=>none):=⟨Pg,#[],_,c,rfl,(λe i=>absurd i (by simp)),λ_=>rfl⟩
 have I1:=I.laid (a:=s.heap.objs.size) (o:=.own (s.heap.objs.size+1)) (h':=s.heap.push Pg) (t':=s.toks) (λb u q=>MX _ q) (Ni _) ⟨_,c⟩;refine I1.laid (a:=s.heap.objs.size+1) (o:=.ins C s.heap.objs.size []) (t':=s.toks) (λb u q=>MX _ q) (Nat.le_of_eq<|Oi _ _) ?_;have ne:s.heap.objs.size≠s.heap.objs.size+1:=Np (Q9 _);refine⟨by rw[aH ne,upd_same],N5 _,ne,j,λ_=>none,(Heap.Ns1.of_empty g).at λo q=>MX _ q,λ_=>OO,λy h=>absurd rfl h⟩
theorem Fx{prog:Program}{w:World}{env:Env}{e:Expr}{f:Str}{pos:Pos}{s:Shared}{Q:Value->Shared->Prop}(hb:attributeBase e f env (eval e env)=eval e env)
  (h:wpAny (model prog w) A (eval e env) (λo s₁=>wpAny (model prog w) A (getAttr o f true) Q E s₁) E s):wpAny (model prog w) A (eval (.Attribute e f pos) env) Q E s:=
 Attribute_any_ h (by rw[arm_eval_Attribute,hb])
end
def tFld(K:Ng)(ta:TE)(f:Str):TE:=λZ H Q=>ta Z H λx H1=>∃a C dx fs v,x=.ref a/\H1 a=some (.ins C dx fs)/\Cls K C/\NoAttr K C f/\fs.lookup f=some v/\Q v H1
def sFld(K:Ng)(ta tv:TE)(f:Str):TS:=λD Z H=>tv Z H λy H1=>ta Z H1 λx H2=>∃a C dx fs,x=.ref a/\H2 a=some (.ins C dx fs)/\Cls K C/\NoAttr K C f/\fs.length<1000/\
 D.nx Z (upd H2 a<|.ins C dx<|dE f y fs)
section
variable {X:Cx}{o e value:Expr}{f:Str}{pos pos' tpos:Pos}{ta tv:TE}
theorem Jw(he:PE X e ta)(hb:attributeBase e f X.env (eval e X.env)=eval e X.env):PE X (.Attribute e f pos) (tFld X.K ta f):=by
 intro b s Z H Q I h;refine Fx hb (bF (he b s Z H _ I h) λu r j=>?_);obtain⟨x,H1,I1,m,a,C,z,fs,v,p,g,c,n,l,q⟩:=j;subst p;obtain rfl:u=ND a:=m;exact ui I1 g c n l λy w I2 i=>⟨v,H1,I2,i,q⟩
theorem IW(ha:PE X o ta)(hv:PE X value tv)(hs:swapsWith value (some<|.Attribute o f pos') pos.line X.env=pure false):PS X (.Assign [.Attribute o f pos'] value pos) (sFld X.K ta tv f):=by
 intro b s Z H D I h;refine plainObj_wpAny_Assign_Attribute (bF (hv b s Z H _ I h) λu g ⟨y,H1,I1,p,q⟩=>bF (ha b g Z H1 _ I1 q) λm z r=>?_) hs;obtain⟨x,H2,I2,v,a,C,A,fs,w,i,c,n,l,j⟩:=r;subst w;obtain rfl:m=ND a:=v;exact sY I2 i c n l p λB I3=>⟨Z,_,I3,j⟩
end
section
variable {X:Cx}{pins:List (Addr×Obj)}{Z:St}{H:Hp}{s:Shared}{A:Around}{E:Value->Shared->Prop}{Q:Value->Shared->Prop}{c:Value}{b:Bool}
inductive TyOf(K:Ng)(H:Hp):V->Value->Prop where
 |non:TyOf K H .non (.type "NoneType")
 |bl (x:Bool):TyOf K H (.bl x) (.type "bool")
 |int (i:Int):TyOf K H (.int i) (.type "int")
 |str (x:Str):TyOf K H (.str x) (.type "str")
 |flt (x:UInt64):TyOf K H (.flt x) (.type "float")
 |lst {a:Addr} {xs:List V} (e:H a=some (.lst xs)):TyOf K H (.ref a) (.type "list")
 |frz {a:Addr} {o:Obj} {xs:List V} (e:H a=some (.frz o<|.lst xs)):TyOf K H (.ref a) (.type "list")
 |tup {a:Addr} {xs:List V} (e:H a=some (.tup xs)):TyOf K H (.ref a) (.type "tuple")
 |dK {a:Addr} {kvs:List (ax×V)} (e:H a=some (.dK kvs)):TyOf K H (.ref a) (.type "dict")
 |dT {a:Addr} {kvs:List (List ax×V)} (e:H a=some (.dT kvs)):TyOf K H (.ref a) (.type "dict")
 |ins {a C dx:Addr} {fs:List (Str×V)} (e:H a=some (.ins C dx fs)) (cl:Cls K C) (ha:Oz K (.ref C) "__class__"=some (some<|.builtin "object.__class__"))
   (hn:W.specialIn K (.builtin "object.__class__") "__get__"=some (some<|.builtin "getset_descriptor.__get__")) (htk:W.takesIn K (.builtin "object.__class__")=some true)
   (hm:W.mroIn K C (.type "object")=some true):TyOf K H (.ref a) (.ref C)
theorem yM{x:V}{u t:Value}(I:Inv X pins Z H s)(rx:RelV x u)(ty:TyOf X.K H x t)(e:W.kitOne X.K t c=some b)(h:∀tk,Q (.bool b) { s with toks:=tk }):
  wpAny (model X.prog X.w) A (call (.builtin "isinstance") [u,c]) Q E s:=by
 cases ty with
 |non=>cases (show u=Po from rx);exact Pn W.kitx_none I.kIn OO e (λz=>nomatch z) h
 |bl y=>cases (show u=Pb y from rx);exact Pn W.kitx_bool I.kIn OO e (λz=>nomatch z) h
 |int i=>obtain⟨t,q⟩:=(show ∃t,u=QX i t from rx);cases q;exact Pn W.kitx_int I.kIn OO e (λz=>nomatch z) h
 |str y=>obtain⟨t,q⟩:=(show ∃t,u=QW y t from rx);cases q;exact Pn W.kitx_str I.kIn OO e (λz=>nomatch z) h
 |flt y=>obtain⟨t,q⟩:=(show ∃t,u=RW y t from rx);cases q;exact Pn W.kitx_float I.kIn OO e (λz=>nomatch z) h
 |@lst a g ea=>
  cases (show u=ND a from rx);obtain⟨_,_,n,_,f⟩:=(show ObjOk X.prog X.w H s.heap a (.lst g) from I.hok a _ ea);exact Pn W.kitx_list I.kIn ⟨_,f,rfl⟩ e (λz=>nomatch z) h
 |@frz a ob g ea=>
  cases (show u=ND a from rx);obtain⟨_,_,_,n,_,f⟩:=(show ObjOk X.prog X.w H s.heap a (.frz ob<|.lst g) from I.hok a _ ea);exact Pn W.kitx_list I.kIn ⟨_,f,rfl⟩ e (λz=>nomatch z) h
 |@tup a g ea=>
  cases (show u=ND a from rx);obtain⟨_,_,_,p⟩:=(show ObjOk X.prog X.w H s.heap a (.tup g) from I.hok a _ ea);obtain⟨o,f,⟨j,_⟩,_⟩:=p;exact Pn W.kitx_tuple I.kIn ⟨o,f,j⟩ e (λz=>nomatch z) h
 |@dK a kvs ea=>
  cases (show u=ND a from rx);obtain⟨_,_,r,_,p⟩:=(show ObjOk X.prog X.w H s.heap a (.dK kvs) from I.hok a _ ea);obtain⟨o,l,m,f,j,_⟩:=p;exact Pn W.kitx_dict I.kIn ⟨o,f,j.1⟩ e (λz=>nomatch z) h
 |@dT a kvs ea=>
  cases (show u=ND a from rx);obtain⟨_,_,g,_,o,l,m,f,j,_⟩:=(show ObjOk X.prog X.w H s.heap a (.dT kvs) from I.hok a _ ea);exact Pn W.kitx_dict I.kIn ⟨o,f,j.1⟩ e (λz=>nomatch z) h
 |@ins a C dx fs ea cl ha hn htk hm=>
  cases (show u=ND a from rx);obtain⟨B,O,_⟩:=kn I.hok ea;obtain⟨v,J,_⟩:=O.look;exact Pn (W.kitx_own (cl.get _) cl.hd ha hn htk hm) I.kIn J e (λz=>nomatch z) h
end
structure Room(k:Nat)(A:Around):Prop where
 hd:A.handled=none
 dp:A.depth+3*k+5<recursionLimit
 un:A.units+16*k+200<cLine
 gd:A.guards=some []
theorem Room.mono{j k:Nat}{A:Around}(r:Room k A)(h:j<=k):Room j A:=⟨r.hd,by have:=r.dp;lia,by have:=r.un;lia,r.gd⟩
theorem Room.deeper{k:Nat}{A:Around}(r:Room (k+1) A)(env:Env):Room k (A.deeper env):=
 ⟨r.hd,by have:=r.dp;show A.depth+1+3*k+5<_;lia,by have:=r.un;show A.units+3+16*k+200<_;lia,r.gd⟩
theorem ss{A:Around}{C:Addr}{us:List Value}{kw:List (Str×Value)}:(A.under<|.builtin "type.__call__" ⟨.ref C::us,kw⟩).depth=A.depth+1:=by
 first|rfl|simp[QJ,Code.weight,Code.isCreation,Code.isGuard,Code.isCaller,Code.frames,RP,guardIds]
theorem sH{A:Around}{C:Addr}{us:List Value}{kw:List (Str×Value)}:(A.under<|.builtin "type.__call__" ⟨.ref C::us,kw⟩).units=A.units+1:=by
 first|rfl|simp[QJ,Code.cUnits,Code.frames,RP]
theorem qZ{A:Around}{C:Addr}{us:List Value}{kw:List (Str×Value)}:(A.under<|.builtin "type.__call__" ⟨.ref C::us,kw⟩).guards=A.guards:=by
 first|rfl|simp[QJ,Code.guards,pushGuards,Code.isGuard,guardIds]
theorem Room.make{k:Nat}{A:Around}(r:Room (k+1) A)(C:Addr)(us:List Value)(kw:List (Str×Value)):Room k (A.under<|.builtin "type.__call__" ⟨.ref C::us,kw⟩):=
 ⟨r.hd,by have:=r.dp;rw[ss];lia,by have:=r.un;rw[sH];lia,by rw[qZ];exact r.gd⟩
theorem Room.depth{k:Nat}{A:Around}(r:Room k A):A.depth<recursionLimit:=by have:=r.dp;lia
theorem Room.units{k:Nat}{A:Around}(r:Room k A):A.units+64<cLine:=by have:=r.un;lia
def tNil:TA:=λ_ H Q=>Q [] H
def Lq(ta:TE)(tr:TA):TA:=λZ H Q=>ta Z H λx H1=>tr Z H1 λa H2=>Q (x::a) H2
section
variable {X:Cx}{e:Expr}{es:List Expr}{te:TE}{t:TA}{pos:Pos}
theorem Aq:PA X [] tNil:=λ_ _ _ _ H Q I h=>Pz ⟨[],H,I,.nil,h⟩
theorem vY(ha:PE X e te)(hr:PA X es t)(hs:starEach (e::es) X.env=(false,eval e X.env)::starEach es X.env:=by rfl):PA X (e::es) (Lq te t):=by
 intro pos a s Z H Q I h;rw[hs];show wpAny _ _ (spliced ((false,eval e X.env)::backTo pos (starEach es X.env))) _ _ s;refine O0 (bF (ha a s Z H _ I h) λu b ⟨x,H1,I1,i,j⟩=>?_);exact bF (hr pos a b Z H1 _ I1 j) λm l ⟨c,H2,I2,g,f⟩=>⟨x::c,H2,I2,.cons i g,f⟩
def tTup(t:TA):TE:=λZ H Q=>t Z H λa H1=>a.length<=sizeLine/\∀p,H1 p=none->Q (.ref p) (upd H1 p<|.tup a)
def tLst(t:TA):TE:=λZ H Q=>t Z H λa H1=>a.length<=sizeLine/\∀p,H1 p=none->Q (.ref p) (upd H1 p<|.lst a)
theorem JC{x1}(h:PA X es t):PE X (.Tuple es x1 pos) (tTup t):=by
 intro a s Z H Q I f;refine wpAny_Tuple_spliced (bF (h pos a s Z H _ I f) λj c ⟨g,H1,I1,r,z,q⟩=>⟨by rw[<- r.length];exact z,?_⟩)
 have i:H1 c.heap.objs.size=none:=I1.hok.fresh (Ni _);refine⟨.ref c.heap.objs.size,upd H1 c.heap.objs.size (.tup g),I1.laid (t':=c.toks) (λb u e=>MX _ e) (Ni _) ?_,rfl,q _ i⟩;exact⟨z,j,r,⟨_,Nj _ rfl,⟨rfl,_,rfl⟩,rfl⟩⟩
theorem HX(h:PA X es t):PE X (.List es pos) (tLst t):=by
 intro a s Z H Q I f;refine wpAny_List_spliced (bF (h pos a s Z H _ I f) λj c ⟨g,H1,I1,r,z,q⟩=>⟨by rw[<- r.length];exact z,?_⟩)
 have i:H1 c.heap.objs.size=none:=I1.hok.fresh (Ni _);refine⟨.ref c.heap.objs.size,upd H1 c.heap.objs.size (.lst g),I1.laid (t':=c.toks) (λb u e=>MX _ e) (Ni _) ?_,rfl,q _ i⟩;exact⟨z,j,0,r,Nj _ rfl⟩
end
abbrev Sp:=List V->Hp->VK->XK->Prop
abbrev pq:=List Env->Hp->Shared->XK->Value->Shared->Prop
structure Env0(P:Program)(w:World)(K:Ng)(mg:Str->Option Value)(base:Heap)(A:Around)(outer:List Env)(s:Shared)(H:Hp):Prop where
 frames:A.frames=some outer
 mod:Mod K mg base
 bs:∀b o,base.get? b=some o->s.heap.get? b=some o/\H b=none
 bsz:base.objs.size<=s.heap.objs.size
 funs:s.heap.FunFrames base outer
 frf:∀b∈g8 outer,H b=none
 hok:HOk P w H s.heap
 bare:AllBare s.gens
def CE(outer:List Env)(P:Program)(w:World)(H:Hp)(s:Shared)(Q:VK)(u:Value)(s':Shared):Prop:=
 ∃v H',s'.os=s.os/\AllBare s'.gens/\Un (g8 outer) [] H H' s.heap s'.heap/\HOk P w H' s'.heap/\RelV v u/\Q v H'
def CR(CX:pq)(outer:List Env)(P:Program)(w:World)(H:Hp)(s:Shared)(Q:VK)(E:XK)(r:Result)(s':Shared):Prop:=
 match r with
 |.ok (.ret u)=>CE outer P w H s Q u s'
 |.ok _=>False
 |.error e=>CX outer H s E e s'
structure FnOk(P:Program)(w:World)(K:Ng)(mg:Str->Option Value)(base:Heap)(CX:pq)(k:Nat)(f:Addr)(fd:FuncData)(ps:List Str)(sp:Sp):Prop where
 len:∀vs H Q E,sp vs H Q E->vs.length=ps.length
 run:∀(A:Around) (outer:List Env) (s:Shared) (H:Hp) (args:Args) (us:List Value) (vs:List V) (Q:VK) (E:XK),Room k A->Env0 P w K mg base A outer s H->BindsTo s fd args (ps.zip us)->Vals vs us->sp vs H Q E->
  codeAny (model P w) A (.call (.ref f) args) (CR CX outer P w H s Q E) s
theorem FnOk.imp{P:Program}{w:World}{K:Ng}{mg:Str->Option Value}{base:Heap}{CX:pq}{k:Nat}{f:Addr}{fd:FuncData}{ps:List Str}{sp sp':Sp}(F:FnOk P w K mg base CX k f fd ps sp)
  (h:∀vs H Q E,sp' vs H Q E->sp vs H Q E):FnOk P w K mg base CX k f fd ps sp':=
 ⟨λvs H Q E q=>F.len vs H Q E (h _ _ _ _ q),λA a s H b g vs Q E j e i c l=>F.run A a s H b g vs Q E j e i c (h _ _ _ _ l)⟩
theorem Env0.make{P:Program}{w:World}{K:Ng}{mg:Str->Option Value}{base:Heap}{A:Around}{outer:List Env}{s:Shared}{H:Hp}(e:Env0 P w K mg base A outer s H)(C:Addr)(us:List Value)(kw:List (Str×Value)):
  Env0 P w K mg base (A.under<|.builtin "type.__call__" ⟨.ref C::us,kw⟩) outer s H:=⟨by first|exact e.frames|(simpa [QJ,Code.envs,RP,pushEnvs] using e.frames),e.mod,e.bs,e.bsz,e.funs,e.frf,e.hok,e.bare⟩
section
variable {X:Cx}{pins:List (Addr×Obj)}{Z:St}{H:Hp}{s s':Shared}
theorem Inv.env0(I:Inv X pins Z H s):Env0 X.prog X.w X.K X.mg X.base X.A X.stack s H:=
 ⟨I.ok.frames,I.ok.mod,I.bs,Ny I.ok.bsz I.sz,I.stack,I.stkFree,I.hok,I.bare⟩
theorem Inv.after{Q:VK}{u:Value}(I:Inv X pins Z H s)(h:CE X.stack X.prog X.w H s Q u s'):EP X pins Z Q u s':=by
 obtain⟨v,H',os,a,un,c,r,q⟩:=h;obtain⟨f,g,d,t,e⟩:=s';obtain rfl:e=s.os:=os;exact⟨v,H',I.call (h':=f) (g':=g) (d':=d) (t':=t) (ch:=[]) un c a (λb z=>absurd z (by simp)),r,q⟩
end
def MF(sp:Sp)(dvs:List V)(E:XK)(t:TA):TE:=λZ H Q=>t Z H λa H1=>sp (a++dvs) H1 Q E
def LP(C:Addr)(m:Str)(sp:Sp)(dvs:List V)(E:XK)(ta:TE)(t:TA):TE:=λZ H Q=>ta Z H λx H1=>∃a dx fs,x=.ref a/\H1 a=some (.ins C dx fs)/\fs.lookup m=none/\
 t Z H1 λb H2=>sp (x::(b++dvs)) H2 Q E
def L1(C:Addr)(sp:Sp)(dvs:List V)(E:XK)(t:TA):TE:=λZ H Q=>t Z H λa H1=>∀x dx,H1 x=none->H1 dx=none->dx≠x->
 sp (.ref x::(a++dvs)) (upd (upd H1 dx<|.own x) x<|.ins C dx []) (λv H2=>v=.non/\Q (.ref x) H2) E
def Binds(K:Ng)(fd:FuncData)(ps:List Str)(ds:List Value):Prop:=
 ∀(s:Shared) (us:List Value),K.In s.heap->(us++ds).length=ps.length->BindsTo s fd ⟨us,[]⟩ (ps.zip (us++ds))
theorem Binds.all{K:Ng}{fd:FuncData}{ps:List Str}(h:∀us:List Value,us.length=ps.length->bindArgs fd ⟨us,[]⟩=pure (ps.zip us)):Binds K fd ps []:=λs us _ a=>by
 rw[NT]at a ⊢;exact .of_eq (h us a)
def ck(CX:pq)(X:Cx)(E:XK):Prop:=∀(pins:List (Addr×Obj)) (Z:St) (H:Hp) (s:Shared) (e:Value) (s':Shared),Inv X pins Z H s->CX X.stack H s E e s'->X.xe e s'
section
variable {X:Cx}{CX:pq}{k:Nat}{f C:Addr}{fd:FuncData}{ps:List Str}{sp:Sp}{dvs:List V}{ds:List Value}{E:XK}{x m:Str}{p pos apos:Pos}{e o:Expr}{es:List Expr}{ta:TE}{t:TA}
theorem Co{pins:List (Addr×Obj)}{Z:St}{H:Hp}{s:Shared}{Q:VK}{us:List Value}{vs:List V}(F:FnOk X.prog X.w X.K X.mg X.base CX k f fd ps sp)(hr:Room k X.A)(hb:Binds X.K fd ps ds)(hd:Vals dvs ds)(hx:ck CX X E)
  (I:Inv X pins Z H s) (r:Vals vs us) (h:sp (vs++dvs) H Q E):wpAny (model X.prog X.w) X.A (call (.ref f) us) (EP X pins Z Q) X.xe s:=by
 have b:Vals (vs++dvs) (us++ds):=r.append hd;have g:(us++ds).length=ps.length:=by rw[<- b.length];exact F.len _ _ _ _ h
 refine wpAny_call (codeAny_mono (F.run X.A X.stack s H ⟨us,[]⟩ (us++ds) (vs++dvs) Q E hr I.env0 (hb s us I.kIn g) b h) λr c a=>?_);cases r with
 |error e=>exact hx pins Z H s e c I a
 |ok fl=>
  cases fl with
  |ret u=>exact I.after a
  |next=>exact Ov a
  |brk=>exact Ov a
  |cont=>exact Ov a
theorem ED(F:FnOk X.prog X.w X.K X.mg X.base CX k f fd ps sp)(hr:Room k X.A)(hg:Gl X x)(hm:X.mg x=some (.ref f))(hk:Pw X.K (.ref f)=true)(hb:Binds X.K fd ps ds)(hd:Vals dvs ds)(hx:ck CX X E)
  (ha:PA X (e::es) t) (hdb:(x==("__debug__":Str))=false:=by decide) (he:starEach (e::es) X.env=(false,eval e X.env)::starEach es X.env:=by rfl) (hpl:(backTo pos<|starEach es X.env).any (·.1)=false:=by rfl):
  PE X (.Call (.Name x p) (e::es) [] pos) (MF sp dvs E t):=by
 intro a s Z H Q I h;refine wpAny_Call_Name_kw (gM I hg hm ?_ hdb);refine Q8 (h₀:=X.base) I.ok.mod.kin hk (bF (ha pos a s Z H _ I h) λc b ⟨g,H1,I1,r,q⟩=>⟨I1.kIn,?_⟩) he hpl;exact Co F hr hb hd hx I1 r q
theorem Fa{pl:Sem Bool}(he:PE X o ta)(c:Cls X.K C)(hm:Meth X.K C m f)(F:FnOk X.prog X.w X.K X.mg X.base CX k f fd ps sp)(hr:Room k X.A)(hb:Binds X.K fd ps ds)(hd:Vals dvs ds)(hx:ck CX X E)(ha:PA X (e::es) t)
  (hst:starEach (e::es) X.env=(false,eval e X.env)::starEach es X.env:=by rfl) (hpl:(backTo pos<|starEach es X.env).any (·.1)=false:=by rfl)
  (ht:eval (.Call (.Attribute o m apos) (e::es) [] pos) X.env=(do
   let ov <- eval o X.env
   standAt apos.atName
   let (f,first) <- holding [ov] (getMethod ov m pl)
   callWith pos f first (backTo pos<|starEach (e::es) X.env) (backToKw pos<|keywordEach [] X.env)):=by rfl):
  PE X (.Call (.Attribute o m apos) (e::es) [] pos) (LP C m sp dvs E ta t):=by
 intro b s Z H Q I h;refine W.methodCall_KW (pl:=pl) (bF (he b s Z H _ I h) λu g n=>?_) ht;obtain⟨x,H1,I1,v,a,B,fs,y,i,l,q⟩:=n;subst y;obtain rfl:u=ND a:=v;refine tM I1 i c hm l ?_;refine Q8 (first:=[.ref a]) (h₀:=X.base) I.ok.mod.kin hm.kp (bF (ha pos b g Z H1 _ I1 q) λus z ⟨vs,H2,I2,r,j⟩=>⟨I2.kIn,?_⟩) hst hpl
 exact Co (us:=.ref a::us) (vs:=.ref a::vs) F hr hb hd hx I2 (.cons rfl r) j
structure Mk(K:Ng)(C f:Addr):Prop where
 makes:Rc K C=true
 init:Oz K (.ref C) "__init__"=some (some<|.ref f)
 fn:W.isFn K (.ref f)=true
 kp:Pw K (.ref C)=true
theorem B9{pins:List (Addr×Obj)}{Z:St}{H:Hp}{s:Shared}{Q:VK}{us:List Value}{vs:List V}(M:Mk X.K C f)(F:FnOk X.prog X.w X.K X.mg X.base CX k f fd ps sp)(hr:Room (k+1) X.A)(hb:Binds X.K fd ps ds)(hd:Vals dvs ds)
  (hx:ck CX X E) (I:Inv X pins Z H s) (r:Vals vs us)
  (h:∀x dx,H x=none->H dx=none->dx≠x->sp (.ref x::(vs++dvs)) (upd (upd H dx<|.own x) x<|.ins C dx []) (λv H2=>v=.non/\Q (.ref x) H2) E):
  wpAny (model X.prog X.w) X.A (call (.ref C) us) (EP X pins Z Q) X.xe s:=by
 have c:=h (s.heap.objs.size+1) s.heap.objs.size (I.hok.fresh<|Rb _) (I.hok.fresh<|Ni _) (Np<|Q9 _);have I2:=CK (C:=C) I;have b:Vals (V.ref (s.heap.objs.size+1)::(vs++dvs)) (ND (s.heap.objs.size+1)::(us++ds)):=.cons rfl (r.append hd);have j:(ND (s.heap.objs.size+1)::us++ds).length=ps.length:=by
  have e:=b.length;rw[F.len _ _ _ _ c]at e;exact e.symm
 refine wpAny_call (BP (f:=f) I.kIn M.makes M.init (beq_iff_eq.mp M.fn) (codeAny_mono (F.run _ X.stack _ _ ⟨ND (s.heap.objs.size+1)::us,[]⟩ (ND (s.heap.objs.size+1)::(us++ds)) _ _ E (hr.make C us [])
  (I2.env0.make C us []) (hb _ (ND (s.heap.objs.size+1)::us) I2.kIn j) b c) λr g a=>?_))
 cases r with
 |error e=>exact hx pins Z _ _ e g I2 a
 |ok fl=>
  cases fl with
  |ret u=>
   obtain⟨v,H',I3,n,i,l⟩:=I2.after a;subst i;exact⟨n,⟨V.ref (s.heap.objs.size+1),H',I3,rfl,l⟩⟩
  |next=>exact Ov a
  |brk=>exact Ov a
  |cont=>exact Ov a
theorem DL(M:Mk X.K C f)(F:FnOk X.prog X.w X.K X.mg X.base CX k f fd ps sp)(hr:Room (k+1) X.A)(hg:Gl X x)(hm:X.mg x=some (.ref C))(hb:Binds X.K fd ps ds)(hd:Vals dvs ds)(hx:ck CX X E)
  (ha:PA X (e::es) t) (hdb:(x==("__debug__":Str))=false:=by decide) (he:starEach (e::es) X.env=(false,eval e X.env)::starEach es X.env:=by rfl) (hpl:(backTo pos<|starEach es X.env).any (·.1)=false:=by rfl):
  PE X (.Call (.Name x p) (e::es) [] pos) (L1 C sp dvs E t):=by
 intro a s Z H Q I h;refine wpAny_Call_Name_kw (gM I hg hm ?_ hdb);refine Q8 (h₀:=X.base) I.ok.mod.kin M.kp (bF (ha pos a s Z H _ I h) λc b ⟨g,H1,I1,r,q⟩=>⟨I1.kIn,?_⟩) he hpl;exact B9 M F hr hb hd hx I1 r q
end
section
variable {X:Cx}{CX:pq}{k:Nat}{f C:Addr}{fd:FuncData}{ps ks:List Str}{sp:Sp}{E:XK}{x m:Str}{p pos apos kpos:Pos}{e o:Expr}{es:List Expr}{kws:List Keyword}{te ta:TE}{t tk:TA}{nm:Option Str}
variable {g:List Value->List Value->List Value}{gV:List V->List V->List V}
end
structure FnScope(N P:List Str)(sc:Scope):Prop where
 kind:sc.kind=.function
 co:sc.isCoroutine=false
 gen:sc.isGenerator=false
 nd:N.Nodup
 pre:N.take P.length=P
 par:∀x∈P,sc.names.lookup x=some .local\/sc.names.lookup x=some .cell
 nofree:∀y∈sc.names,y.2≠.free
theorem mO{kindOf:Str->Option NameKind}{x:Str}:∀{binds:List (Str×Value)} {m:Str->Option Value},(∀v,(x,v)∉binds)->bindL kindOf binds m x=m x
 |[],_,_=>rfl
 |(n,v)::r,m,h=>by
  unfold bindL;rw[mO λw a=>h w (Nk _ a)]
  split
  .have:x≠n:=by rintro rfl;exact h v P6
   simp[this]
  .rfl
theorem nF{kindOf:Str->Option NameKind}{x:Str}:∀{binds:List (Str×Value)} {m:Str->Option Value},(∀v,(x,v)∉binds)->bindC kindOf binds m x=m x
 |[],_,_=>rfl
 |(n,v)::r,m,h=>by
  unfold bindC;rw[nF λw a=>h w (Nk _ a)]
  split
  .rfl
  .have:x≠n:=by rintro rfl;exact h v P6
   simp[this]
theorem mY{kindOf:Str->Option NameKind}{x:Str}{v:Value}:∀{P:List Str} {vs:List Value} {i:Nat} {m:Str->Option Value},P.Nodup->P[i]?=some x->vs[i]?=some v->kindOf x=some .local->
  bindL kindOf (P.zip vs) m x=some v
 |[],_,_,_,_,h,_,_=>by simp at h
 |_::_,[],_,_,_,_,h,_=>by simp at h
 |p::P,w::vs,0,m,nd,h1,h2,hk=>by
  simp at h1 h2;subst h1;subst h2;show bindL kindOf ((p,w)::P.zip vs) m p=_;unfold bindL;rw[mO λv a=>(PR.mp nd).1 (PQ a).1,if_pos hk];simp
 |p::P,w::vs,i+1,m,nd,h1,h2,hk=>by
  show bindL kindOf ((p,w)::P.zip vs) m x=_;unfold bindL;exact mY (i:=i) (PR.mp nd).2 (by simpa using h1) (by simpa using h2) hk
theorem nK{kindOf:Str->Option NameKind}{x:Str}{v:Value}:∀{P:List Str} {vs:List Value} {i:Nat} {m:Str->Option Value},P.Nodup->P[i]?=some x->vs[i]?=some v->kindOf x≠some .local->
  bindC kindOf (P.zip vs) m x=some v
 |[],_,_,_,_,h,_,_=>by simp at h
 |_::_,[],_,_,_,_,h,_=>by simp at h
 |p::P,w::vs,0,m,nd,h1,h2,hk=>by
  simp at h1 h2;subst h1;subst h2;show bindC kindOf ((p,w)::P.zip vs) m p=_;unfold bindC;rw[nF λv a=>(PR.mp nd).1 (PQ a).1,if_neg hk];simp
 |p::P,w::vs,i+1,m,nd,h1,h2,hk=>by
  show bindC kindOf ((p,w)::P.zip vs) m x=_;unfold bindC;exact nK (i:=i) (PR.mp nd).2 (by simpa using h1) (by simpa using h2) hk
def start(N:List Str)(vs:List V):St:=vs.map some++Nh (N.length-vs.length) none
def dU(CX:pq)(P:Program)(w:World)(K:Ng)(mg:Str->Option Value)(base:Heap)(N:List Str)(qual:Str)(scope:Scope)(f:Addr)(cd:Value)(A:Around)(outer:List Env)(s:Shared)(H:Hp)(E:XK):Cx where
 prog:=P
 w:=w
 K:=K
 mg:=mg
 base:=base
 A:=A.deeper (envOfC qual scope s.heap.objs.size f cd)
 N:=N
 s₀:=s
 H₀:=H
 env:=envOfC qual scope s.heap.objs.size f cd
 outer:=outer
 stack:=envOfC qual scope s.heap.objs.size f cd::outer
 ex:=[]
 calm:=true
 fn:=λ_=>true
 pn:=[]
 xe:=λe b=>wpAny (model P w) (A.deeper<|envOfC qual scope s.heap.objs.size f cd) (leaving (envOfC qual scope s.heap.objs.size f cd) e) (λ_ a=>CX outer H s E e a) (λc a=>CX outer H s E c a) b
theorem rH{sc:Scope}{n:Nat}{x:Str}(h:sc.names.lookup x=some .cell):∃c,(cellsFrom n sc.names []).lookup x=some c:=by
 have q:=W.cellsFrom_some sc.names n [] (.inl h);exact Rr.mp q
theorem ze{CX:pq}{P:Program}{w:World}{K:Ng}{mg:Str->Option Value}{base:Heap}{N ps:List Str}{qual:Str}{scope:Scope}{f:Addr}{cd:Value}{A:Around}{outer:List Env}{s s1:Shared}{H:Hp}{E:XK}{us:List Value}{vs:List V}
  (S:FnScope N ps scope) (hd:A.handled=none) (e0:Env0 P w K mg base A outer s H) (hl:vs.length=ps.length) (r:Vals vs us)
  (x:InCallC s s.heap.objs.size (bindL (envOfC qual scope s.heap.objs.size f cd).kindOf (ps.zip us) λ_=>none) (cellsFrom (s.heap.objs.size+1) scope.names []) (bindC (envOfC qual scope s.heap.objs.size f cd).kindOf (ps.zip us) λ_=>none) s1):
  Inv (dU CX P w K mg base N qual scope f cd A outer s H E) [] (start N vs) H s1:=by
 have J:ps.length<=N.length:=by have:=congrArg Oj S.pre;rw[NP]at this;lia
 obtain⟨B,M,rfl,C⟩:=x.done;have j:∀b:Addr,b∉(dU CX P w K mg base N qual scope f cd A outer s H E).ex:=λb z=>absurd (show b∈([]:List Addr) from z) (by simp)
 refine⟨⟨e0.mod,S.kind,rfl,rfl,Ni _,λy z c B g=>?_,λy hy=>?_,λy c _ h=>?_,λ_=>hd,Around.frames_deeper e0.frames,.inr ⟨rfl,rfl⟩,λb z=>absurd z (j b),e0.bs,e0.bsz,λb _ _=>j b,λb z=>absurd z (j b),e0.funs,e0.frf⟩,
  rfl,e0.bare,Un.kept C,⟨_,x.toInCall.ns,λi y v B g L=>?_⟩,λy c h=>⟨_,x.cell y c h⟩,e0.hok.fresh (Ni _),λy c h=>?_,λp l=>absurd (show p∈([]:List (Addr×Obj)) from l) (by simp),e0.hok.kept C,?_⟩
 .exact name_of_addr x.apart (OK B) (OK g)
 .have hy:scope.names.lookup y=some .cell\/scope.names.lookup y=some .free:=hy
  rcases hy with hy|hy
  .exact rH hy
  .exact absurd rfl (S.nofree _<|OK hy)
 .exact Qn (x.above y c<|OK h)
 .have o:i<vs.length:=by
   unfold start at g
   by_cases o:i<vs.length
   .exact o
   .rw[Ox (by simpa using o)]at g
    rw[RJ]at g
    split at g<;>cases g
  have G:vs[i]?=some v:=by
   unfold start at g;rw[OQ (by simpa using o),Nr]at g
   cases e:vs[i]? with
   |none=>rw[e]at g;cases g
   |some a=>rw[e]at g;cases g;rfl
  obtain⟨u,F,I⟩:=r.get G;have l:ps[i]?=some y:=by
   rw[<- S.pre,List.getElem?_take_of_lt (by lia)];exact B
  have m:ps.Nodup:=by rw[<- S.pre];exact S.nd.sublist (List.take_sublist _ _)
  refine⟨u,I,?_⟩;rcases S.par y (Qt l) with k|k
  .exact .inl ⟨k,mY m l F k⟩
  .obtain⟨c,e⟩:=rH (n:=s.heap.objs.size+1) k
   refine .inr ⟨.inl k,c,e,?_⟩;have q:=x.cell y c e;rw[nK m l F (by show scope.names.lookup y≠_;rw[k];decide)]at q
   exact q
 .exact e0.hok.fresh (Qn<|x.above y c<|OK h)
 .unfold start
  show _=N.length;rw[Nd,MW,List.length_replicate];lia
theorem KD{CX:pq}{P:Program}{w:World}{K:Ng}{mg:Str->Option Value}{base:Heap}{k:Nat}{f:Addr}{name qual:Str}{params:Arguments}{body:List Stmt}{scope:Scope}{dV kV doc pm cdv ct oc:Value}{an od:Option Addr}
  {osl:Array (Option Value)} {N ps:List Str} {sp:Sp} (lk:K.lookup f=some ⟨oc,od,.func (Qs name qual params body scope dV kV doc pm an cdv ct),osl⟩) (hcd:W.codeIn K cdv qual=true) (S:FnScope N ps scope)
  (len:∀vs H Q E,sp vs H Q E->vs.length=ps.length)
  (hbody:∀(A:Around) (outer:List Env) (s:Shared) (H:Hp) (vs:List V) (Q:VK) (E:XK),Room k (A.deeper<|envOfC qual scope s.heap.objs.size f cdv)->sp vs H Q E->
   ∃t,wo (dU CX P w K mg base N qual scope f cdv A outer s H E) body t/\t { nx:=λ_ H'=>Q .non H',rt:=Q } (start N vs) H):
  FnOk P w K mg base CX (k+1) f (Qs name qual params body scope dV kV doc pm an cdv ct) ps sp:=by
 refine⟨len,λA outer s H z O vs Q E m h R r i=>?_⟩;have M:=len _ _ _ _ i;have KX:K.In s.heap:=h.mod.kin.keeps λb o e=>(h.bs b o e).1;have l:s.heap.NoLimit:=h.mod.nolimit.keeps λb o e=>(h.bs b o e).1;have c:∀y∈ps.zip O,scope.names.lookup y.1=some .local\/(scope.names.lookup y.1=some .cell/\((cellsFrom (s.heap.objs.size+1) scope.names []).lookup y.1).isSome=true):=λ⟨n,v⟩ C=>by
  rcases S.par n (PQ C).1 with q|q
  .exact .inl q
  .exact .inr ⟨q,W.cellsFrom_some _ _ _<|.inl q⟩
 refine codeAny_call_function m.depth (KX _ _ lk) rfl S.co S.gen rfl (W.codeRec_of KX hcd) (R _ _ _ _ ?_);refine wpAny_newFunctionEnv_cells S.kind c λenv G B x=>?_;subst G;refine⟨l.keeps x.toInCall.keep,codeAny_func ?_⟩;obtain⟨t,T,F⟩:=hbody A outer s H vs Q E (m.deeper _) i;have I:Inv (dU CX P w K mg base N qual scope f cdv A outer s H E) [] (start N vs) H B:=ze S m.hd h M r x;refine wpAny_mono (T [] B (start N vs) H _ I F) (λL j g=>?_) λe j g=>g;have fin:∀{a:St} {H':Hp} {v:V} {u:Value},Inv (dU CX P w K mg base N qual scope f cdv A outer s H E) [] a H' j->RelV v u->Q v H'->CE outer P w H s Q u j:=
  λ{a H' v u} J p q=>⟨v,H',J.os,J.bare,J.base,J.hok,p,q⟩
 cases L with
 |ret u=>
  obtain⟨v,a,H',J,p,q⟩:=g;exact fin J p q
 |next=>
  obtain⟨a,H',J,q⟩:=g;exact fin (v:=V.non) (u:=Po) J rfl q
 |brk=>
  obtain⟨_,_,_,q⟩:=g;exact Ov q
 |cont=>
  obtain⟨_,_,_,q⟩:=g;exact Ov q
section
variable {X:Cx}{x:Str}{p pos:Pos}{e:Expr}{es:List Expr}{t:TA}{id T:String}{r:List V->Hp->VK->Prop}
def tCB(r:List V->Hp->VK->Prop)(t:TA):TE:=λZ H Q=>t Z H λa H1=>r a H1 Q
theorem A1(hc:bG X (.builtin id) r)(hg:Gl X x)(hm:X.mg x=none)(hv:bootBuiltins x=some (.builtin id))(ha:PA X (e::es) t)(hn:x≠"__name__":=by decide)(hdb:(x==("__debug__":Str))=false:=by decide)
  (he:starEach (e::es) X.env=(false,eval e X.env)::starEach es X.env:=by rfl) (hpl:(backTo pos<|starEach es X.env).any (·.1)=false:=by rfl):PE X (.Call (.Name x p) (e::es) [] pos) (tCB r t):=by
 intro a s Z H Q I h;refine wpAny_Call_Name_kw (dS I hg hm hv ?_ hn hdb);exact PyProof.Rows.callWith_builtin1 (bF (ha pos a s Z H _ I h) λg b ⟨i,H1,I1,c,f⟩=>hc a b Z H1 i g Q I1 c f) he hpl
theorem yV(hc:bG X (.type T) r)(hg:Gl X x)(hm:X.mg x=none)(hv:bootBuiltins x=some (.type T))(ha:PA X (e::es) t)(hn:x≠"__name__":=by decide)(hdb:(x==("__debug__":Str))=false:=by decide)
  (he:starEach (e::es) X.env=(false,eval e X.env)::starEach es X.env:=by rfl) (hpl:(backTo pos<|starEach es X.env).any (·.1)=false:=by rfl):PE X (.Call (.Name x p) (e::es) [] pos) (tCB r t):=by
 intro a s Z H Q I h;refine wpAny_Call_Name_kw (dS I hg hm hv ?_ hn hdb);exact NX (bF (ha pos a s Z H _ I h) λg b ⟨i,H1,I1,c,f⟩=>hc a b Z H1 i g Q I1 c f) he hpl
end
end L2
namespace HT
open PySem PyProof.Rows
section
open PySem.SeqAt
open PySem.AutoSeq1 (wpAny_loadPart')
open PySem.MeetsSeq PySem.MeetsSeq2 PySem.MeetsSeq3
end
section
variable {prog:Program}{w:World}{A:Around}{E:Value->Shared->Prop}{s:Shared}
theorem Fi{t b:Addr}{vs ws:List Value}{Q:Value->Shared->Prop}(ht:IsTup s.heap t vs.toArray)(hb:IsTup s.heap b ws.toArray)(hv:vs≠[])
  (h1:ws=[]->Q (.ref t) s) (h2:ws≠[]->Q (.ref s.heap.objs.size) { s with heap:=s.heap.push { cls:=.type "tuple",data:=.seq (vs++ws).toArray } })
  (hsz:vs.length+ws.length<=sizeLine):wpAny (model prog w) A (binaryOp .Add (.ref t)<|.ref b) Q E s:=by
 obtain⟨⟨cls,o,data,u⟩,i,p,n,m⟩:=id ht;obtain⟨⟨q,g,l,h⟩,a,c,r,f⟩:=id hb;simp only at p m c f;subst p m c f;have e:vs.toArray++ws.toArray=(vs++ws).toArray:=by simp
 by_cases j:ws=[]
 .exact concat_meets ⟨_,i,rfl⟩ ⟨_,a,rfl⟩ noFill_tuple_add seq_tuple_add Qf Qc (P8 _ _)
   (tuple_addW1 t b vs.toArray ws.toArray n r o g u h (by simpa using hv)<|by simp[j]) ⟨i,a,h1 j⟩
 .refine concat_meets ⟨_,i,rfl⟩ ⟨_,a,rfl⟩ noFill_tuple_add seq_tuple_add Qf Qc (P8 _ _)
   (tuple_addW2 t b vs.toArray ws.toArray n r o g u h (by simpa using hv) (by simpa using j)<|by rw[Na,Na];exact hsz) ⟨i,a,?_⟩
  rw[e];exact h2 j
def sIx(n d:Nat):Option Int->Nat
 |none=>d
 |some v=>if v<0 then (v+(n:Int)).toNat else min v.toNat n
theorem rG(n d:Nat):sIx n d none=d:=rfl
theorem vR(n d k:Nat):sIx n d (some (k:Int))=min k n:=by
 show (if (k:Int)<0 then ((k:Int)+(n:Int)).toNat else min (k:Int).toNat n)=min k n
 rw[if_neg (by lia),Nw]
theorem Hy(n d:Nat)(hd:d<=n)(o:Option Int):sIx n d o<=n:=by
 cases o with
 |none=>exact hd
 |some v=>
  show (if v<0 then (v+(n:Int)).toNat else min v.toNat n)<=n
  by_cases a:v<0
  .rw[if_pos a];lia
  .rw[if_neg a];exact Nat.min_le_right _ _
theorem uS(v:Int)(n d:Nat):(if v<0 then max (v+(n:Int)) 0 else min v (n:Int))=((sIx n d (some v):Nat):Int):=by
 show (if v<0 then max (v+(n:Int)) 0 else min v (n:Int))=(((if v<0 then (v+(n:Int)).toNat else min v.toNat n):Nat):Int)
 by_cases a:v<0
 .simp only[if_pos a];lia
 .simp only[if_neg a];lia
theorem tY(lo hi:Option Int)(n:Nat):PK lo hi 1 (n:Int)=(((sIx n 0 lo:Nat):Int),((sIx n n hi:Nat):Int)):=by
 have a:¬((1:Int)<0):=by lia
 unfold PK;simp only[a,if_false];refine Prod.ext ?_ ?_
 .cases lo with
  |none=>rfl
  |some v=>exact uS v n 0
 .cases hi with
  |none=>rfl
  |some v=>exact uS v n n
theorem tR(i j:Nat):O4 (i:Int) (j:Int) 1=j-i:=by
 unfold O4;have a:(1:Int)>0:=by lia
 simp only[a,if_true,Int.ediv_one]
 split<;>lia
theorem ms{v:Value}{o:Option Int}{Q:Option Int->Shared->Prop}(p:IsPart v o)(h:Q o s):wpAny (model prog w) A (Builtin.Slice.slicePartIndex v) Q E s:=by
 cases p with
 |none=>exact slicePart_none h
 |int i t=>exact slicePart_int h
theorem eg{sl:Addr}{vl vu:Value}{lo hi:Option Int}{n:Nat}{Q:Int×Int×Nat->Shared->Prop}(hs:s.heap.IsSliceOf sl vl vu .none)(pl:IsPart vl lo)(pu:IsPart vu hi)
  (h:Q (((sIx n 0 lo:Nat):Int),1,sIx n n hi-sIx n 0 lo) s):wpAny (model prog w) A (QD (.ref sl)<|pure (n:Int)) Q E s:=by
 obtain⟨e,b,c,a⟩:=id hs;unfold QD Builtin.Slice.sliceFields;refine wpAny_bind (wpAny_bind<|wpAny_field b a (x:=vl) rfl<|wpAny_bind<|wpAny_field b a (x:=vu) rfl<|wpAny_bind<|wpAny_field b a (x:=.none) rfl<|wpAny_pure ?_);refine wpAny_bind (slicePart_none ?_);show wpAny _ _ (if ((1:Int)==0)=true then _ else _) _ _ s
 rw[if_neg (by decide)]
 refine wpAny_bind (ms pl<|wpAny_bind<|ms pu<|wpAny_bind<|wpAny_pure ?_);show wpAny _ _ (match PK lo hi 1 (n:Int) with|(lo,hi)=>pure (lo,(1:Int),O4 lo hi 1)) _ _ s
 rw[tY lo hi n];show wpAny _ _ (pure (((sIx n 0 lo:Nat):Int),(1:Int),O4 ((sIx n 0 lo:Nat):Int) ((sIx n n hi:Nat):Int) 1)) _ _ s;rw[tR];exact wpAny_pure h
theorem Be(xs:Array Value)(i k:Nat):((NL k).filterMap λ(m:Nat)=>xs[((i:Int)+(m:Int)*1).toNat]?).toArray=((xs.toList.drop i).take k).toArray:=by
 have e:(λ(m:Nat)=>xs[((i:Int)+(m:Int)*1).toNat]?)=λm=>xs[i+m]?:=by
  funext m;have:((i:Int)+(m:Int)*1).toNat=i+m:=by lia
  rw[this]
 rw[e];have:=pick_run xs i k;rw[List.filterMap_map]at this;have a:((λx=>xs[x]?) ∘ λx=>i+x)=λm=>xs[i+m]?:=rfl;rw[a]at this;rw[this]
theorem iu{t sl:Addr}{items:Array Value}{vl vu:Value}{lo hi:Option Int}{Q:Value->Shared->Prop}(ht:IsTup s.heap t items)(hs:s.heap.IsSliceOf sl vl vu .none)(pl:IsPart vl lo)(pu:IsPart vu hi)
  (hw:¬(sIx items.size 0 lo=0/\sIx items.size items.size hi=items.size))
  (h:Q (.ref s.heap.objs.size) { s with heap:=s.heap.push { cls:=.type "tuple",data:=.seq ((items.toList.drop<|sIx items.size 0 lo).take (sIx items.size items.size hi-sIx items.size 0 lo)).toArray } })
  (hsz:items.size<=sizeLine):wpAny (model prog w) A (getItem (.ref t)<|.ref sl) Q E s:=by
 have a:sizeOk (.seq ((items.toList.drop<|sIx items.size 0 lo).take (sIx items.size items.size hi-sIx items.size 0 lo)).toArray):=by
  show ((items.toList.drop<|sIx items.size 0 lo).take (sIx items.size items.size hi-sIx items.size 0 lo)).toArray.size<=sizeLine;rw[Na,NP,NY,Pm];lia
 have j:sIx items.size items.size hi<=items.size:=Hy _ _ (Ni _) hi;obtain⟨g,b,e,i⟩:=id hs;have f:s.TypeIs (.ref sl) "slice":=⟨g,b,e⟩;unfold getItem
 try with_reducible refine wpAny_holding ?_
 first|refine wpAny_bind (wpAny_pure ?_)|skip
 refine wpAny_bind (wpAny_sequenceKey ht.typeIs (by decide) ?_)
 refine wpAny_bind (wpAny_callSpecial?_slot (name:=Oh "__getitem__") ht.typeIs Of
  (wpAny_call_entry Of ht.typeIs entry_tuple_getitem ?_<|args_tuple_getitem _ _))
 show wpAny _ _ (QC (.ref t) >>= _) _ _ s;refine wpAny_bind (tupleItemsOf_ ht ?_);refine wpAny_bind (wpAny_typeOf f ?_);rw[if_pos (by decide)]
 refine wpAny_bind (eg hs pl pu ?_);have c:¬((((sIx items.size 0 lo:Nat):Int)==0&&(1:Int)==1&&(sIx items.size items.size hi-sIx items.size 0 lo)==items.size)=true):=by
  intro q;rw[Oo,Oo]at q;have n:((sIx items.size 0 lo:Nat):Int)=0:=eq_of_beq q.1.1;have l:sIx items.size items.size hi-sIx items.size 0 lo=items.size:=eq_of_beq q.2;exact hw ⟨by lia,by lia⟩
 show wpAny _ _ (if (((sIx items.size 0 lo:Nat):Int)==0&&(1:Int)==1&&(sIx items.size items.size hi-sIx items.size 0 lo)==items.size)=true then _ else _) _ _ s
 rw[if_neg c,Be]
 first
  |exact wpAny_bind (m:=ON _) (wpAny_newObj_type (wpAny_pure ⟨_,rfl,wpAny_pure h⟩) a)
  |exact wpAny_bind (m:=ON _) (wpAny_newObj_type (wpAny_bind<|wpAny_pure<|wpAny_pure ⟨_,rfl,wpAny_pure h⟩) a)
  |exact wpAny_bind (wpAny_bind (m:=ON _)<|wpAny_newObj_type (wpAny_pure<|wpAny_pure ⟨_,rfl,wpAny_pure h⟩) a)
  |exact wpAny_bind (wpAny_bind (m:=ON _)<|wpAny_newObj_type (wpAny_pure ⟨_,rfl,wpAny_pure h⟩) a)
end
end HT
namespace L2
open PySem PySem.Spec PyProof.Rows
abbrev TO:=St->Hp->(Option Int->Hp->Prop)->Prop
def PO(X:Cx)(e:Option Expr)(t:TO):Prop:=
 ∀(pins:List (Addr×Obj)) (s:Shared) (Z:St) (H:Hp) (Q:Option Int->Hp->Prop),Inv X pins Z H s->t Z H Q->
  wpAny (model X.prog X.w) X.A (evalPart e X.env) (λu a=>∃o H',Inv X pins Z H' a/\IsPart u o/\Q o H') X.xe s
def DV:TO:=λ_ H Q=>Q none H
def MC(t:TE):TO:=λZ H Q=>t Z H λx H1=>∃i,x=.int i/\Q (some i) H1
section
variable {X:Cx}{e:Expr}{te:TE}{lo hi:Option Expr}{tl th:TO}{pos p2:Pos}
theorem Fg:PO X none DV:=by
 intro a s Z H Q I h;rw[evalPart_none];exact wpAny_pure ⟨none,H,I,.none,h⟩
theorem EG(h:PE X e te):PO X (some e) (MC te):=by
 intro a s Z H Q I c;rw[evalPart_some];refine bF (h a s Z H _ I c) λu g ⟨x,H1,I1,b,f⟩=>?_;obtain⟨i,rfl,q⟩:=f;obtain⟨t,rfl⟩:=b;exact⟨some i,H1,I1,.int i t,q⟩
def MI(X:Cx)(r:V->Option Int->Option Int->Hp->VK->Prop):Prop:=
 ∀(pins:List (Addr×Obj)) (s:Shared) (Z:St) (H:Hp) (x:V) (v vl vu:Value) (lo hi:Option Int) (sl:Addr) (Q:VK),Inv X pins Z H s->RelV x v->s.heap.IsSliceOf sl vl vu .none->IsPart vl lo->IsPart vu hi->r x lo hi H Q->
  ∃T id,typeLookup (.type T) "__getitem__"=pure (some<|.builtin id)/\s.TypeIs v T/\wpAny (model X.prog X.w) X.A (getItem v<|.ref sl) (EP X pins Z Q) X.xe s
def tSl(r:V->Option Int->Option Int->Hp->VK->Prop)(te:TE)(tl th:TO):TE:=λZ H Q=>te Z H λx H1=>tl Z H1 λl H2=>th Z H2 λu H3=>r x l u H3 Q
theorem Ay{r:V->Option Int->Option Int->Hp->VK->Prop}(hr:MI X r)(he:PE X e te)(hl:PO X lo tl)(hu:PO X hi th):PE X (.Subscript e (.Slice lo hi none p2) pos) (tSl r te tl th):=by
 intro a s Z H Q I h;refine Subscript_ (bF (he a s Z H _ I h) λv i ⟨x,H1,I1,p,z⟩=>?_);refine wpAny_Slice (bF (hl a i Z H1 _ I1 z) λg j ⟨l,H2,I2,pl,n⟩=>bF (hu a j Z H2 _ I2 n) λf c ⟨u,H3,I3,m,B⟩=>?_);rw[evalPart_none];refine wpAny_pure ?_;have I4:Inv X a Z H3 { c with heap:=c.heap.push { cls:=.type "slice",data:=.fields #[g,f,.none] } }:=I3.kept (t':=c.toks) λb E q=>MX _ q;obtain⟨T,id,C,y,o⟩:=hr a { c with heap:=c.heap.push { cls:=.type "slice",data:=.fields #[g,f,.none] } } Z H3 x v g f l u c.heap.objs.size Q I4 p (Ra ..) pl m B;show wpAny (model X.prog X.w) X.A (subscriptTail e (.Slice lo hi none p2) v<|.ref c.heap.objs.size) (EP X a Z Q) X.xe { c with heap:=c.heap.push { cls:=.type "slice",data:=.fields #[g,f,.none] } };exact tail_any (ops:=[.ref c.heap.objs.size,v]) y C o (by with_unfolding_all rfl)
def jg(xs:List V)(lo hi:Option Int):List V:=(xs.drop<|HT.sIx xs.length 0 lo).take (HT.sIx xs.length xs.length hi-HT.sIx xs.length 0 lo)
theorem j9(xs:List V)(lo hi:Option Int):(jg xs lo hi).length<=xs.length:=by
 unfold jg;rw[NP,NY];lia
def rSlT(K:Ng):V->Option Int->Option Int->Hp->VK->Prop:=λx lo hi H Q=>∃a xs,x=.ref a/\iE K H a xs/\
 ¬(HT.sIx xs.length 0 lo=0/\HT.sIx xs.length xs.length hi=xs.length)/\∀p,H p=none->Q (.ref p) (upd H p<|.tup<|jg xs lo hi)
theorem JR:MI X (rSlT X.K):=by
 intro j s Z H x v A z lo hi B Q I p w pl m h;obtain⟨a,f,rfl,n,u,q⟩:=h;cases p;obtain⟨g,r,l,i⟩:=I.tuple n;have c:g.toArray.size=f.length:=by rw[Na];exact r.length.symm
 refine⟨"tuple",_,Of.lookup,l.typeIs,?_⟩;refine HT.iu l w pl m (by rw[c];exact u) ?_ (by rw[c];exact i)
 rw[c];refine⟨.ref s.heap.objs.size,_,I.laid (t':=s.toks) (o:=.tup (jg f lo hi)) (λb y q=>MX _ q) (Ni _) ?_,rfl,q _<|I.hok.fresh<|Ni _⟩;exact⟨Ny (j9 f lo hi) i,_,(r.drop<|HT.sIx f.length 0 lo).take (HT.sIx f.length f.length hi-HT.sIx f.length 0 lo),⟨_,Nj _ rfl,⟨rfl,_,rfl⟩,rfl⟩⟩
def MJ(K:Ng):R2:=λx y H Q=>∃a b xs ys,x=.ref a/\y=.ref b/\iE K H a xs/\iE K H b ys/\xs≠[]/\xs.length+ys.length<=sizeLine/\
 (ys=[]->Q (.ref a) H)/\(ys≠[]->∀p,H p=none->Q (.ref p) (upd H p<|.tup (xs++ys)))
theorem Vals.nil_iff{xs:List V}{us:List Value}(r:Vals xs us):us=[]↔xs=[]:=by
 cases r with
 |nil=>simp
 |cons _ _=>simp
theorem Dc:du X (binaryOp .Add) (MJ X.K):=by
 intro g s Z H x y v u Q I C B h;obtain⟨a,b,p,l,rfl,rfl,m,E,A,f,F,r⟩:=h;cases C;cases B;obtain⟨j,c,n,_⟩:=I.tuple m;obtain⟨i,r2,p2,_⟩:=I.tuple E;refine HT.Fi n p2 (λz=>A (c.nil_iff.mp z)) (λz=>⟨.ref a,H,I,rfl,F<|r2.nil_iff.mp z⟩) (λz=>?_) (by rw[<- c.length,<- r2.length];exact f)
 refine⟨.ref s.heap.objs.size,_,I.laid (t':=s.toks) (o:=.tup (p++l)) (λb G q=>MX _ q) (Ni _) ?_,rfl,r (λw=>z (r2.nil_iff.mpr w)) _<|I.hok.fresh<|Ni _⟩;exact⟨by rw[Nd];exact f,_,c.append r2,⟨_,Nj _ rfl,⟨rfl,_,rfl⟩,rfl⟩⟩
end
def r_(n:Nat)(i:Int):Option Nat:=if 0<=i then (if i<n then some i.toNat else none) else if -(n:Int)<=i then some (i+n).toNat else none
def atI{α:Type}(xs:List α)(i:Int):Option α:=(r_ xs.length i).bind λj=>xs[j]?
theorem pC{n:Nat}{i:Int}{j:Nat}(h:r_ n i=some j):seqIndex? i n=some j/\j<n/\-(n:Int)<=i/\i<n:=by
 unfold r_ at h
 by_cases b:0<=i
 .rw[if_pos b]at h
  by_cases a:i<n
  .rw[if_pos a]at h
   have e:i.toNat=j:=NZ h;exact⟨by rw[seqIndex_of b a,e],by lia,by lia,a⟩
  .rw[if_neg a]at h;cases h
 .rw[if_neg b]at h
  by_cases a:-(n:Int)<=i
  .rw[if_pos a]at h
   have e:(i+n).toNat=j:=NZ h;exact⟨by rw[seqIndex_neg (by lia) a,e],by lia,a,by lia⟩
  .rw[if_neg a]at h;cases h
theorem pP{α:Type}{xs:List α}{i:Int}{v:α}(h:atI xs i=some v):∃j,seqIndex? i xs.length=some j/\xs[j]?=some v/\j<xs.length/\-(xs.length:Int)<=i/\i<xs.length:=by
 unfold atI at h;cases e:r_ xs.length i with
 |none=>rw[e]at h;cases h
 |some j=>
  rw[e]at h;obtain⟨a,c,f,b⟩:=pC e;exact⟨j,a,h,c,f,b⟩
def vG(b:Expr):Prop:=∀o i,subscripted b false o i=operate [o,i] (getItem o i)
def IxR(X:Cx)(r:R2):Prop:=
 ∀(value slice:Expr) (pins:List (Addr×Obj)) (s:Shared) (Z:St) (H:Hp) (x y:V) (v u:Value) (Q:VK),Inv X pins Z H s->RelV x v->RelV y u->r x y H Q->
  subscripted slice false v u=operate [v,u] (getItem v u)->wpAny (model X.prog X.w) X.A (subscriptTail value slice v u) (EP X pins Z Q) X.xe s
def BH(X:Cx)(id:String)(r:V->List V->Hp->VK->Prop):Prop:=
 ∀(pins:List (Addr×Obj)) (s:Shared) (Z:St) (H:Hp) (x:V) (xs:List V) (v:Value) (us:List Value) (Q:VK),Inv X pins Z H s->RelV x v->Vals xs us->r x xs H Q->
  wpAny (model X.prog X.w) X.A (call (.builtin id) (v::us)) (EP X pins Z Q) X.xe s
section
variable {X:Cx}{a b:Expr}{ta tb:TE}{pos:Pos}
theorem IxR.or{r r':R2}(h:IxR X r)(h':IxR X r'):IxR X (λx y H Q=>r x y H Q\/r' x y H Q):=by
 intro e c f s Z H x y v u Q I i g q j;rcases q with q|q
 .exact h e c f s Z H x y v u Q I i g q j
 .exact h' e c f s Z H x y v u Q I i g q j
theorem L5{r:R2}(hr:IxR X r)(ha:PE X a ta)(hb:PE X b tb)(hs:vG b):PE X (.Subscript a b pos) (Km r ta tb):=by
 intro c s Z H Q I h;exact Subscript_ (Im ha hb I h λv u e x y H2 I2 g f q=>hr a b c e Z H2 x y v u Q I2 g f q (hs _ _))
def KY(K:Ng):R2:=λx y H Q=>∃p xs i v,x=.ref p/\y=.int i/\SqL K H p xs/\atI xs i=some v/\Q v H
def Ml(K:Ng):R2:=λx y H Q=>∃p xs i v,x=.ref p/\y=.int i/\iE K H p xs/\atI xs i=some v/\Q v H
def Kr:R2:=λx y H Q=>∃z i c,x=.str z/\y=.int i/\z.length<=sizeLine/\atI z.cps.toList i=some c/\Q (.str ⟨#[c]⟩) H
theorem ix_list:IxR X (KY X.K):=by
 intro l n c s Z H x y v u Q I N F h o;obtain⟨p,R,i,z,rfl,rfl,C,E,q⟩:=h;cases N;obtain⟨t,rfl⟩:=F;obtain⟨m,r,pl,P⟩:=I.list C;obtain⟨j,e,O,S,L,G⟩:=pP E;obtain⟨w,A,f⟩:=r.get O;have J:=r.length;have T:=gj;have fin:EP X c Z Q w s:=⟨z,H,I,f,q⟩
 by_cases B:0<=i
 .have g:i.toNat=j:=by
   rw[seqIndex_of B G]at e;exact NZ e
  exact item_listR pl.isList B (by lia) (by rw[g];simpa using A) fin o
 .have g:(i+(m.toArray.size:Int)).toNat=j:=by
   rw[seqIndex_neg (by lia) L]at e
   rw[Na,<- J];exact NZ e
  exact subscriptTail_builtinR (x:=w) pl.isList.typeIs slot_list_getitem.lookup
   (wpAny_getItem_list_neg (Q:=λr M=>r=w/\EP X c Z Q r M) pl.isList (by lia) (by rw[Na]<;>lia) (by lia) (by rw[g];simpa using A) ⟨rfl,fin⟩) o
theorem ix_tup:IxR X (Ml X.K):=by
 intro f g c s Z H x y v u Q I G o h B;obtain⟨p,M,i,z,rfl,rfl,l,m,q⟩:=h;cases G;obtain⟨t,rfl⟩:=o;obtain⟨C,r,pl,L⟩:=I.tuple l;obtain⟨j,n,J,O,P,N⟩:=pP m;obtain⟨w,F,e⟩:=r.get J;have A:=r.length;have R:=gj;have fin:EP X c Z Q w s:=⟨z,H,I,e,q⟩
 exact subscriptTail_builtinR (x:=w) pl.typeIs slot_tuple_getitem.lookup
  (getItem_tuple (j:=j) (Q:=λr E=>r=w/\EP X c Z Q r E) pl (by lia) (by lia) (by rw[Na,<- A];exact n) (by simpa using F) ⟨rfl,fin⟩) B
theorem BY:IxR X Kr:=by
 intro f e g s Z H x y v u Q I w p h E;obtain⟨z,i,c,rfl,rfl,G,n,q⟩:=h;obtain⟨t,rfl⟩:=w;obtain⟨F,rfl⟩:=p;obtain⟨j,l,A,J,m,r⟩:=pP n;have B:z.cps.toList.length=z.length:=by simp[Str.length]
 rw[B]at l m r;have K:=gj;exact tail_any (typeIs_str s z t) slot_str_getitem.lookup (getItem_str (c:=c) (by
  have o:decide (i < -(2 ^ 63:Int))=false:=decide_eq_false (by lia)
  have C:decide (i>=2 ^ 63)=false:=decide_eq_false (by lia)
  rw[o,C,NV]) (by rw[l];simpa using A) ⟨.str ⟨#[c]⟩,H,I.tok _,⟨_,rfl⟩,q⟩) E
def rIx(K:Ng):R2:=λx y H Q=>KY K x y H Q\/Ml K x y H Q\/Kr x y H Q
theorem HM:IxR X (rIx X.K):=ix_list.or (ix_tup.or BY)
theorem tB(its:List Value)(n j:Nat)(u:Value):QM (·.setIfInBounds j u) { cls:=.type "list",data:=.seq its.toArray n }={ cls:=.type "list",data:=.seq (its.set j u).toArray n }:=by
 simp[QM]
theorem Inv.lst{pins:List (Addr×Obj)}{Z:St}{H:Hp}{s:Shared}{p:Addr}{xs:List V}(I:Inv X pins Z H s)(h:H p=some (.lst xs)):
  ∃(its:List Value) (n:Nat),Vals xs its/\s.heap.get? p=some { cls:=.type "list",data:=.seq its.toArray n }/\xs.length<=sizeLine:=by
 obtain⟨z,its,n,r,e⟩:=I.hok p _ h;exact⟨its,n,r,e,z⟩
theorem Inv.lstUpd{pins:List (Addr×Obj)}{Z:St}{H:Hp}{s:Shared}{p:Addr}{xs ys:List V}{its its':List Value}{n n':Nat}{f:Obj->Obj}(I:Inv X pins Z H s)(h:H p=some (.lst xs))
  (ho:s.heap.get? p=some { cls:=.type "list",data:=.seq its.toArray n }) (hf:f { cls:=.type "list",data:=.seq its.toArray n }={ cls:=.type "list",data:=.seq its'.toArray n' }) (r:Vals ys its') (hz:ys.length<=sizeLine) (t:Nat):
  Inv X pins Z (upd H p<|.lst ys) { s with heap:=s.heap.update p f,toks:=t }:=by
 have e:(s.heap.update p f).get? p=some { cls:=.type "list",data:=.seq its'.toArray n' }:=by
  rw[RX f ho (by rw[hf]<;>rfl),hf]
 refine I.write (x:=p) (e:=p) (by rw[h];trivial) (.inl rfl) (λb u hb q=>(RN _ _<|N8 hb).trans q) ⟨_,e⟩ ?_
 exact⟨hz,its',n',r,e⟩
def Lj:V->V->V->Hp->(Hp->Prop)->Prop:=λo i v H Q=>∃p xs k j,o=.ref p/\i=.int k/\H p=some (.lst xs)/\r_ xs.length k=some j/\Q (upd H p<|.lst<|xs.set j v)
theorem Bn:Hz X Lj:=by
 intro e s Z H o i v G J u Q I A C E h;obtain⟨p,xs,k,j,rfl,rfl,w,B,q⟩:=h;cases A;obtain⟨t,rfl⟩:=C;obtain⟨c,n,r,l,F⟩:=I.lst w;obtain⟨f,L,y,z⟩:=pC B;have m:=r.length;have K:=gj;have I':Inv X e Z (upd H p<|.lst<|xs.set j v) { s with heap:=s.heap.update p (QM (·.setIfInBounds j u)) }:=
  I.lstUpd w l (tB c n j u) (r.set E j) (by rw[List.length_set];exact F) s.toks
 by_cases x:0<=k
 .have g:k.toNat=j:=by
   rw[seqIndex_of x z]at f;exact NZ f
  exact W.ki_setAt l x (by lia) (by rw[Na,<- m];exact z) (by rw[g];exact⟨_,I',q⟩)
 .have g:(k+(c.toArray.size:Int)).toNat=j:=by
   rw[seqIndex_neg (by lia) y]at f
   rw[Na,<- m];exact NZ f
  exact W.ki_setBack l (by lia) (by rw[Na,<- m];exact y) (by lia) (by rw[g];exact⟨_,I',q⟩)
theorem oK(lo hi:Option Int)(n:Nat):(sliceBounds lo hi none n).1=((HT.sIx n 0 lo:Nat):Int)/\(sliceBounds lo hi none n).2.1=((HT.sIx n n hi:Nat):Int)/\(sliceBounds lo hi none n).2.2=1:=by
 refine⟨?_,?_,rfl⟩
 .cases lo with
  |none=>simp[sliceBounds,HT.sIx]
  |some i=>
   simp only[sliceBounds,HT.sIx,Sr,show (1:Int)>0 by decide,if_true]
   by_cases h:i<0
   .simp only[h,if_true]<;>lia
   .simp only[h,if_false]<;>lia
 .cases hi with
  |none=>simp[sliceBounds,HT.sIx]
  |some i=>
   simp only[sliceBounds,HT.sIx,Sr,show (1:Int)>0 by decide,if_true]
   by_cases h:i<0
   .simp only[h,if_true]<;>lia
   .simp only[h,if_false]<;>lia
theorem mK(its:List Value)(lo hi:Option Int):slicePick its.toArray lo hi none=((its.drop<|HT.sIx its.length 0 lo).take (HT.sIx its.length its.length hi-HT.sIx its.length 0 lo)).toArray:=by
 obtain⟨c,e,f⟩:=oK lo hi its.toArray.size;unfold slicePick;rw[c,e,f];simp only[sliceRange_one,pick_run,Na]<;>rfl
def rSlL(K:Ng):V->Option Int->Option Int->Hp->VK->Prop:=λx c e H Q=>∃a xs,x=.ref a/\SqL K H a xs/\∀p,H p=none->Q (.ref p) (upd H p<|.lst<|jg xs c e)
theorem wH:MI X (rSlL X.K):=by
 intro i s Z H x v A z f g B Q I u w pl n h;obtain⟨a,c,rfl,p,q⟩:=h;cases u;obtain⟨m,r,j,l⟩:=I.list p;have e:=r.length;refine⟨"list",_,slot_list_getitem.lookup,j.isList.typeIs,?_⟩;refine wpAny_getItem_list_slice j.isList w pl n .none (by simp) ?_ (by rw[Na]<;>lia)
 rw[mK,<- e];refine⟨.ref s.heap.objs.size,_,I.laid (t':=s.toks) (o:=.lst (jg c f g)) (λb y q=>MX _ q) (Ni _) ?_,rfl,q _<|I.hok.fresh<|Ni _⟩;exact⟨Ny (j9 c f g) l,_,0,(r.drop<|HT.sIx c.length 0 f).take (HT.sIx c.length c.length g-HT.sIx c.length 0 f),Nj _ rfl⟩
def Ce:V->Bool
 |.non=>true
 |.bl _=>true
 |.int _=>true
 |.str _=>true
 |_=>false
def pZ:V->V->Bool
 |.non,.non=>true
 |.bl a,.bl b=>a==b
 |.bl a,.int b=>(if a then 1 else 0)==b
 |.int a,.bl b=>a==(if b then 1 else 0)
 |.int a,.int b=>a==b
 |.str a,.str b=>a==b
 |_,_=>false
theorem Bv{A:Around}{s:Shared}{y x:V}{u v:Value}(ry:RelV y u)(rx:RelV x v)(fy:Ce y=true)(fx:Ce x=true):Qh A s u v (pZ y x):=by
 cases y with
 |non=>
  cases ry;cases x with
  |non=>cases rx;exact SeqAt.EqAt.same _
  |bl b=>cases rx;exact SeqAt.EqAt.none_bool b
  |int b=>obtain⟨t,rfl⟩:=rx;exact SeqAt.EqAt.none_int b t
  |str b=>obtain⟨t,rfl⟩:=rx;exact SeqAt.EqAt.none_str b t
  |_=>exact absurd (show false=true from fx) NA
 |bl a=>
  cases ry;cases x with
  |non=>cases rx;exact SeqAt.EqAt.bool_none a
  |bl b=>cases rx;exact SeqAt.EqAt.bool_bool a b
  |int b=>obtain⟨t,rfl⟩:=rx;exact SeqAt.EqAt.bool_int a b t
  |str b=>obtain⟨t,rfl⟩:=rx;exact SeqAt.EqAt.bool_str a b t
  |_=>exact absurd (show false=true from fx) NA
 |int a=>
  obtain⟨c,rfl⟩:=ry;cases x with
  |non=>cases rx;exact SeqAt.EqAt.int_none a c
  |bl b=>cases rx;exact SeqAt.EqAt.int_bool a c b
  |int b=>obtain⟨t,rfl⟩:=rx;exact SeqAt.EqAt.int_int a c b t
  |str b=>obtain⟨t,rfl⟩:=rx;exact RA a c b t
  |_=>exact absurd (show false=true from fx) NA
 |str a=>
  obtain⟨c,rfl⟩:=ry;cases x with
  |non=>cases rx;exact SeqAt.EqAt.str_none a c
  |bl b=>cases rx;exact SeqAt.EqAt.str_bool a c b
  |int b=>obtain⟨t,rfl⟩:=rx;exact Rz a c b t
  |str b=>obtain⟨t,rfl⟩:=rx;exact SeqAt.EqAt.str_str a c b t
  |_=>exact absurd (show false=true from fx) NA
 |_=>exact absurd (show false=true from fy) NA
theorem pW:bG X (.builtin "len") (λxs H Q=>∃p ys,xs=[.ref p]/\(SqL X.K H p ys\/iE X.K H p ys)/\Q (.int ys.length) H):=by
 intro g s Z H xs l Q I r h;obtain⟨p,ys,rfl,hq,q⟩:=h;obtain⟨u,rfl,j⟩:=jc r;cases j;have m:=gj;rcases hq with hq|hq
 .obtain⟨e,f,pl,i⟩:=I.list hq
  have c:=f.length;exact Calls.call_len_list pl.isList (by simp only[Na]<;>lia) ⟨.int ys.length,H,I.tok _,⟨s.toks+1,by rw[Na,c]⟩,q⟩
 .obtain⟨e,f,pl,i⟩:=I.tuple hq
  have c:=f.length;exact len_tuple pl (by simp only[Na]<;>lia) ⟨.int ys.length,H,I.tok _,⟨s.toks+1,by rw[Na,c]⟩,q⟩
theorem pJ:bG X (.builtin "len") (λxs H Q=>∃z,xs=[.str z]/\z.length<=sizeLine/\Q (.int z.length) H):=by
 intro c s Z H xs f Q I r h;obtain⟨z,rfl,e,q⟩:=h;obtain⟨u,rfl,t,rfl⟩:=jc r;have g:=gj;exact len_str (by lia) ⟨.int z.length,H,I.tok _,⟨_,rfl⟩,q⟩
theorem ow:bG X (.type "list") (λxs H Q=>∃p ys,xs=[.ref p]/\(SqL X.K H p ys\/iE X.K H p ys)/\∀l,H l=none->Q (.ref l) (upd H l<|.lst ys)):=by
 intro m s Z H xs C Q I r h;obtain⟨p,ys,rfl,hq,q⟩:=h;obtain⟨u,rfl,B⟩:=jc r;cases B
 have fin:∀(c:List Value),Vals ys c->ys.length<=sizeLine->∀(f:Heap) (g:Nat),(∀b o',s.heap.get? b=some o'->f.get? b=some o')->
   f.get? s.heap.objs.size=some { cls:=.type "list",dict:=none,data:=.seq c.toArray g,slots:=#[] }->EP X m Z Q (.ref s.heap.objs.size) { s with heap:=f }:=λc i j f g v e=>
  ⟨.ref s.heap.objs.size,_,I.laid (t':=s.toks) v (Ni _) (show ObjOk X.prog X.w _ f _ (.lst ys) from ⟨j,c,g,i,e⟩),rfl,q _<|I.hok.fresh<|Ni _⟩
 rcases hq with hq|hq
 .obtain⟨c,i,pl,j⟩:=I.list hq
  have x:=i.length;obtain⟨o,z,y,n,A⟩:=pl.isList;exact call_list_seq p (.inl rfl) z y A (λf g v e=>fin c i j f g v e) (by simp only[Na]<;>lia)
 .obtain⟨c,i,pl,j⟩:=I.tuple hq
  have x:=i.length;obtain⟨o,z,y,n,A⟩:=pl;exact call_list_seq p (.inr rfl) z y A (λf g v e=>fin c i j f g v e) (by simp only[Na]<;>lia)
theorem gc:bG X (.type "tuple") (λxs H Q=>∃p ys,xs=[.ref p]/\((SqL X.K H p ys/\∀l,H l=none->Q (.ref l) (upd H l<|.tup ys))\/(iE X.K H p ys/\Q (.ref p) H))):=by
 intro c s Z H xs y Q I r h;obtain⟨p,ys,rfl,h⟩:=h;obtain⟨u,rfl,x⟩:=jc r;cases x;rcases h with⟨i,q⟩|⟨i,q⟩
 .obtain⟨f,j,pl,m⟩:=I.list i
  have n:=j.length;refine call_tuple_list pl.isList (λg v=>?_) (by simp only[Na]<;>lia)
  have I1:Inv X c Z H { s with heap:=g }:=I.kept (t':=s.toks) v;have I2:Inv X c Z (upd H g.objs.size<|.tup ys) { s with heap:=g.push { cls:=.type "tuple",data:=.seq f.toArray } }:=
   I1.laid (t':=s.toks) (λb o e=>MX _ e) (Ni _) (show ObjOk X.prog X.w _ _ _ (.tup ys) from ⟨m,f,j,⟨_,Nj _ rfl,⟨rfl,_,rfl⟩,rfl⟩⟩)
  exact⟨.ref g.objs.size,_,I2,rfl,q _<|I1.hok.fresh<|Ni _⟩
 .obtain⟨f,j,pl,m⟩:=I.tuple i
  exact call_tuple_same pl ⟨.ref p,H,I,rfl,q⟩
def tyV(K:Ng)(T:String)(x:V)(H:Hp):Prop:=match x with
 |.str _=>T="str"
 |.int _=>T="int"
 |.ref p=>(T="list"/\∃xs,SqL K H p xs)\/(T="tuple"/\∃o,K.lookup p=some o/\o.cls=.type "tuple"/\o.dict=none)\/
   (T="dict"/\((∃kvs,H p=some (.dK kvs))\/∃kvs,H p=some (.dT kvs)))\/(T="set"/\∃S n,H p=some (.set S n))
 |_=>False
theorem IM{pins:List (Addr×Obj)}{Z:St}{H:Hp}{s:Shared}{T:String}{x:V}{v:Value}(I:Inv X pins Z H s)(r:RelV x v)(ty:tyV X.K T x H):
  s.TypeIs v T/\∀a,v=.ref a->∃ob,s.heap.get? a=some ob/\ob.dict=none:=by
 cases x with
 |str z=>
  obtain⟨t,rfl⟩:=r;cases (show T="str" from ty);exact⟨typeIs_str s z t,λ_ e=>nomatch e⟩
 |int i=>
  obtain⟨t,rfl⟩:=r;cases (show T="int" from ty);exact⟨typeIs_int s i t,λ_ e=>nomatch e⟩
 |ref p=>
  cases r;rcases ty with⟨rfl,u,q⟩|⟨rfl,o,f,hc,h⟩|⟨rfl,f⟩|⟨rfl,S,n,f⟩
  .obtain⟨m,_,pl,_⟩:=I.list q
   refine⟨pl.isList.typeIs,λa e=>?_⟩;cases e;obtain⟨o,n,e,c,h,_⟩:=pl;exact⟨o,e,h⟩
  .refine⟨⟨o,I.kIn p o f,hc⟩,λa e=>?_⟩
   cases e;exact⟨o,I.kIn _ o f,h⟩
  .have z:∃o,s.heap.get? p=some o/\o.ExactDict:=by
    rcases f with⟨j,f⟩|⟨j,f⟩
    .obtain⟨_,_,_,_,o,_,_,e,g,_⟩:=I.hok p _ f
     exact⟨o,e,g⟩
    .obtain⟨_,_,_,_,o,_,_,e,g,_⟩:=I.hok p _ f
     exact⟨o,e,g⟩
   obtain⟨o,e,g⟩:=z;refine⟨⟨o,e,g.1⟩,λa l=>?_⟩;cases l;exact⟨o,e,g.2.1⟩
  .obtain⟨o,_,_,_,e,g,_⟩:=I.hok p _ f
   refine⟨⟨o,e,g.1⟩,λa l=>?_⟩;cases l;exact⟨o,e,g.2.1⟩
 |_=>exact Ov ty
def tBM(K:Ng)(T:String)(r:V->List V->Hp->VK->Prop)(to:TE)(t:TA):TE:=λZ H Q=>to Z H λx H1=>tyV K T x H1/\t Z H1 λc H2=>r x c H2 Q
variable {o e:Expr}{es:List Expr}{to:TE}{t:TA}{name:Str}{apos cpos:Pos}{T id:String}{r:V->List V->Hp->VK->Prop}
theorem L8(pa:PlainAttrs T)(slot:Slot T name id)(hty:typeOf (.builtin id)=pure (.type "method_descriptor"))(hm:BH X id r)(ho:PE X o to)(ha:PA X (e::es) t)
  (hbase:attributeBase o name X.env (eval o X.env)=eval o X.env:=by rfl)
  (hfew:((backTo cpos<|starEach (e::es) X.env).all (λx=>!x.1)&&(backToKw cpos<|keywordEach [] X.env).all (λx=>x.1.isSome)
   && decide ((e::es).length+([]:List Keyword).length+(if ([]:List Keyword).isEmpty then 0 else 1)<30))=true:=by rfl)
  (hline:(apos.endLine==cpos.line)=true:=by rfl) (hs:starEach (e::es) X.env=(false,eval e X.env)::starEach es X.env:=by rfl) (hplain:(backTo cpos<|starEach es X.env).any (·.1)=false:=by rfl):
  PE X (.Call (.Attribute o name apos) (e::es) [] cpos) (tBM X.K T r to t):=by
 intro c s Z H Q I h;refine wpAny_Call_method_late hbase hfew hline rfl (bF (ho c s Z H _ I h) λv i ⟨x,H1,I1,g,ty,u⟩=>?_);obtain⟨q,w⟩:=IM I1 g ty;refine⟨T,id,pa,slot,hty,q,w,?_⟩;have f:=ha cpos c i Z H1 _ I1 u;rw[hs]at f ⊢;refine PB (by show (false||(backTo cpos<|starEach es X.env).any (·.1))=false;rw[hplain]<;>rfl) (Pc ?_)
 exact bF f λl j ⟨n,H2,I2,p,m⟩=>hm c j Z H2 x n v l Q I2 g p m
end
def MtM(X:Cx)(id:String)(r:V->List V->Hp->VK->Prop):Prop:=
 ∀(pins:List (Addr×Obj)) (s:Shared) (Z:St) (H:Hp) (x:V) (xs:List V) (v:Value) (us:List Value) (Q:VK),Inv X pins Z H s->RelV x v->Vals xs us->r x xs H Q->
  wpAny (model X.prog X.w) X.A (call (.builtin id) (v::us)) (EP X pins Z Q) X.xe s
theorem Vals.one:∀{x:V} {us:List Value},Vals [x] us->∃u,us=[u]/\RelV x u
 |_,_,h=>by cases h with|cons r q=>cases q;exact⟨_,rfl,r⟩
theorem Vals.two:∀{x y:V} {us:List Value},Vals [x,y] us->∃u v,us=[u,v]/\RelV x u/\RelV y v
 |_,_,_,h=>by cases h with|cons r q=>cases q with|cons q z=>cases z;exact⟨_,_,rfl,r,q⟩
theorem Vals.zero:∀{us:List Value},Vals [] us->us=[]
 |_,.nil=>rfl
theorem Vals.dropLast{xs:List V}{us:List Value}(h:Vals xs us):Vals xs.dropLast us.dropLast:=by
 induction h with
 |nil=>exact .nil
 |cons r t ih=>
  cases t with
  |nil=>exact .nil
  |cons q t'=>exact .cons r ih
theorem Vals.eraseIdx:∀{xs:List V} {us:List Value} (i:Nat),Vals xs us->Vals (xs.eraseIdx i) (us.eraseIdx i)
 |_,_,_,.nil=>.nil
 |_,_,0,.cons _ t=>t
 |_,_,i+1,.cons r t=>.cons r (Vals.eraseIdx i t)
theorem Vals.reverse{xs:List V}{us:List Value}(h:Vals xs us):Vals xs.reverse us.reverse:=by
 induction h with
 |nil=>exact .nil
 |cons r t ih=>rw[QS,QS];exact Vals.append ih (.cons r .nil)
theorem Vals.rep{xs:List V}{us:List Value}(h:Vals xs us):∀k:Nat,Vals (Nh k xs).flatten (Nh k us).flatten
 |0=>.nil
 |k+1=>by
  rw[NI,NI,OI,OI];exact Vals.append h (Vals.rep h k)
theorem sU{α:Type}(l:List α):l.eraseIdx (l.length-1)=l.dropLast:=by
 induction l with
 |nil=>rfl
 |cons a r ih=>
  cases r with
  |nil=>rfl
  |cons b r=>
   have e:(a::b::r).length-1=((b::r).length-1)+1:=by
    have c:(a::b::r).length=r.length+2:=rfl;have f:(b::r).length=r.length+1:=rfl;lia
   rw[e,List.eraseIdx_cons_succ,ih]
   all_goals rfl
theorem mP{α:Type}:∀(l:List α) (i:Nat),(l.eraseIdx i).length<=l.length
 |[],_=>Ni _
 |_::_,0=>Rb _
 |_::r,i+1=>Nat.succ_le_succ (mP r i)
theorem ny(its:List Value):∀(k:Nat) (acc:List Value),
  Rt (λx1 x2=>x1++x2) acc.toArray (Nh k its.toArray)=(acc++(Nh k its).flatten).toArray
 |0,acc=>by simp
 |k+1,acc=>by
  have e:acc.toArray++its.toArray=(acc++its).toArray:=by simp
  have a:(acc++its)++(Nh k its).flatten=acc++(Nh (k+1) its).flatten:=by
   rw[NI,OI,QU]
  rw[<- a,<- ny its k (acc++its),<- e,NI,Oe]
section
variable {X:Cx}{pins:List (Addr×Obj)}{Z:St}{H:Hp}{s:Shared}{l b:Addr}{xs ys zs:List V}
theorem Inv.lset{its its':List Value}{n:Nat}{f:Array Value->Array Value}{t':Nat}(I:Inv X pins Z H s)(hH:H l=some (.lst xs))
  (e:s.heap.get? l=some { cls:=.type "list",data:=.seq its.toArray n }) (hf:f its.toArray=its'.toArray) (hv:Vals ys its') (hz:ys.length<=sizeLine):
  Inv X pins Z (upd H l<|.lst ys) { s with heap:=s.heap.update l (QM f),toks:=t' }:=by
 have q:=PySem.IsL.update e f;rw[hf]at q;refine I.write (x:=l) (e:=l) (by rw[hH];exact trivial) (.inl rfl) (λb' u hb hu=>(RN s.heap (QM f)<|N8 hb).trans hu) ⟨_,q⟩ ?_
 exact⟨hz,its',_,hv,q⟩
theorem Inv.lnew{its:List Value}{t':Nat}(I:Inv X pins Z H s)(hv:Vals ys its)(hz:ys.length<=sizeLine):
  Inv X pins Z (upd H s.heap.objs.size<|.lst ys) { s with heap:=s.heap.push { cls:=.type "list",data:=.seq its.toArray },toks:=t' }:=
 I.laid (λ_ _ q=>MX _ q) (Ni _) ⟨hz,its,0,hv,Nj _ rfl⟩
theorem Inv.fresh(I:Inv X pins Z H s):H s.heap.objs.size=none:=I.hok.fresh (Ni _)
theorem Inv.lstM(I:Inv X pins Z H s)(hH:H l=some (.lst xs)):xs.length<=sizeLine/\∃(its:List Value) (n:Nat),Vals xs its/\xs.length=its.length/\s.heap.get? l=some { cls:=.type "list",data:=.seq its.toArray n }:=by
 obtain⟨z,its,n,r,e⟩:=I.hok l _ hH;exact⟨z,its,n,r,r.length,e⟩
theorem rK{n:Nat}(h:n<=sizeLine):O8 n=false:=by
 unfold O8;exact decide_eq_false (by lia)
end
section
variable {X:Cx}
def C_:V->List V->Hp->VK->Prop:=λx a H Q=>∃l xs y,x=.ref l/\a=[y]/\H l=some (.lst xs)/\xs.length<sizeLine/\Q .non (upd H l<|.lst (xs++[y]))
theorem zj:MtM X "list.append" C_:=by
 intro b s Z H x p v m Q I g i h;obtain⟨l,o,y,rfl,rfl,c,j,q⟩:=h;cases g;obtain⟨u,rfl,f⟩:=i.one;obtain⟨z,a,n,r,w,e⟩:=I.lstM c;refine call_meets Qx ⟨_,e,rfl⟩ F.entry_list_append (F.args_list_append_2 _ _) (Sn l a.toArray n u<|by rw[Na];lia) ⟨e,?_⟩
 refine⟨.non,_,I.lset (its':=a++[u]) c e (by simp) (r.append<|.cons f .nil) ?_,rfl,q⟩
 rw[Nd,Qp];lia
def rPop:V->List V->Hp->VK->Prop:=λx a H Q=>∃l xs y,x=.ref l/\a=[]/\H l=some (.lst xs)/\xs[xs.length-1]?=some y/\Q y (upd H l<|.lst xs.dropLast)
theorem J8:MtM X "list.pop" rPop:=by
 intro f s Z H x C v A Q I o w h;obtain⟨l,B,y,rfl,rfl,g,i,q⟩:=h;cases o;have c:=w.zero;subst c;obtain⟨z,a,n,r,m,e⟩:=I.lstM g;obtain⟨u,p,j⟩:=r.get i;have b:a.toArray[a.toArray.size-1]?=some u:=by
  show a.toArray[a.length-1]?=some u;rw[<- RU,<- m];exact p
 refine call_meets QY ⟨_,e,rfl⟩ F.entry_list_pop (F.args_list_pop_1 _) (MeetsSeq.list_pop_last l a.toArray n u b<|by rw[Na];lia) ⟨e,?_⟩
 refine⟨y,_,I.lset (its':=a.dropLast) g e ?_ r.dropLast ?_,j,q⟩
 .show a.toArray.eraseIdxIfInBounds (a.toArray.size-1)=a.dropLast.toArray
  rw[Na,Q1,sU]
 .rw[List.length_dropLast]
  lia
def IQ:V->List V->Hp->VK->Prop:=λx a H Q=>∃l xs i k y,x=.ref l/\a=[.int i]/\H l=some (.lst xs)/\-(2 ^ 63)<=i/\i<2 ^ 63/\seqIndex? i xs.length=some k/\xs[k]?=some y/\Q y (upd H l<|.lst<|xs.eraseIdx k)
theorem zK:MtM X "list.pop" IQ:=by
 intro c s Z H x K v J Q I B G h;obtain⟨l,j,i,k,y,rfl,rfl,f,m,C,A,g,q⟩:=h;cases B;obtain⟨u,rfl,o⟩:=G.one;obtain⟨t,rfl⟩:=o;obtain⟨z,a,n,r,p,e⟩:=I.lstM f;obtain⟨w,E,b⟩:=r.get g
 refine call_meets QY ⟨_,e,rfl⟩ F.entry_list_pop (F.args_list_pop_2 _ _)
  (MeetsSeq.list_pop_at l a.toArray n i t k w (fitsIndex_both m C) (by rw[Na,<- p];exact A) (by rw[<- RU];exact E)<|by rw[Na];lia) ⟨e,?_⟩
 refine⟨y,_,I.lset (its':=a.eraseIdx k) f e ?_ (r.eraseIdx k) ?_,b,q⟩
 .show a.toArray.eraseIdxIfInBounds k=(a.eraseIdx k).toArray
  rw[Q1]
 .have:=mP j k
  lia
def rRep:R2:=λx y H Q=>∃l k xs,x=.ref l/\y=.int k/\H l=some (.lst xs)/\-(2 ^ 63)<=k/\k<2 ^ 63/\xs.length*k.toNat<=sizeLine/\
 ∀p,H p=none->Q (.ref p) (upd H p<|.lst (Nh k.toNat xs).flatten)
theorem vS{α:Type}(xs:List α)(k:Nat):(Nh k xs).flatten.length=k*xs.length:=by
 induction k with
 |zero=>simp
 |succ k ih=>rw[NI,OI,Nd,ih,QZ,Nat.add_comm]
theorem HL:du X (binaryOp .Mult) rRep:=by
 intro A s Z H x y v u Q I L E h;obtain⟨l,k,N,rfl,rfl,K,C,M,w,q⟩:=h;cases L;obtain⟨t,rfl⟩:=E;obtain⟨z,b,n,r,J,e⟩:=I.lstM K;have f:b.toArray.size*k.toNat<=sizeLine:=by rw[Na,<- J];exact w
 have i:¬b.toArray.size*k.toNat>(2 ^ 63-1) / 8:=by
  have:(sizeLine:Nat)<=(2 ^ 63-1) / 8:=by decide
  lia
 have j:¬(!Builtin.List.listFitsIndex k)=true:=by
  rw[fitsIndex_both C M];exact NA
 have c:¬O8 (b.toArray.size*k.toNat)=true:=by
  rw[rK f];exact NA
 have g:Rt (λo p=>o++p) #[] (Nh (if b.toArray.isEmpty=true then 0 else k.toNat) b.toArray)=(Nh k.toNat b).flatten.toArray:=by
  have B:∀m:Nat,Rt (λo p=>o++p) #[] (Nh m b.toArray)=(Nh m b).flatten.toArray:=λm=>by
   have:=ny b m [];rw[NG]at this;exact this
  rw[B];cases b with
  |nil=>simp
  |cons a r'=>rw[if_neg (by simp)]
 refine wpAny_binaryOp_repeat_ref (T:="list") (U:="int") (by decide) ⟨_,e,rfl⟩ (λG=>typeIs_int G k t) noFill_list_mul Sq P1 repeat_list Si.lookup
  (call_meets P1 (typeIs_int s k t) Sj (R8 _ _) (int___rmul___int_list k t l b.toArray n)
   ⟨e,rfl,⟨_,e,rfl⟩,call_meets F.slot_list_mul ⟨_,e,rfl⟩ F.entry_list_mul (F.args_list_mul_2 _ _) (AutoListH.list___mul___list_int_3 l b.toArray n k t j i c) ⟨e,?_⟩⟩)
 rw[g];exact⟨.ref _,_,I.lnew (t':=s.toks) (r.rep k.toNat) (by rw[vS,R1];exact w),rfl,q _ I.fresh⟩
end
section
variable {prog:Program}{w:World}{A:Around}{E:Value->Shared->Prop}{s:Shared}
set_option maxRecDepth 100000 in
end
section
variable {X:Cx}
end
section
variable {κ:Type}[DecidableEq κ]
def g6(kvs:List (κ×V))(k:κ):Option V:=(kvs.find? λa=>decide (a.1=k)).map (·.2)
def cj(kvs:List (κ×V))(k:κ)(v:V):List (κ×V):=
 if (kvs.any λa=>decide (a.1=k))=true then kvs.map (λa=>if a.1=k then (a.1,v) else a) else kvs++[(k,v)]
theorem lG{p:κ×V}{r:List (κ×V)}{k:κ}(e:p.1=k):g6 (p::r) k=some p.2:=by simp[g6,Pq,e]
theorem me{p:κ×V}{r:List (κ×V)}{k:κ}(e:¬p.1=k):g6 (p::r) k=g6 r k:=by simp[g6,Pq,e]
theorem rN(k:κ):∀kvs:List (κ×V),(kvs.any λkv=>decide (kv.1=k))=(g6 kvs k).isSome
 |[]=>rfl
 |p::r=>by
  rw[OU]
  by_cases e:p.1=k
  .simp only[lG e,decide_eq_true e,N6,P0]
  .rw[me e,decide_eq_false e,NW];exact rN k r
theorem dO(kvs:List (κ×V))(k:κ)(v:V):(cj kvs k v).length<=kvs.length+1:=by
 unfold cj
 split
 .rw[MW];lia
 .rw[Nd,MZ,Nq];lia
theorem RelO.isSome_eq{o:Option V}{u:Option Value}(r:RelO o u):o.isSome=u.isSome:=by
 cases o with
 |none=>cases u with
  |none=>rfl
  |some _=>exact(show False from r).elim
 |some _=>cases u with
  |none=>exact(show False from r).elim
  |some _=>rfl
theorem RelO.getD{o:Option V}{u:Option Value}{d:V}{d':Value}(r:RelO o u)(rd:RelV d d'):RelV (o.getD d) (u.getD d'):=by
 cases o with
 |none=>cases u with
  |none=>exact rd
  |some _=>exact(show False from r).elim
 |some _=>cases u with
  |none=>exact(show False from r).elim
  |some _=>exact r
theorem KV.val{kvs:List (κ×V)}{vs:List (κ×Value)}(r:KV kvs vs)(k:κ):RelO (g6 kvs k) (valueAt vs k):=by
 unfold KV at r
 induction r with
 |nil=>exact OO
 |@cons p q ps qs h t ih=>
  obtain⟨c,f⟩:=h
  by_cases e:p.1=k
  .have a:q.1=k:=c.symm.trans e
   have b:valueAt (q::qs) k=some q.2:=by simp[valueAt,Pq,a]
   rw[lG e,b];exact f
  .have a:¬q.1=k:=λz=>e (c.trans z)
   have b:valueAt (q::qs) k=valueAt qs k:=by simp[valueAt,Pq,a]
   rw[me e,b];exact ih
theorem KV.any{kvs:List (κ×V)}{vs:List (κ×Value)}(r:KV kvs vs)(k:κ):(kvs.any λkv=>decide (kv.1=k))=vs.any λkv=>decide (kv.1=k):=by
 unfold KV at r
 induction r with
 |nil=>rfl
 |cons h t ih=>rw[OU,OU,ih,h.1]
theorem KV.repl{kvs:List (κ×V)}{vs:List (κ×Value)}(r:KV kvs vs)(k:κ){y:V}{u:Value}(ry:RelV y u):
  KV (kvs.map λkv=>if kv.1=k then (kv.1,y) else kv) (vs.map λkv=>if kv.1=k then (kv.1,u) else kv):=by
 unfold KV at r ⊢
 induction r with
 |nil=>exact .nil
 |@cons p q ps qs h t ih=>
  rw[Nb,Nb];refine .cons ?_ ih;obtain⟨a,b⟩:=h
  by_cases e:p.1=k
  .rw[if_pos e,if_pos (a.symm.trans e)];exact⟨a,ry⟩
  .rw[if_neg e,if_neg (λz=>e (a.trans z))];exact⟨a,b⟩
theorem KV.put{kvs:List (κ×V)}{vs:List (κ×Value)}(r:KV kvs vs)(k:κ){y:V}{u:Value}(ry:RelV y u):KV (cj kvs k y) (stored vs k u):=by
 unfold cj stored;rw[r.any k]
 by_cases e:(vs.any λa=>decide (a.1=k))=true
 .rw[if_pos e,if_pos e];exact r.repl k ry
 .rw[if_neg e,if_neg e];exact Paired.snoc r ⟨rfl,ry⟩
theorem KV.length{kvs:List (κ×V)}{vs:List (κ×Value)}(r:KV kvs vs):kvs.length=vs.length:=OC r
end
theorem i6{P:Program}{w:World}{k:ax}{u:Value}(r:RelV (kV k) u):(aO P w).is k u=true:=by
 cases k with
 |inl i=>obtain⟨t,e⟩:=(show ∃t,u=QX i t from r);subst e;exact qY P w i t
 |inr x=>obtain⟨t,e⟩:=(show ∃t,u=QW x t from r);subst e;exact qH P w x t
theorem nz{P:Program}{w:World}:∀{ks:List ax} {us:List Value},Vals (ks.map kV) us->ItemsAre (aO P w) ks us
 |[],_,r=>by rw[NM]at r;cases r;exact .nil
 |k::ks,_,r=>by
  rw[Nb]at r;cases r with
  |cons h t=>exact .cons (i6 h) (nz t)
abbrev KT(H:Hp):List (List ax×V)->List (List ax×Addr×Value)->Prop:=Paired λp q=>p.1=q.1/\H q.2.1=some (.tup<|p.1.map kV)/\RelV p.2 q.2.2
theorem KT.val{H:Hp}{kvs:List (List ax×V)}{xs:List (List ax×Addr×Value)}(r:KT H kvs xs)(k:List ax):RelO (g6 kvs k) ((atKey xs k).map (·.2)):=by
 induction r with
 |nil=>exact OO
 |@cons p q ps qs h t ih=>
  obtain⟨c,_,f⟩:=h
  by_cases e:p.1=k
  .have a:q.1=k:=c.symm.trans e
   have b:atKey (q::qs) k=some q.2:=by simp[atKey,Pq,a]
   rw[lG e,b];exact f
  .have a:¬q.1=k:=λz=>e (c.trans z)
   have b:atKey (q::qs) k=atKey qs k:=by simp[atKey,Pq,a]
   rw[me e,b];exact ih
theorem KT.repl{H:Hp}{kvs:List (List ax×V)}{xs:List (List ax×Addr×Value)}(r:KT H kvs xs)(k:List ax){y:V}{u:Value}(ry:RelV y u):
  KT H (kvs.map λkv=>if kv.1=k then (kv.1,y) else kv) (xs.map<|putAt k u):=by
 induction r with
 |nil=>exact .nil
 |@cons p q ps qs h t ih=>
  rw[Nb,Nb];refine .cons ?_ ih;obtain⟨a,b,c⟩:=h;unfold putAt
  by_cases e:p.1=k
  .rw[if_pos e,if_pos (a.symm.trans e)];exact⟨a,b,ry⟩
  .rw[if_neg e,if_neg (λz=>e (a.trans z))];exact⟨a,b,c⟩
theorem KT.put{H:Hp}{kvs:List (List ax×V)}{xs:List (List ax×Addr×Value)}(r:KT H kvs xs)(k:List ax){b:Addr}{y:V}{u:Value}(hb:H b=some (.tup<|k.map kV))(ry:RelV y u):
  KT H (cj kvs k y) (storedH xs k b u):=by
 have e:(kvs.any λa=>decide (a.1=k))=(atKey xs k).isSome:=by
  rw[rN,(r.val k).isSome_eq,QK]
 unfold cj storedH;rw[e]
 by_cases q:(atKey xs k).isSome=true
 .rw[if_pos q,if_pos q];exact r.repl k ry
 .rw[if_neg q,if_neg q];exact Paired.snoc r ⟨rfl,hb,ry⟩
theorem KT.keeps{H H':Hp}{kvs:List (List ax×V)}{xs:List (List ax×Addr×Value)}(r:KT H kvs xs)(ht:∀b ys,H b=some (.tup ys)->H' b=some (.tup ys)):KT H' kvs xs:=
 dR r λ_ _ z=>⟨z.1,ht _ _ z.2.1,z.2.2⟩
section
variable {P:Program}{w:World}{H:Hp}{h:Heap}{a:Addr}
theorem FM{u:HO}(ok:HOk P w H h)(e:Rd H a u):ObjOk P w H h a u:=e.ok ok
theorem gD{kvs:List (ax×V)}(ok:HOk P w H h)(e:Rd H a (.dK kvs)):kvs.length<=sizeLine/\(a==sysModules)=false/\∃vs,KV kvs vs/\h.DictOf (aO P w) a vs:=
 show ObjOk P w H h a (.dK kvs) from FM ok e
theorem F_{kvs:List (ax×V)}(ok:HOk P w H h)(e:H a=some (.dK kvs)):kvs.length<=sizeLine/\(a==sysModules)=false/\∃vs,KV kvs vs/\h.DictOf (aO P w) a vs:=gD ok (.inl e)
theorem ft{ks:List ax}(ok:HOk P w H h)(e:H a=some (.tup<|ks.map kV)):(tupleKind<|aO P w).is h ks a:=by
 obtain⟨_,b,r,o,c,⟨f,n,g⟩,_⟩:=(show ObjOk P w H h a (.tup<|ks.map kV) from ok a _ e);exact⟨o,b.toArray,n,c,f,g,by simpa using nz r⟩
theorem jf{kvs:List (List ax×V)}(ok:HOk P w H h)(e:Rd H a (.dT kvs)):kvs.length<=sizeLine/\(a==sysModules)=false/\
  ∃xs,KT H kvs xs/\h.DictOfH (tupleKind<|aO P w) a xs:=by
 obtain⟨z,y,xs,r,o,c,f,g,j,n,b,i⟩:=(show ObjOk P w H h a (.dT kvs) from FM ok e);refine⟨z,y,xs,r,o,c,f,g,j,n,b,λx hx=>?_,i⟩;have all:∀{l:List (List ax×V)} {m:List (List ax×Addr×Value)},KT H l m->∀x∈m,(tupleKind<|aO P w).is h x.1 x.2.1:=by
  intro l m q
  induction q with
  |nil=>intro x hx;exact nomatch hx
  |@cons p q ps qs hq t ih=>
   intro x hx;rcases Nl.mp hx with e|hx
   .subst e
    exact ft ok (by rw[<- hq.1];exact hq.2.1)
   .exact ih x hx
 exact all r x hx
theorem Mg{kvs:List (List ax×V)}(ok:HOk P w H h)(e:H a=some (.dT kvs)):kvs.length<=sizeLine/\(a==sysModules)=false/\
  ∃xs,KT H kvs xs/\h.DictOfH (tupleKind<|aO P w) a xs:=jf ok (.inl e)
end
def DGet(H:Hp)(a:Addr)(y:V)(r:Option V):Prop:=
 (∃kvs k,Rd H a (.dK kvs)/\y=kV k/\r=g6 kvs k)\/∃kvs k b,Rd H a (.dT kvs)/\y=.ref b/\H b=some (.tup<|k.map kV)/\r=g6 kvs k
def DPut(H:Hp)(a:Addr)(y v:V)(H':Hp):Prop:=
 (∃kvs k,H a=some (.dK kvs)/\y=kV k/\kvs.length<sizeLine/\H'=upd H a (.dK<|cj kvs k v))\/
 ∃kvs k b,H a=some (.dT kvs)/\y=.ref b/\H b=some (.tup<|k.map kV)/\kvs.length<sizeLine/\H'=upd H a (.dT<|cj kvs k v)
theorem DGet.k{H:Hp}{a:Addr}{kvs:List (ax×V)}{k:ax}(e:H a=some (.dK kvs)):DGet H a (kV k) (g6 kvs k):=.inl ⟨kvs,k,.inl e,rfl,rfl⟩
theorem DGet.t{H:Hp}{a b:Addr}{kvs:List (List ax×V)}{k:List ax}(e:H a=some (.dT kvs))(eb:H b=some (.tup<|k.map kV)):DGet H a (.ref b) (g6 kvs k):=.inr ⟨kvs,k,b,.inl e,rfl,eb,rfl⟩
theorem DPut.k{H:Hp}{a:Addr}{kvs:List (ax×V)}{k:ax}{v:V}(e:H a=some (.dK kvs))(hl:kvs.length<sizeLine):DPut H a (kV k) v (upd H a<|.dK<|cj kvs k v):=.inl ⟨kvs,k,e,rfl,hl,rfl⟩
theorem DPut.t{H:Hp}{a b:Addr}{kvs:List (List ax×V)}{k:List ax}{v:V}(e:H a=some (.dT kvs))(eb:H b=some (.tup<|k.map kV))(hl:kvs.length<sizeLine):
  DPut H a (.ref b) v (upd H a<|.dT<|cj kvs k v):=.inr ⟨kvs,k,b,e,rfl,eb,hl,rfl⟩
section
variable {X:Cx}{pins:List (Addr×Obj)}{Z:St}{H:Hp}{s:Shared}{a:Addr}{y v:V}{u r:Value}{o:Option V}{A:Around}{E:Value->Shared->Prop}
theorem Inv.big(I:Inv X pins Z H s):sysModules<s.heap.objs.size:=by
 have h:mainGlobals<s.heap.objs.size:=(I.mod.glob.keeps I.bk).lt;exact R4 (by decide) h
theorem zq{Q:Value->Shared->Prop}(hu:A.units+1<cLine)(I:Inv X pins Z H s)(g:DGet H a y (some v))(ry:RelV y u)(h:∀w' s',Inv X pins Z H s'->RelV v w'->Q w' s'):
  wpAny (model X.prog X.w) A (getItem (.ref a) u) Q E s:=by
 rcases g with⟨i,k,e,m,l⟩|⟨i,k,b,e,m,eb,l⟩
 .subst m
  obtain⟨z,x,C,f,j⟩:=gD I.hok e;obtain⟨w',q,c⟩:=eX (v:=v) (o:=valueAt C k) (by rw[l];exact f.val k)
  exact wpAny_getItem_of (i6 ry) j.mapOf q (h w' _ (I.tok _) c)
 .subst m
  cases (show u=ND b from ry);obtain⟨z,x,F,f,j⟩:=jf I.hok e;obtain⟨w',q,c⟩:=eX (v:=v) (o:=(atKey F k).map (·.2)) (by rw[l];exact f.val k)
  obtain⟨p,B,n⟩:=OZ.mp q;refine wpAny_getItem_heap (tupleKind_room_in1 hu) (ft I.hok eb) j B ?_;rw[n];exact h w' _ (I.tok _) c
theorem Kn{Q:Value->Shared->Prop}(hu:A.units+1<cLine)(I:Inv X pins Z H s)(g:DGet H a y o)(ry:RelV y u)(h:∀s',Inv X pins Z H s'->Q (.bool o.isSome) s'):
  wpAny (model X.prog X.w) A (compareOp .In u<|.ref a) Q E s:=by
 rcases g with⟨i,k,e,m,l⟩|⟨i,k,b,e,m,eb,l⟩
 .subst m
  obtain⟨z,f,n,c,j⟩:=gD I.hok e;refine wpAny_in_of (i6 ry) f j.mapOf ?_;rw[<- (c.val k).isSome_eq,<- l];exact h _ (I.tok _)
 .subst m
  cases (show u=ND b from ry);obtain⟨z,f,p,c,j⟩:=jf I.hok e;refine wpAny_in_heap (tupleKind_room_in1 hu) (ft I.hok eb) f j ?_;have q:=(c.val k).isSome_eq;rw[QK]at q;rw[<- q,<- l];exact h _ (I.tok _)
theorem wL{Q:Value->Shared->Prop}(hu:A.units+1<cLine)(I:Inv X pins Z H s)(g:DGet H a y o)(ry:RelV y u)(h:∀s',Inv X pins Z H s'->Q (.bool<|!o.isSome) s'):
  wpAny (model X.prog X.w) A (compareOp .NotIn u<|.ref a) Q E s:=by
 rcases g with⟨i,k,e,m,l⟩|⟨i,k,b,e,m,eb,l⟩
 .subst m
  obtain⟨z,f,n,c,j⟩:=gD I.hok e;refine wpAny_notIn_of (i6 ry) f j.mapOf ?_;rw[<- (c.val k).isSome_eq,<- l];exact h _ (I.tok _)
 .subst m
  cases (show u=ND b from ry);obtain⟨z,f,p,c,j⟩:=jf I.hok e;refine wpAny_notIn_heap (tupleKind_room_in1 hu) (ft I.hok eb) f j ?_;have q:=(c.val k).isSome_eq;rw[QK]at q;rw[<- q,<- l];exact h _ (I.tok _)
theorem pR{h':Heap}{t':Nat}{ob:HO}(I:Inv X pins Z H s)(mu:Mi (H a))(hs:Pf a s.heap h')(he:∃q,h'.get? a=some q)(new:ObjOk X.prog X.w (upd H a ob) h' a ob):
  Inv X pins Z (upd H a ob) { s with heap:=h',toks:=t' }:=
 I.write (x:=a) (e:=a) mu (.inl rfl) (λb q c z=>(hs.2 b c).trans z) he new
theorem tS{P:Program}{w:World}{H':Hp}{h':Heap}{kvs:List (ax×V)}{vs:List (ax×Value)}(z:kvs.length<=sizeLine)(hd:(a==sysModules)=false)(rel:KV kvs vs)(dd:h'.DictOf (aO P w) a vs):
  ObjOk P w H' h' a (.dK kvs):=⟨z,hd,vs,rel,dd⟩
theorem nD{H':Hp}{Q:Unit->Shared->Prop}(hu:A.units+1<cLine)(I:Inv X pins Z H s)(g:DPut H a y v H')(ry:RelV y u)(rv:RelV v r)(h:∀s',Inv X pins Z H' s'->Q () s'):
  wpAny (model X.prog X.w) A (setItem (.ref a) u r) Q E s:=by
 rcases g with⟨f,k,e,p,l,x⟩|⟨f,k,b,e,p,eb,l,x⟩
 .subst p x
  obtain⟨z,B,P,i,C⟩:=F_ I.hok e;have n:P.length<=sizeLine:=by rw[<- i.length];exact z
  have F:(cj f k v).length<=sizeLine:=by have:=dO f k v;lia
  refine wpAny_setItem_pairs (hsz:=n) (i6 ry) C λJ j G=>h _ ?_;have N:∃q,J.get? a=some q:=let ⟨q,_,_,m,_⟩:=j;⟨q,m⟩;exact pR I (by rw[e];exact OO) G N (tS F B (i.put k rv) j)
 .subst p x
  cases (show u=ND b from ry);obtain⟨z,B,O,i,C⟩:=Mg I.hok e;have n:O.length<=sizeLine:=by rw[<- OC i];exact z
  have F:(cj f k v).length<=sizeLine:=by have:=dO f k v;lia
  refine wpAny_setItem_heap (hsz:=n) (tupleKind_room_in1 hu) (ft I.hok eb) C λJ j G=>h _ ?_;obtain⟨q,M,R,m,T,U,L,_,S⟩:=j;refine pR I (by rw[e];exact OO) G ⟨q,m⟩ ⟨F,B,_,(i.put k eb rv).keeps λc W K=>?_,q,M,R,m,T,U,L,S⟩
  rw[aH (Mc K e λz=>nomatch z)];exact K
end
section
variable {X:Cx}{pins:List (Addr×Obj)}{Z:St}{H:Hp}{s:Shared}{a:Addr}{kvs:List (ax×V)}{k:ax}{u:Value}{A:Around}{E:Value->Shared->Prop}
theorem Lc{Q:Value->Shared->Prop}(I:Inv X pins Z H s)(e:Rd H a (.dK kvs))(h:∀t s',Inv X pins Z H s'->Q (.int kvs.length t) s'):wpAny (model X.prog X.w) A (call (.builtin "len") [.ref a]) Q E s:=by
 obtain⟨z,f,g,b,c⟩:=gD I.hok e;refine call_len_dict f c (by rw[<- b.length];rw[sizeLine_eq]at z;lia) ?_
 rw[<- b.length];exact h _ _ (I.tok _)
end
theorem qV{X:Cx}{pins:List (Addr×Obj)}{Z:St}{H:Hp}{s:Shared}{a:Addr}{y:V}{o:Option V}(I:Inv X pins Z H s)(g:DGet H a y o):s.TypeIs (.ref a) "dict":=by
 rcases g with⟨f,k,e,_,_⟩|⟨f,k,b,e,_,_,_⟩
 .obtain⟨_,_,i,_,c⟩:=gD I.hok e
  exact c.typeIs
 .obtain⟨_,_,h,_,c⟩:=jf I.hok e
  exact c.typeIs
section
variable {X:Cx}{o i e value:Expr}{pos pos' tpos:Pos}{td ty tv:TE}
end
theorem BB{P:Program}{w:World}{H:Hp}(h:Heap)(hb:sysModules<h.objs.size):ObjOk P w H (h.push { cls:=.type "dict",data:=.dict #[] }) h.objs.size (.dK []):=
 ⟨N5 _,beq_eq_false_iff_ne.mpr (N8<|Np hb),[],.nil,RO h⟩
theorem AT{P:Program}{w:World}{H:Hp}(h:Heap)(hb:sysModules<h.objs.size):ObjOk P w H (h.push { cls:=.type "dict",data:=.dict #[] }) h.objs.size (.dT []):=
 ⟨N5 _,beq_eq_false_iff_ne.mpr (N8<|Np hb),[],.nil,_,#[],0,Nj _ rfl,⟨rfl,rfl,rfl⟩,rfl,rfl,List.nodup_nil⟩
def IG:TE:=λ_ H Q=>∀p,H p=none->Q (.ref p) (upd H p<|.dT [])
section
variable {X:Cx}{pos:Pos}
theorem AA:PE X (.Dict [] [] pos) IG:=λb s Z H Q I h=>
 wpAny_Dict_empty ⟨.ref s.heap.objs.size,_,I.laid (a:=s.heap.objs.size) (o:=.dT []) (t':=s.toks) (λ_ _ q=>MX _ q) (Ni _) (AT s.heap I.big),rfl,h _<|I.hok.fresh<|Ni _⟩
end
def oq:List (TE×TE)->St->Hp->(List (V×V)->Hp->Prop)->Prop
 |[],_,H,Q=>Q [] H
 |(tk,tv)::r,Z,H,Q=>tk Z H λx H1=>tv Z H1 λy H2=>oq r Z H2 λa H3=>Q ((x,y)::a) H3
abbrev VV:List (V×V)->List (Value×Value)->Prop:=Paired λp q=>RelV p.1 q.1/\RelV p.2 q.2
def Eb(X:Cx)(pos:Pos)(keys:List (Option Expr))(values:List Expr)(trs:List (TE×TE)):Prop:=
 ∀(pins:List (Addr×Obj)) (s:Shared) (Z:St) (H:Hp) (Q:List (V×V)->Hp->Prop),Inv X pins Z H s->oq trs Z H Q->
  wpAny (model X.prog X.w) X.A (evalPairs<|pairTrees keys values X.env pos) (λa b=>∃ps H',Inv X pins Z H' b/\VV ps a/\Q ps H') X.xe s
theorem Em{X:Cx}{pos:Pos}:Eb X pos [] [] []:=λa s Z H Q I h=>pairTrees_nil_walk ⟨[],H,I,.nil,h⟩
theorem zQ{X:Cx}{pos:Pos}{k v:Expr}{ks:List (Option Expr)}{vs:List Expr}{tk tv:TE}{trs:List (TE×TE)}(hk:PE X k tk)(hv:PE X v tv)(hr:Eb X pos ks vs trs):
  Eb X pos (some k::ks) (v::vs) ((tk,tv)::trs):=λa s Z H Q I h=>
 pairTrees_cons_walk (bF (hk a s Z H _ I h) λu c ⟨x,H1,I1,i,j⟩=>bF (hv a c Z H1 _ I1 j) λo e ⟨y,H2,I2,g,f⟩=>
  bF (hr a e Z H2 _ I2 f) λn p ⟨m,H3,I3,b,l⟩=>⟨(x,y)::m,H3,I3,.cons ⟨i,g⟩ b,l⟩)
def gp(kvs more:List (ax×V)):List (ax×V):=more.foldl (λa b=>cj a b.1 b.2) kvs
theorem KV.merge:∀{more:List (ax×V)} {rs:List (ax×Value)} {kvs:List (ax×V)} {vs:List (ax×Value)},KV more rs->KV kvs vs->KV (gp kvs more) (merged vs rs):=by
 intro more rs kvs vs r;unfold KV at r
 induction r generalizing kvs vs with
 |nil=>intro q;exact q
 |@cons p q ps qs h t ih=>
  intro a;have e:KV (cj kvs p.1 p.2) (stored vs q.1 q.2):=by
   have:=a.put p.1 h.2;rw[<- h.1];exact this
  exact ih e
theorem gb:∀(more kvs:List (ax×V)),(gp kvs more).length<=kvs.length+more.length
 |[],kvs=>by show kvs.length<=kvs.length+0;lia
 |p::r,kvs=>by
  have a:=gb r (cj kvs p.1 p.2);have b:=dO kvs p.1 p.2;show (gp (cj kvs p.1 p.2) r).length<=_;rw[MZ];lia
theorem lT{P:Program}{w:World}:∀{kvs:List (ax×V)} {ws:List (Value×Value)},VV (kvs.map λkv=>(kV kv.1,kv.2)) ws->∃rs,Carries (aO P w) ws rs/\KV kvs rs
 |[],_,r=>by rw[NM]at r;cases r;exact⟨[],OO,.nil⟩
 |p::kvs,_,r=>by
  rw[Nb]at r;cases r with
  |@cons a b as bs h t=>
   obtain⟨rs,c,q⟩:=lT (P:=P) (w:=w) t;obtain⟨f,e⟩:=b;exact⟨(p.1,e)::rs,⟨i6 h.1,rfl,c⟩,.cons ⟨rfl,h.2⟩ q⟩
def Ko(trs:List (TE×TE)):TE:=λZ H Q=>∀p,H p=none->oq trs Z (upd H p<|.dK []) λb H2=>H2 p=some (.dK [])/\∃kvs:List (ax×V),b=kvs.map (λa=>(kV a.1,a.2))/\kvs.length<=15/\Q (.ref p) (upd H2 p<|.dK<|gp [] kvs)
theorem EA{X:Cx}{pos:Pos}{keys:List (Option Expr)}{values:List Expr}{trs:List (TE×TE)}(h:Eb X pos keys values trs)(hall:keys.all (·.isSome)=true)(hl:keys.length=values.length)(h0:keys≠[])
  (h15:keys.length<=15):PE X (.Dict keys values pos) (Ko trs):=by
 intro b s Z H Q I q;have r:=I.hok.fresh (Ni s.heap.objs.size);have I1:=I.laid (a:=s.heap.objs.size) (o:=.dK []) (h':=s.heap.push { cls:=.type "dict",data:=.dict #[] }) (t':=s.toks) (λ_ _ q=>MX _ q) (Ni _) (BB s.heap I.big);refine wpAny_Dict_walk (knd:=aO X.prog X.w) hall hl h0 h15 (bF (h b _ Z _ _ I1<|q _ r) λG F B=>?_);obtain⟨J,H2,I2,i,e,g,u,lk,p⟩:=B;subst u;obtain⟨m,c,n⟩:=lT (P:=X.prog) (w:=X.w) i;obtain⟨z,x,v,C,A⟩:=F_ I2.hok e;cases C;refine⟨m,c,A,λh' f E=>⟨.ref s.heap.objs.size,_,?_,rfl,p⟩⟩;have j:(gp [] g).length<=sizeLine:=by
  have y:=gb g [];rw[Nq]at y;rw[sizeLine_eq];lia
 have l:∃q,h'.get? s.heap.objs.size=some q:=let ⟨q,_,_,hq,_⟩:=f;⟨q,hq⟩;exact pR I2 (by rw[e];exact OO) E l (tS j x (n.merge .nil) f)
structure M1(X:Cx)(o:Expr)(m:Str)(apos:Pos)(e:Expr)(cpos:Pos):Prop where
 base:attributeBase o m X.env (eval o X.env)=eval o X.env
 few:((backTo cpos<|starEach [e] X.env).all (λx=>!x.1)&&(backToKw cpos<|keywordEach [] X.env).all (λx=>x.1.isSome)
  && decide (([e]:List Expr).length+([]:List Keyword).length+(if ([]:List Keyword).isEmpty then 0 else 1)<30))=true
 line:(apos.endLine==cpos.line)=true
 trees:backTo cpos (starEach [e] X.env)=[(false,eval e X.env)]
structure M2(X:Cx)(o:Expr)(m:Str)(apos:Pos)(e f:Expr)(cpos:Pos):Prop where
 base:attributeBase o m X.env (eval o X.env)=eval o X.env
 few:((backTo cpos<|starEach [e,f] X.env).all (λx=>!x.1)&&(backToKw cpos<|keywordEach [] X.env).all (λx=>x.1.isSome)
  && decide (([e,f]:List Expr).length+([]:List Keyword).length+(if ([]:List Keyword).isEmpty then 0 else 1)<30))=true
 line:(apos.endLine==cpos.line)=true
 trees:backTo cpos (starEach [e,f] X.env)=[(false,eval e X.env),(false,eval f X.env)]
def IsD(H:Hp)(a:Addr):Prop:=(∃kvs,Rd H a (.dK kvs))\/∃kvs,Rd H a (.dT kvs)
theorem Cs{X:Cx}{pins:List (Addr×Obj)}{Z:St}{H:Hp}{s:Shared}{a:Addr}(I:Inv X pins Z H s)(d:IsD H a):
  s.TypeIs (.ref a) "dict"/\(∀b,ND a=.ref b->∃ob,s.heap.get? b=some ob/\ob.dict=none)/\(a==sysModules)=false:=by
 rcases d with⟨h,e⟩|⟨h,e⟩
 .obtain⟨_,g,l,_,c⟩:=gD I.hok e
  refine⟨c.typeIs,λb q=>?_,g⟩;cases q;obtain⟨ob,_,_,f,i,_⟩:=c;exact⟨ob,f,i.2.1⟩
 .obtain⟨_,g,j,_,c⟩:=jf I.hok e
  refine⟨c.typeIs,λb q=>?_,g⟩;cases q;obtain⟨ob,_,_,f,i,_⟩:=c;exact⟨ob,f,i.2.1⟩
section
variable {X:Cx}{pins:List (Addr×Obj)}{Z:St}{H:Hp}{s:Shared}{a:Addr}{y d:V}{u r:Value}{o:Option V}{A:Around}{E:Value->Shared->Prop}
theorem Jm{Q:Value->Shared->Prop}(hu:A.units+1<cLine)(I:Inv X pins Z H s)(g:DGet H a y o)(ry:RelV y u)(h:∀w' s',Inv X pins Z H s'->RelV (o.getD .non) w'->Q w' s'):
  wpAny (model X.prog X.w) A (call (.builtin "dict.get") [.ref a,u]) Q E s:=by
 rcases g with⟨j,k,e,m,l⟩|⟨j,k,b,e,m,eb,l⟩
 .subst m
  obtain⟨z,i,p,c,f⟩:=gD I.hok e;refine call_meetsIn OM f.typeIs Px (Rq _ _) (meets_dict_get (aO X.prog X.w) a (i6 ry) i) ⟨_,f.mapOf,h _ _ (I.tok _) ?_⟩;rw[l];exact(c.val k).getD rfl
 .subst m
  cases (show u=ND b from ry);obtain⟨z,i,n,c,f⟩:=jf I.hok e;refine call_meetsIn OM f.typeIs Px (Rq _ _) (meetsH_dict_get (tupleKind<|aO X.prog X.w) a b i) ⟨tupleKind_room_in1 hu,k,n,ft I.hok eb,f,h _ _ (I.tok _) ?_⟩;rw[l];exact(c.val k).getD rfl
theorem Ka{Q:Value->Shared->Prop}(hu:A.units+1<cLine)(I:Inv X pins Z H s)(g:DGet H a y o)(ry:RelV y u)(rd:RelV d r)(h:∀w' s',Inv X pins Z H s'->RelV (o.getD d) w'->Q w' s'):
  wpAny (model X.prog X.w) A (call (.builtin "dict.get") [.ref a,u,r]) Q E s:=by
 rcases g with⟨j,k,e,m,l⟩|⟨j,k,b,e,m,eb,l⟩
 .subst m
  obtain⟨z,i,p,c,f⟩:=gD I.hok e;refine call_meetsIn OM f.typeIs Px (Ro _ _ _) (meets_dict_get_default (aO X.prog X.w) a (i6 ry) i r) ⟨_,f.mapOf,h _ _ (I.tok _) ?_⟩;rw[l];exact(c.val k).getD rd
 .subst m
  cases (show u=ND b from ry);obtain⟨z,i,n,c,f⟩:=jf I.hok e;refine call_meetsIn OM f.typeIs Px (Ro _ _ _) (meetsH_dict_get_default (tupleKind<|aO X.prog X.w) a b i r) ⟨tupleKind_room_in1 hu,k,n,ft I.hok eb,f,h _ _ (I.tok _) ?_⟩;rw[l];exact(c.val k).getD rd
end
def GR(td ty:TE):TE:=λZ H Q=>td Z H λx H1=>∃a,x=.ref a/\IsD H1 a/\ty Z H1 λy H2=>∃o,DGet H2 a y o/\Q (o.getD .non) H2
def Hb(td ty tx:TE):TE:=λZ H Q=>td Z H λx H1=>∃a,x=.ref a/\IsD H1 a/\ty Z H1 λy H2=>tx Z H2 λz H3=>∃o,DGet H3 a y o/\Q (o.getD z) H3
section
variable {X:Cx}{o e f:Expr}{apos cpos:Pos}{td ty tx:TE}
theorem Cm(hu:X.A.units+1<cLine)(ho:PE X o td)(he:PE X e ty)(m:M1 X o "get" apos e cpos):PE X (.Call (.Attribute o "get" apos) [e] [] cpos) (GR td ty):=by
 intro b s Z H Q I h;refine wpAny_Call_method m.base m.few m.line Rn OM RB (bF (ho b s Z H _ I h) λu i ⟨x,H1,I1,q,a,v,d,r⟩=>?_);subst v;obtain rfl:u=ND a:=q;obtain⟨l,j,_⟩:=Cs I1 d;refine⟨l,j,?_⟩;rw[m.trees];refine PB rfl (Pc<|O0 (bF (he b i Z H1 _ I1 r) λz w ⟨y,H2,I2,p,B,g,n⟩=>Pz ?_));exact Jm hu I2 g p λC E I3 c=>⟨_,H2,I3,c,n⟩
theorem C7(hu:X.A.units+1<cLine)(ho:PE X o td)(he:PE X e ty)(hf:PE X f tx)(m:M2 X o "get" apos e f cpos):PE X (.Call (.Attribute o "get" apos) [e,f] [] cpos) (Hb td ty tx):=by
 intro b s Z H Q I h;refine wpAny_Call_method m.base m.few m.line Rn OM RB (bF (ho b s Z H _ I h) λu r ⟨x,H1,I1,w,a,C,d,B⟩=>?_);subst C;obtain rfl:u=ND a:=w;obtain⟨l,j,_⟩:=Cs I1 d;refine⟨l,j,?_⟩;rw[m.trees];refine PB rfl (Pc<|O0 (bF (he b r Z H1 _ I1 B) λF i ⟨y,H2,I2,n,v⟩=>
  O0 (bF (hf b i Z H2 _ I2 v) λG L ⟨z,H3,I3,p,E,g,q⟩=>Pz ?_)))
 exact Ka hu I3 g n p λK J I4 c=>⟨_,H3,I4,c,q⟩
end
section
variable {X:Cx}{pins:List (Addr×Obj)}{Z:St}{H:Hp}{s:Shared}{a:Addr}{kvs:List (ax×V)}{A:Around}{E:Value->Shared->Prop}
end
section
variable {X:Cx}{pins:List (Addr×Obj)}{Z:St}{H:Hp}{s:Shared}{a:Addr}{y:V}{u:Value}{A:Around}{E:Value->Shared->Prop}
end
end L2
namespace Att
open PySem PySem.W PySem.Calls PyProof.Rows
theorem jt{P:Params}{h:Heap}:∀(ns:List Int) (vs:List Value),WellAll P h vs (ns.map WData.int)->IntsAre vs ns:=by
 intro ns
 induction ns with
 |nil=>
  intro vs w;rw[NM]at w;cases w;exact .nil
 |cons n ns ih=>
  intro vs w;rw[Nb]at w;cases w with
  |cons a b=>
   cases a;exact .cons _ _ (ih _ b)
theorem zc{l:OpenLaw}{n:Nat}(hn:l.most=some n){P:Params}{h:Heap}{args:List WData}{vals:List Value}
  (hpre:l.row.toRowW.claim.pre args=true) (hwl:WellAll P h vals args):
  ∃a vs ns,vals=[ND a]/\args=[WData.list (ns.map WData.int)]/\h.get? a=some { cls:=.type "list",data:=.seq vs.toArray }/\IntsAre vs ns/\ns.length<=n:=by
 have f:WShape.hasAll [] args [.list .int]=true:=(pre_splitW hpre).1;have g:l.pre.holds [] { args:=args }=true:=(pre_splitW hpre).2;obtain⟨d,r,rfl,i,m⟩:=hasAllW_cons f;obtain rfl:=hasAllW_nil m;obtain⟨p,rfl,o⟩:=hasW_list i;obtain⟨ns,rfl⟩:=items_int o;have b:ns.length<=n:=by
  unfold OpenLaw.pre at g;have c:(WTm.not<|.lt (.lit<|.int (n:Int))<|.len<|.arg 0).holds [] { args:=[.list (ns.map .int)] }=true:=by
   have c:=(holds_andW g).1;rw[hn]at c;exact c
  have e:=condW_of c (w_not<|w_lt w_lit<|w_len_list<|w_arg rfl);rw[MW]at e;refine Nat.le_of_not_lt λq=>?_;have j:(n:Int)<((ns.length:Nat):Int):=by lia
  first
   |(rw[decide_eq_true j]at e;exact absurd e (by decide))
   |(simp at e;lia)
 cases hwl with
 |cons w1 w2=>
  cases w2;cases w1 with
  |list ho hall=>exact⟨_,_,ns,rfl,rfl,ho,jt ns _ hall,b⟩
theorem yZ(l:OpenLaw)(args:List WData):l.row.toRowW.claim.post args (.bool true) args=true:=
 postW_of (r:=l.row.toRowW) (X:=(true==true))
  (show WShape.has [] (.bool true) .bool=true by first|rfl|decide|simp[WShape.has,WShape.arms,WShape.armsAll])
  (show (WTm.eq .res<|.lit<|.bool true).value [] { args:=args,res:=some (.bool true),after:=args }=some (.bool (true==true)) from w_eq_bool (w_res rfl) w_lit) rfl
theorem rQ{l:OpenLaw}{n:Nat}{q:Program}{loose:List Str}{XP:(Str->Option Value)->Heap->Prop}{YP:World->Heap->Prop}{d:DefRec}
  (hn:l.most=some n) (hdf:d.params.defaults=[])
  (call:∀(w:World) (s₀ s₁:Shared) (mg mb:Str->Option Value) (fa:Addr) (o:Obj) (pm cd doc:Value) (a:Addr) (vs:List Value) (ns:List Int),
   Ground q loose [] XP w s₀ mg mb s₁.heap->YP w s₁.heap->
   s₁.heap.get? fa=some o->o.data=.func (docDef d.name d.params d.body d.scope pm cd doc)->s₁.heap.CodeRec cd d.name->mg d.name=some (.ref fa)->
   s₁.heap.get? a=some { cls:=.type "list",data:=.seq vs.toArray }->IntsAre vs ns->ns.length<=n->s₁.gens=#[]->
   codeAny (model l.prog w) callerA (.call (.ref fa) ⟨[.ref a],[]⟩) (λr h=>r=.ok (.ret<|.bool true)/\OldK s₁.heap h.heap/\h.os=s₁.os/\AllBare h.gens) s₁):
  WalkO q loose XP YP l.row.toRowW d [] (λf vs=>Sf f vs):=by
 intro w s₀ s₁ mg mb G Y fa o pm cd doc F kV y z i hD m x s p I g u B j E;obtain rfl:F=.none:=Dflts.none hD hdf;obtain rfl:kV=.none:=Dflts.noKw hD;obtain⟨a,vs,ns,rfl,rfl,c,b,e⟩:=zc hn g j;refine enter_call (codeAny_mono (call w s₀ s₁ mg mb fa o pm cd doc a vs ns G Y y (fd_plain z) i m c b e x) λr h v=>?_);obtain⟨rfl,H,A,C⟩:=v;exact⟨.inl ⟨.bool true,.bool true,[],rfl,λ_=>rfl,.bool true,yZ l _,λ_=>⟨List.Pairwise.nil,λ_ hm=>(nomatch hm)⟩⟩,H,A,C⟩
section
variable {prog:Program}{w:World}{A:Around}{E:Value->Shared->Prop}{s:Shared}{K:Frag}
end
end Att
namespace L2
open PySem PySem.Spec PyProof.Rows
theorem nb:∀{vs:List Value} {ns:List Int},IntsAre vs ns->Vals (ns.map V.int) vs
 |_,_,.nil=>.nil
 |_,_,.cons n t h=>.cons ⟨t,rfl⟩ (nb h)
def Al(H:Hp):Prop:=∀b,H b=none\/∃o xs,H b=some (.frz o<|.lst xs)
theorem C4{P:Program}{w:World}{K:Ng}{mg mb:Str->Option Value}{CX:pq}{k:Nat}{fa a:Addr}{fd:FuncData}{x:Str}{sp:Sp}{s₁:Shared}{vs:List Value}{ns:List Int}
  (KX:K.In s₁.heap) (hns:s₁.heap.Ns mainGlobals mg) (hb:s₁.heap.Ns builtinsNs mb) (hbb:∀x:Str,x≠"__name__"->mb x=bootBuiltins x) (hlim:s₁.heap.NoLimit) (hg:s₁.gens=#[])
  (ha:s₁.heap.get? a=some { cls:=.type "list",data:=.seq vs.toArray }) (hi:IntsAre vs ns) (hl:ns.length<=sizeLine) (hr:Room k callerA)
  (F:∀base:Heap,K.In base->base.Ns mainGlobals mg->FnOk P w K mg base CX k fa fd [x] sp) (hbind:∀(s:Shared) (u:Value),BindsTo s fd ⟨[u],[]⟩ [(x,u)])
  (hsp:∀H:Hp,Al H->SqL K H a (ns.map V.int)->sp [.ref a] H (λv _=>v=.bl true) λ_ _ _=>False)
  (hCX:∀H e f,CX [] H s₁ (λ_ _ _=>False) e f->False):
  codeAny (model P w) callerA (.call (.ref fa) ⟨[.ref a],[]⟩) (λr f=>r=.ok (.ret<|.bool true)/\OldK s₁.heap f.heap/\f.os=s₁.os/\AllBare f.gens) s₁:=by
 have N:=nb hi;have B:=hi.length
 -- from an abstract heap in which nothing but the script may be tracked
 have g:∀H:Hp,Al H->SqL K H a (ns.map V.int)->HOk P w H s₁.heap->(∀b,H b≠none->b=a)->(H a≠none->K.lookup a=none)->
   codeAny (model P w) callerA (.call (.ref fa) ⟨[.ref a],[]⟩) (λr f=>r=.ok (.ret<|.bool true)/\OldK s₁.heap f.heap/\f.os=s₁.os/\AllBare f.gens) s₁:=by
  intro H M hS l J Q;have c:∀{b:Addr} {o:Obj},s₁.heap.get? b=some o->H b=none->(oN s₁.heap H).get? b=some o:=λe n=>Cr e n;have E:∀{b:Addr} {o:Obj} {y:Array DictEntry} {C:Nat},s₁.heap.get? b=some o->o.data=.dict y C->H b=none:=λ{b o y C} e d=>by
   cases q:H b with
   |none=>rfl
   |some u=>
    have I:b=a:=J b (by rw[q];simp)
    subst I;rw[ha]at e;cases e;have O:Data.seq vs.toArray _=Data.dict y C:=d;cases O
  have nsK:∀{b:Addr} {m:Str->Option Value},s₁.heap.Ns b m->(oN s₁.heap H).Ns b m:=λ{b m} ⟨o,y,C,e,d,r⟩=>⟨o,y,C,c e (E e d),d,r⟩;have A:K.In (oN s₁.heap H):=λb o e=>c (KX b o e) (by
   cases q:H b with
   |none=>rfl
   |some u=>
    have I:b=a:=J b (by rw[q];simp)
    subst I;rw[Q (by rw[q];simp)]at e;cases e)
  have hM:Mod K mg (oN s₁.heap H):=⟨A,nsK hns,⟨mb,nsK hb,hbb⟩,let ⟨mc,h1,h2⟩:=hlim;⟨mc,nsK h1,h2⟩⟩;have W:Env0 P w K mg (oN s₁.heap H) callerA [] s₁ H:=⟨rfl,hM,λb o e=>Dt e,Nat.le_of_eq (zn _ _),trivial,λb hb=>absurd (show b∈([]:List Addr) from hb) (by simp),l,.of_eq hg⟩
  refine codeAny_mono ((F _ A<|nsK hns).run callerA [] s₁ H ⟨[.ref a],[]⟩ [.ref a] [.ref a] _ _ hr W (hbind s₁<|.ref a) (.cons rfl .nil)<|hsp H M hS) λr f h=>?_;cases r with
  |error e=>exact(hCX H e f h).elim
  |ok fl=>
   cases fl with
   |next=>exact Ov h
   |brk=>exact Ov h
   |cont=>exact Ov h
   |ret u=>
    obtain⟨v,H',os,i,un,p,T,q⟩:=h;have S:v=.bl true:=q;subst S;obtain rfl:u=Pb true:=T;refine⟨rfl,OldK.of_keep λb o e=>?_,os,i⟩;cases q:H b with
    |none=>exact un.keep b o e q (by intro z;exact absurd (show b∈([]:List Addr) from z) (by simp)) (by simp)
    |some u=>
     rcases M b with z|⟨ob,xs,z⟩
     .rw[q]at z;cases z
     .have R:=un.frzs b ob _ z
      obtain⟨L,_⟩:=l b _ z;obtain⟨U,_⟩:=p b _ R;rw[e]at L;cases L;exact U
 cases G:K.lookup a with
 |some o=>
  -- the script is one of the module's own objects
  have e:=KX a o G;rw[ha]at e;cases e;refine g (λ_=>none) (λ_=>.inl rfl) (.inr ⟨_,vs.toArray,_,G,rfl,rfl,rfl,by rw[Na,B];exact hl,by simpa using N⟩) (λb u z=>by have j:(none:Option HO)=some u:=z;cases j) (λb z=>absurd rfl z) λz=>absurd rfl z
 |none=>
  refine g (λb=>if b=a then some (.frz { cls:=.type "list",data:=.seq vs.toArray }<|.lst<|ns.map V.int) else none) (λb=>?_) (.inl<|.inr ⟨{ cls:=.type "list",data:=.seq vs.toArray },if_pos rfl⟩) (λb u z=>?_) (λb z=>?_) λ_=>G
  .by_cases hb:b=a
   .exact .inr ⟨_,_,if_pos hb⟩
   .exact .inl (if_neg hb)
  .by_cases hb:b=a
   .have j:=(if_pos hb).symm.trans z
    cases j;subst hb;exact⟨ha,by rw[MW];exact hl,vs,_,N,ha⟩
   .have j:=(if_neg hb).symm.trans z
    cases j
  .by_cases hb:b=a
   .exact hb
   .exact absurd (if_neg hb) z
theorem Ep{l:W.OpenLaw}{n k:Nat}{q:Program}{loose:List Str}{XP:(Str->Option Value)->Heap->Prop}{YP:World->Heap->Prop}{d:DefRec}{K:Params->Ng}{CX:World->pq}{sp:World->Sp}{x:Str}
  (hn:l.most=some n) (hn2:n<=sizeLine) (hdf:d.params.defaults=[]) (hr:Room k callerA)
  (hY:∀(w:World) (h:Heap),YP w h->(K w.params).In h)
  (F:∀(w:World) (mg:Str->Option Value) (fa:Addr) (h:Heap),(K w.params).In h->h.Ns mainGlobals mg->mg d.name=some (.ref fa)->
   ∃fd:FuncData,(∀(s:Shared) (u:Value),BindsTo s fd ⟨[u],[]⟩ [(x,u)])/\
    ∀base:Heap,(K w.params).In base->base.Ns mainGlobals mg->FnOk l.prog w (K w.params) mg base (CX w) k fa fd [x] (sp w))
  (hsp:∀(w:World) (H:Hp) (a:Addr) (ns:List Int),ns.length<=n->Al H->SqL (K w.params) H a (ns.map V.int)->sp w [.ref a] H (λv _=>v=.bl true) λ_ _ _=>False)
  (hCX:∀(w:World) (H:Hp) (s:Shared) (e:Value) (s':Shared),CX w [] H s (λ_ _ _=>False) e s'->False):
  W.WalkO q loose XP YP l.row.toRowW d [] (λf vs=>Sf f vs):=by
 refine Att.rQ hn hdf λw r j mg I fa o J L z a vs ns G Y M N y p m i c A=>?_;have KX:=hY w _ Y;obtain⟨fd,E,C⟩:=F w mg fa _ KX G.T.g p;exact C4 KX G.T.g G.T.b G.T.builtins G.T.nolimit A m i (Ny c hn2) hr C E (λH B hS=>hsp w H a ns c B hS) λH e s'=>hCX w H j e s'
def fQ(s:Stmt)(j:Nat):Stmt:=match s with
 |.ClassDef _ _ _ body _ _ _ _ _ _ _=>body.getD j (.Pass ⟨0,0,0,0⟩)
 |_=>.Pass ⟨0,0,0,0⟩
def di(s:Stmt):Arguments:=match s with
 |.FunctionDef _ a _ _ _ _ _ _ _ _=>a
 |_=>{ posonlyargs:=[],args:=[],vararg:=none,kwonlyargs:=[],kw_defaults:=[],kwarg:=none,defaults:=[] }
def cE(s:Stmt):List Stmt:=match s with
 |.FunctionDef _ _ b _ _ _ _ _ _ _=>b
 |_=>[]
def bq(s:Stmt):Scope:=match s with
 |.FunctionDef _ _ _ _ _ _ sc _ _ _=>sc
 |_=>{ kind:=.function,names:=[],isGenerator:=false,isCoroutine:=false }
abbrev CX0:pq:=λ_ _ _ _ _ _=>False
abbrev E0:XK:=λ_ _ _=>False
structure Fun(K:Ng)(x qual:Str)(st:Stmt)(f:Addr)(fd:FuncData):Prop where
 ex:∃(oc:Value) (od:Option Addr) (kV doc pm:Value) (an:Option Addr) (cdv ct:Value) (osl:Array (Option Value)),
  fd=Qs x qual (di st) (cE st) (bq st) .none kV doc pm an cdv ct/\K.lookup f=some ⟨oc,od,.func fd,osl⟩/\W.codeIn K cdv qual=true
 kp:Pw K (.ref f)=true
section
variable {P:Program}{w:World}{K:Ng}{mg:Str->Option Value}{base:Heap}
theorem Fun.binds{x qual:Str}{st:Stmt}{f:Addr}{fd:FuncData}{ps:List Str}(F:Fun K x qual st f fd)
  (h:∀(kV doc pm:Value) (an:Option Addr) (cdv ct:Value) (us:List Value),us.length=ps.length->bindArgs (Qs x qual (di st) (cE st) (bq st) .none kV doc pm an cdv ct) ⟨us,[]⟩=pure (ps.zip us)):Binds K fd ps []:=by
 obtain⟨e,c,kV,doc,pm,an,cdv,ct,a,rfl,lk,b⟩:=F.ex;exact .all (h kV doc pm an cdv ct)
theorem A4{x qual:Str}{st:Stmt}{f:Addr}{oc:Value}{od an:Option Addr}{osl:Array (Option Value)}{kV doc pm cdv ct:Value}(l:K.lookup f=some ⟨oc,od,.func (Qs x qual (di st) (cE st) (bq st) .none kV doc pm an cdv ct),osl⟩)
  (c:W.codeIn K cdv qual=true) (k:Pw K (.ref f)=true):Fun K x qual st f (Qs x qual (di st) (cE st) (bq st) .none kV doc pm an cdv ct):=⟨⟨oc,od,kV,doc,pm,an,cdv,ct,osl,rfl,l,c⟩,k⟩
end
theorem BU{A:Around}{k:Nat}(hr:Room k A):A.units+1<cLine:=QO (Nat.add_le_add_left (by decide:1<=64) _) hr.units
section
variable {X:Cx}
theorem yu:bG X (.builtin "len") (λxs H Q=>∃a kvs,xs=[V.ref a]/\H a=some (.dK kvs)/\Q (.int kvs.length) H):=by
 intro b s Z H xs f Q I r h;obtain⟨a,kvs,rfl,c,q⟩:=h;obtain⟨u,rfl,e⟩:=jc r;cases e;exact Lc I (.inl c) λt g I'=>⟨.int kvs.length,H,I',⟨t,rfl⟩,q⟩
end
section
variable {κ:Type}[DecidableEq κ]
end
section
variable {prog:Program}{w:World}{A:Around}{R:Result->Shared->Prop}{s:Shared}
theorem on{elt target iter:Expr}{ifs:List Expr}{scope:Scope}{pos:Pos}{it acc:Value}{env:Env}(I:Nat->Shared->Prop)
  (turn:∀n s,I n s->wpAny (model prog w) A (pyNext it) (λr s₁=>match r with
   |none=>R (.ok .next) s₁
   |some v=>wpAny (model prog w) A (letOwnedTupleGo target it v) (λ_ s₂=>wpAny (model prog w) A (assign target env v) (λ_ s₃=>
     wpAny (model prog w) A (forIn ifs true λc r=>if r=true then do let ok <- isTrue c env (eval c env);pure (Qd ok) else pure (Qd r)) (λok s₄=>
      if ok=true then wpAny (model prog w) A (eval elt env) (λx s₅=>
       wpAny (model prog w) A (call (.builtin "list.append") [acc,x]) (λ_ s₆=>∃m,m<n/\I m s₆) (λ_ _=>False) s₅) (λ_ _=>False) s₄
      else ∃m,m<n/\I m s₄) (λ_ _=>False) s₃) (λ_ _=>False) s₂) (λ_ _=>False) s₁) (λ_ _=>False) s)
  (n:Nat) (h:I n s):
  codeAny (model prog w) A (.compLoop (.ListComp elt [⟨target,iter,ifs,0⟩] scope pos) 0 it acc env) R s:=by
 refine codeAny_loop rfl I (λn s j=>?_) n h;show wpAny _ A ((compTurn (.ListComp elt [⟨target,iter,ifs,0⟩] scope pos) 0 it acc env).onRaise λx=>do noteFrame x env;theTreesLotGoes x) _ _ s
 refine wpAny_noted ?_;rw[compTurn_list];refine wpAny_bind (wpAny_standAt<|wpAny_bind (wpAny_mono (turn n s j) (λr s₁ a=>?_) λ_ _ z=>z.elim));cases r with
 |none=>exact wpAny_pure a
 |some v=>
  refine wpAny_bind (wpAny_mono a (λ_ s₂ e=>wpAny_bind (wpAny_mono e (λ_ s₃ i=>wpAny_bind (wpAny_mono i (λok s₄ b=>?_) λ_ _ z=>z.elim)) λ_ _ z=>z.elim)) λ_ _ z=>z.elim);cases ok with
  |false=>exact wpAny_pure ⟨rfl,b⟩
  |true=>
   exact wpAny_bind (wpAny_bind (wpAny_mono b (λx s₅ f=>wpAny_bind (wpAny_mono f (λ_ s₆ g=>wpAny_pure (wpAny_pure ⟨rfl,g⟩)) λ_ _ z=>z.elim)) λ_ _ z=>z.elim))
end
def bi(X:Cx)(N:List Str)(scope:Scope)(cl:List (Str×Addr))(C:Addr)(s₀:Shared)(H₀:Hp)(fp:List Addr)(pl:List (Addr×Obj)):Cx where
 prog:=X.prog
 w:=X.w
 K:=X.K
 mg:=X.mg
 base:=X.base
 A:=X.A
 N:=N
 s₀:=s₀
 H₀:=H₀
 env:=compEnvC scope cl C X.env
 outer:=X.stack
 stack:=X.stack
 ex:=fp
 fn:=λ_=>false
 calm:=X.calm
 pn:=X.pn++pl
 xe:=λ_ _=>False
inductive Frees(X:Cx)(scope:Scope):List Str->List Nat->Prop where
 |nil:Frees X scope [] []
 |cons {x:Str} {j:Nat} {xs:List Str} {js:List Nat}:X.N[j]?=some x->(X.env.kindOf x=some .cell\/X.env.kindOf x=some .free)->
   ((relabel scope X.env).names.lookup x=some .cell\/(relabel scope X.env).names.lookup x=some .free)->Frees X scope xs js->Frees X scope (x::xs) (j::js)
theorem Frees.length{X:Cx}{scope:Scope}:∀{xs:List Str} {js:List Nat},Frees X scope xs js->xs.length=js.length
 |_,_,.nil=>rfl
 |_,_,.cons _ _ _ t=>congrArg (·+1) t.length
theorem Frees.get{X:Cx}{scope:Scope}:∀{xs:List Str} {js:List Nat},Frees X scope xs js->∀{i:Nat} {x:Str},xs[i]?=some x->∃j,js[i]?=some j/\X.N[j]?=some x/\(X.env.kindOf x=some .cell\/X.env.kindOf x=some .free)/\
   ((relabel scope X.env).names.lookup x=some .cell\/(relabel scope X.env).names.lookup x=some .free)
 |_,_,.nil,i,x,h=>by simp at h
 |_,_,.cons a b c _,0,x,h=>by simp at h;subst h;exact⟨_,rfl,a,b,c⟩
 |_,_,.cons _ _ _ t,i+1,x,h=>by
  obtain⟨j,e,f⟩:=t.get (i:=i) (x:=x) (by simpa using h)
  exact⟨j,by simpa using e,f⟩
def c_(ls:List Str)(js:List Nat)(Z:St):St:=ls.map (λ_=>none)++js.map λj=>(Z[j]?).join
structure CompOk(X:Cx)(scope:Scope)(cl:List (Str×Addr))(ls fs:List Str)(js:List Nat):Prop where
 kind:scope.kind=.function
 nocell:∀y∈scope.names,y.2≠.cell
 locs:∀x∈scope.names,x.2=.local->scope.names.lookup x.1=some .local
 clos:closureFor scope X.env=pure cl
 cells:∀x c,cl.lookup x=some c->X.env.cells.lookup x=some c
 has:∀x,((relabel scope X.env).names.lookup x=some .cell\/(relabel scope X.env).names.lookup x=some .free)->∃c,cl.lookup x=some c
 frees:Frees X scope fs js
theorem AG{X:Cx}{pins:List (Addr×Obj)}{Z:St}{H:Hp}{s:Shared}{scope:Scope}{cl:List (Str×Addr)}{ls fs:List Str}{js:List Nat}{fp:List Addr}{h₁:Heap}{m:Str->Option Value}{t':Nat}
  (I:Inv X pins Z H s) (co:CompOk X scope cl ls fs js) (hfp:∀b∈fp,iN X pins H b/\b<s.heap.objs.size) (hns:h₁.Ns s.heap.objs.size m) (hk:∀b o,s.heap.get? b=some o->h₁.get? b=some o):
  Inv (bi X (ls++fs) scope cl s.heap.objs.size s H fp pins) [] (c_ ls js Z) H { s with heap:=h₁,toks:=t' }:=by
 have lk:∀b o,s.heap.get? b=some o->b≠s.heap.objs.size:=λb o e=>Np (Nc e);refine⟨⟨I.ok.mod,co.kind,I.ok.glob,I.ok.blt,Ni _,λx y c r l=>?_,λx E=>co.has x E,λx c h _=>absurd (show false=true from h) NA,I.ok.hd,I.ok.frames,.inl rfl,λb f=>⟨Np (hfp b f).2,λx c e=>?_⟩,
   λb o e=>I.bs b o e,Ny I.ok.bsz I.sz,λb o e f=>?_,λb f Y=>?_,I.stack,λb f=>I.stkFree b f⟩,
  rfl,I.bare,Un.kept hk,⟨m,hns,λi x v r l h3=>?_⟩,λx c e=>?_,I.hok.fresh (Ni _),λx c e=>I.freeC x c (co.cells x c e),λp hp=>?_,I.hok.kept hk,?_⟩
 .exact I.ok.inj x y c (co.cells x c r) (co.cells y c l)
 .exact(hfp b f).1.2.2.2.2.1 x c (co.cells x c e)
 .obtain⟨T,L,J,N,_⟩:=(hfp b f).1
  rcases N with z|z
  .exact I.ok.noex b o e z
  .exact absurd (Nt (Nc (I.ok.bs b o e).1) z) (Ou _)
 .obtain⟨T,L,J,N,_⟩:=(hfp b f).1
  rcases Nl.mp (I.stkSub b Y) with z|z
  .exact L z
  .exact J z
 .have g:¬i<ls.length:=λg=>by
   have a:(c_ ls js Z)[i]?=some (some v):=l;unfold c_ at a;rw[OQ (by simpa using g),Nr,MY g]at a
   cases a
  have W:fs[i-ls.length]?=some x:=by
   have C:(ls++fs)[i]?=some x:=r
   rwa [Ox (by lia)]at C
  obtain⟨j,R,E,O,K⟩:=co.frees.get W;have G:Z[j]?=some (some v):=by
   have a:(c_ ls js Z)[i]?=some (some v):=l;unfold c_ at a;rw[Ox (by simpa using g),MW,Nr,R]at a
   have q:(Z[j]?).join=some v:=by simpa using a
   cases e:Z[j]? with
   |none=>rw[e]at q;cases q
   |some o=>rw[e]at q;have Q:o=some v:=q;rw[Q]
  obtain⟨mX,_,B⟩:=I.loc;have F:Kd X.env.scope x:=by
   rcases O with z|z
   .exact .inr (.inl z)
   .exact .inr (.inr z)
  obtain⟨u,U,lo⟩:=B j x v E G F;refine⟨u,U,.inr ⟨K,?_⟩⟩;obtain⟨c,P⟩:=co.has x K;refine⟨c,P,?_⟩;rcases lo with⟨M,_⟩|⟨_,c',e',z⟩
  .rcases O with q|q<;>(rw[q]at M;cases M)
  .rw[co.cells x c P]at e'
   cases e';obtain⟨o,w,hd⟩:=z;exact⟨o,hk _ _ w,hd⟩
 .obtain⟨v,o,w,hd⟩:=I.cell x c (co.cells x c e)
  exact⟨v,o,hk _ _ w,hd⟩
 .have A:p∈X.pn++pins:=by
   have q:p∈(X.pn++pins)++[]:=hp;simpa using q
  obtain⟨e,n,ne,S,d⟩:=I.pin p A;refine⟨hk _ _ e,n,lk _ _ e,λf=>?_,d⟩;rcases Nl.mp (I.stkSub p.1 f) with z|z
  .exact ne z
  .exact S z
 .show (c_ ls js Z).length=(ls++fs).length
  unfold c_;rw[Nd,MW,MW,Nd,co.frees.length]
def IJ(X:Cx)(ifs:List Expr)(t:TT):Prop:=
 ∀(pins:List (Addr×Obj)) (s:Shared) (Z:St) (H:Hp) (Q:Bool->Hp->Prop),Inv X pins Z H s->t Z H Q->
  wpAny (model X.prog X.w) X.A (forIn ifs true λc r=>if r=true then do let ok <- isTrue c X.env (eval c X.env);pure (Qd ok) else pure (Qd r)) (TP X pins Z Q) X.xe s
def tAll:TT:=λ_ H Q=>Q true H
theorem Dy{X:Cx}:IJ X [] tAll:=λ_ _ _ H _ I h=>wpAny_tests_nil ⟨H,I,h⟩
theorem Do{X:Cx}{c:Expr}{t:TT}(h:PT X c t):IJ X [c] t:=λa s Z H Q I q=>wpAny_tests_one (h a s Z H Q I q)
def zW(wi:TI)(ls:List Str)(js:List Nat)(g:TG)(tt:TT)(te:TE):TE:=λZ H Q=>wi Z H λJ H1=>∀p,H1 p=none->∃W:Nat->Nat->St->Hp->Prop,(∃m,W 0 m (c_ ls js Z) (upd H1 p<|.lst []))/\∀i m σ' H',W i m σ' H'->
 (J.stop i H'/\Q (.ref p) H')\/(J.go i H'/\∃N:St->Hp->Prop,(∀σ2 H2,N σ2 H2->∃m',m'<m/\W (i+1) m' σ2 H2)/\∀x H2,J.yld i H' x H2->g x σ' H2 λa H3=>tt a H3 λc H4=>
  if c=true then te a H4 λy H5=>∃ys,H5 p=some (.lst ys)/\ys.length<sizeLine/\N a (upd H5 p<|.lst (ys++[y])) else N a H4)
section
variable {X:Cx}{tg iter elt:Expr}{ifs:List Expr}{scope:Scope}{cl:List (Str×Addr)}{pos:Pos}{ls fs:List Str}{js:List Nat}{wi:TI}{g:TG}{tt:TT}{te:TE}
theorem qh{pins:List (Addr×Obj)}{Z:St}{s2:Shared}{it:Addr}{fp:List Addr}{tn:Nat->Heap->Prop}{J:It}{H1:Hp}{R:Value->Addr->Result->Shared->Prop}{Q:VK}{E:Value->Shared->Prop}(hc:X.calm=true)(co:CompOk X scope cl ls fs js)
  (hY:∀(C:Addr) (s₀:Shared) (H₀:Hp) (fp:List Addr) (pl:List (Addr×Obj)),PG (bi X (ls++fs) scope cl C s₀ H₀ fp pl) tg g/\IJ (bi X (ls++fs) scope cl C s₀ H₀ fp pl) ifs tt/\PE (bi X (ls++fs) scope cl C s₀ H₀ fp pl) elt te)
  (I:Inv X pins Z H1 s2) (T:Turn X.prog X.w X.K tg J fp it tn) (st:tn 0 s2.heap) (hf:∀b∈fp,iN X pins H1 b)
  (q:∀p,H1 p=none->∃W:Nat->Nat->St->Hp->Prop,(∃m,W 0 m (c_ ls js Z) (upd H1 p<|.lst []))/\∀i m σ' H',W i m σ' H'->
   (J.stop i H'/\Q (.ref p) H')\/(J.go i H'/\∃N:St->Hp->Prop,(∀σ2 H2,N σ2 H2->∃m',m'<m/\W (i+1) m' σ2 H2)/\∀x H2,J.yld i H' x H2->g x σ' H2 λσ3 H3=>tt σ3 H3 λc H4=>
    if c=true then te σ3 H4 λy H5=>∃ys,H5 p=some (.lst ys)/\ys.length<sizeLine/\N σ3 (upd H5 p<|.lst (ys++[y])) else N σ3 H4))
  (hR:∀(p C:Addr) (H':Hp) (s':Shared) (m:Str->Option Value),s'.heap.Ns C m->Inv X pins Z H' s'->H' C=none->C≠X.env.locals->X.s₀.heap.objs.size<=C->(∀x c,X.env.cells.lookup x=some c->c≠C)->(∀pp∈X.pn++pins,pp.1≠C)->Q (.ref p) H'->R (.ref p) C (.ok .next) s'):
  wpAny (model X.prog X.w) X.A (newList []) (λacc s₃=>wpAny (model X.prog X.w) X.A (newFunctionEnv scope X.env.globals cl [] X.env.qual none .none<|some X.env) (λcenv s₄=>
   codeAny (model X.prog X.w) X.A (.compStart (.ListComp elt [⟨tg,iter,ifs,0⟩] scope pos) 0 (.ref it) acc { cenv with scope:=relabel scope X.env }) (R acc cenv.locals) s₄) E s₃) E s2:=by
 have hp0:H1 s2.heap.objs.size=none:=I.hok.fresh (Ni _);obtain⟨W,⟨m0,w0⟩,U⟩:=q s2.heap.objs.size hp0;refine wpAny_newObj_type (wpAny_newFunctionEnv co.nocell (by intro y hy;simp at hy) (λf s h=>?_) co.kind)
 dsimp only at s h ⊢;have I3:Inv X pins Z (upd H1 s2.heap.objs.size<|.lst []) { s2 with heap:=s2.heap.push { cls:=.type "list",dict:=none,data:=.seq ([]:List Value).toArray } }:=
  I.lnew (its:=[]) (t':=s2.toks) .nil (N5 _)
 generalize hs3:({ s2 with heap:=s2.heap.push { cls:=.type "list",dict:=none,data:=.seq ([]:List Value).toArray } }:Shared)=s3 at I3;have G:s2.heap.push { cls:=.type "list",dict:=none,data:=.seq ([]:List Value).toArray }=s3.heap:=by rw[<- hs3]
 rw[G]at s h ⊢;have hsz3:s3.heap.objs.size=s2.heap.objs.size+1:=by rw[<- G,Oi]
 have hk3:∀b o,s2.heap.get? b=some o->s3.heap.get? b=some o:=λb o e=>by rw[<- G];exact MX _ e
 have hlt:∀b∈fp,b<s2.heap.objs.size:=λb a=>by
  obtain⟨o,e,_⟩:=T.obj _ _ st b a;exact Nc e
 have S:∀b∈fp,upd H1 s2.heap.objs.size (.lst []) b=none:=λb a=>by
  rw[aH (Np<|hlt b a)];exact(hf b a).1
 have O:∀b∈fp,iN X pins (upd H1 s2.heap.objs.size<|.lst []) b/\b<s3.heap.objs.size:=λb a=>⟨⟨S b a,(hf b a).2⟩,by rw[hsz3];exact Nat.lt_succ_of_lt (hlt b a)⟩
 have hk4:∀b o,s3.heap.get? b=some o->f.get? b=some o:=λb o e=>h.extBut b o (Np<|Nc e) (MX _ e);have Y:tn 0 f:=T.keep _ _ _ st λb a o e=>hk4 b o (hk3 b o e);have I4:=AG (t':=s3.toks) I3 co O s hk4;obtain⟨hg,ht,he⟩:=hY s3.heap.objs.size s3 (upd H1 s2.heap.objs.size<|.lst []) fp pins;have j:∀{H':Hp},(∀b∈fp,H' b=none)->∀b∈fp,iN (bi X (ls++fs) scope cl s3.heap.objs.size s3 (upd H1 s2.heap.objs.size<|.lst []) fp pins) [] H' b:=λ{H'} hn b a=>by
  obtain⟨f0,f1,f2,f3,f4,f5⟩:=hf b a;refine⟨hn b a,Np (O b a).2,λz=>?_,.inl a,λx c e=>f4 x c (co.cells x c e),λpp M=>f5 pp ?_⟩
  .rcases Nl.mp (I3.stkSub b z) with y|y
   .exact f1 y
   .exact f2 y
  .have q:pp∈(X.pn++pins)++[]:=M
   simpa using q
 have loop:∀s₄:Shared,s₄={ s3 with heap:=f,toks:=s3.toks }->
   codeAny (model X.prog X.w) X.A (.compLoop (.ListComp elt [⟨tg,iter,ifs,0⟩] scope pos) 0 (.ref it) (.ref s2.heap.objs.size)<|compEnvC scope cl s3.heap.objs.size X.env) (R (.ref s2.heap.objs.size) s3.heap.objs.size) s₄:=by
  rintro s₄ rfl
  refine on (λn s'=>∃i σ' H',Inv (bi X (ls++fs) scope cl s3.heap.objs.size s3 (upd H1 s2.heap.objs.size<|.lst []) fp pins) [] σ' H' s'/\tn i s'.heap/\(∀b∈fp,H' b=none)/\W i n σ' H') ?_ m0 ⟨0,_,_,I4,Y,S,w0⟩
  rintro n s5 ⟨i,B,H5,I5,st5,fr5,w5⟩
  rcases U i n B H5 w5 with⟨stop,qn⟩|⟨go,N,hN,step⟩
  .refine bF (T.done (bi X (ls++fs) scope cl s3.heap.objs.size s3 (upd H1 s2.heap.objs.size<|.lst []) fp pins) rfl rfl rfl hc i [] s5 B H5 _ I5 (j fr5) st5 stop) λr s6 ⟨hr,I6⟩=>?_
   subst hr;obtain⟨m6,hn6,_⟩:=I6.loc;have IX:Inv X pins Z H5 s6:=I3.call' I6.os I6.base I6.hok I6.bare λb a=>⟨(hf b a).2.2.2.1,(hf b a).2.1,(hf b a).2.2.2.2.1,(hf b a).2.2.2.2.2⟩;refine hR _ _ H5 s6 m6 hn6 IX I6.free (Pj I3.lt) I3.sz (λx c e z=>?_) (λpp M z=>?_) qn
   .obtain⟨v,zz⟩:=I3.cell x c e
    have P:=zz.lt;rw[z]at P;exact Ou _ P
   .have P:=Nc (I3.pin pp M).1
    rw[z]at P;exact Ou _ P
  .refine bF (T.item (bi X (ls++fs) scope cl s3.heap.objs.size s3 (upd H1 s2.heap.objs.size<|.lst []) fp pins) rfl rfl rfl hc i [] s5 B H5 _ I5 (j fr5) st5 go) λr s6 ⟨u,hr,h6⟩=>?_
   subst hr;refine bF h6 λ_ s7 ⟨x,H7,I7,r7,y7,H,fr7⟩=>?_;have I7':=I7.pinned (j fr7) (T.obj _ _ H);refine bF (hg _ s7 B H7 x u _ I7' r7<|step x H7 y7) λ_ s8 ⟨σ8,H8,I8,q8⟩=>?_
   have again:∀{l:St} {H9:Hp} {L:Shared},Inv (bi X (ls++fs) scope cl s3.heap.objs.size s3 (upd H1 s2.heap.objs.size<|.lst []) fp pins) ([]++lb fp s7.heap) l H9 L->N l H9->
     ∃m,m<n/\∃i σ' H',Inv (bi X (ls++fs) scope cl s3.heap.objs.size s3 (upd H1 s2.heap.objs.size<|.lst []) fp pins) [] σ' H' L/\tn i L.heap/\(∀b∈fp,H' b=none)/\W i m σ' H':=λ{l H9 L} I9 n9=>by
    obtain⟨m',hm,w9⟩:=hN l H9 n9;refine⟨m',hm,i+1,l,H9,I9.unpinned,T.keep _ _ _ H λb a o e=>(I9.pin (b,o)<|NC _<|NC _<|eW a e).1,λb a=>?_,w9⟩;obtain⟨o,e,d⟩:=T.obj _ _ H b a;exact(I9.pin (b,o)<|NC _<|NC _<|eW a e).2.1
   refine bF (ht _ s8 σ8 H8 _ I8 q8) λok L ⟨H9,I9,q9⟩=>?_;cases ok with
   |false=>exact again I9 q9
   |true=>
    refine bF (he _ L σ8 H9 _ I9 q9) λxv s10 ⟨y,H10,I10,r10,ys,M,hl,n10⟩=>?_;obtain⟨z,its,n',r,hl',e⟩:=I10.lstM M;refine call_meets Qx ⟨_,e,rfl⟩ F.entry_list_append (F.args_list_append_2 _ _) (Sn s2.heap.objs.size its.toArray n' xv<|by rw[Na];lia) ⟨e,?_⟩
    refine again (I10.lset (its':=its++[xv]) M e (by simp) (r.append<|.cons r10 .nil) ?_) n10
    rw[Nd,Qp];lia
 have se:({ s2 with heap:=f,toks:=s2.toks+([]:List (Str×Value)).length }:Shared)={ s3 with heap:=f,toks:=s3.toks }:=by rw[<- hs3];rfl
 exact codeAny_compStart_list (loop _ se) (T.self _ 0 _ _ _ Y<|loop _ se)
theorem CP(hc:X.calm=true)(co:CompOk X scope cl ls fs js)(hi:PI X tg iter wi)
  (hY:∀(C:Addr) (s₀:Shared) (H₀:Hp) (fp:List Addr) (pl:List (Addr×Obj)),PG (bi X (ls++fs) scope cl C s₀ H₀ fp pl) tg g/\IJ (bi X (ls++fs) scope cl C s₀ H₀ fp pl) ifs tt/\PE (bi X (ls++fs) scope cl C s₀ H₀ fp pl) elt te)
  (hs:∀x,foldedSetIterable iter X.env x=pure x:=by intro _;rfl):PE X (.ListComp elt [⟨tg,iter,ifs,0⟩] scope pos) (zW wi ls js g tt te):=by
 intro a s Z H Q I h;rw[eval_ListComp];refine wpAny_comprehension_free (use:=none) rfl hs co.clos co.kind co.locs (bF (hi a s Z H _ I h) λP N y=>bF y λv L K=>?_);obtain⟨S,fp,M,J,H2,e,I2,T,l,n,q⟩:=K;subst e;refine qh (R:=λi C=>compPost (model X.prog X.w) X.A X.xe none (EP X a Z Q) i C) (Q:=Q) hc co hY I2 T l n q ?_;intro p C H' E m B IX z G j c f r;exact⟨m,B,λO u=>⟨.ref p,H',IX.turned (t':=E.toks) (λb o F e=>u.extBut b o F e) z G (.inr j) c f,rfl,r⟩⟩
def Ij(i:Nat)(t:TE):TS:=λD Z H=>t Z H λv H1=>D.nx (Z.set i<|some v) H1
theorem Fp{i:Nat}{x:Str}{px spos:Pos}(hN:X.N.Nodup)(hix:X.N[i]?=some x)(hx:zG X.env.scope x)(hc:X.calm=true)(co:CompOk X scope cl ls fs js)(hi:PI X tg iter wi)
  (hY:∀(C:Addr) (s₀:Shared) (H₀:Hp) (fp:List Addr) (pl:List (Addr×Obj)),PG (bi X (ls++fs) scope cl C s₀ H₀ fp pl) tg g/\IJ (bi X (ls++fs) scope cl C s₀ H₀ fp pl) ifs tt/\PE (bi X (ls++fs) scope cl C s₀ H₀ fp pl) elt te)
  (hsw:swapsWith (.ListComp elt [⟨tg,iter,ifs,0⟩] scope pos) (some<|.Name x px) spos.line X.env=pure true:=by rfl)
  (hs:∀x,foldedSetIterable iter X.env x=pure x:=by intro _;rfl) (hf:X.fn x=true\/X.env.scope.names.lookup x=some .local:=by first|exact .inl rfl|exact .inr rfl|assumption):
  PS X (.Assign [.Name x px] (.ListComp elt [⟨tg,iter,ifs,0⟩] scope pos) spos) (Ij i<|zW wi ls js g tt te):=by
 intro f s Z H D I h;rw[exec_Assign_Name_used _ _ _ _ hsw];refine wpAny_bind (wpAny_standAt<|wpAny_bind ?_);show wpAny _ X.A (do let _ <- comprehension (.ListComp elt [⟨tg,iter,ifs,0⟩] scope pos) scope X.env _ (newList []) false (eval iter X.env) (some<|assign (.Name x px) X.env)) _ _ s
 refine wpAny_bind (wpAny_mono (wpAny_comprehension_free (use:=some (assign (.Name x px) X.env)) (Q:=λ_ l=>SP X f D .next l) rfl hs co.clos co.kind co.locs
  (bF (hi f s Z H _ I h) λxv s1 S=>bF S λP s2 h2=>?_)) (λ_ l r=>wpAny_pure (wpAny_pure r)) λ_ _ e=>e)
 obtain⟨it,fp,tn,J,H2,e,I2,T,E,M,q⟩:=h2;subst e;refine qh (R:=λu C=>compPost (model X.prog X.w) X.A X.xe (some<|assign (.Name x px) X.env) (λ_ l=>SP X f D .next l) u C) (Q:=λv H1=>D.nx (Z.set i<|some v) H1) hc co hY I2 T E M q ?_;intro p C H' l m Y IX W L B c j r;show wpAny _ X.A (assign (.Name x px) X.env<|.ref p) _ _ _;refine wpAny_assign_Name (nH IX hN hix hx (v:=.ref p) rfl (λG I'' K=>?_) hf);obtain⟨a,O,U⟩:=K;have n:C≠a:=by
  rcases U with z|z
  .rw[z];exact L
  .exact λy=>c x a z y.symm
 refine⟨m,Y.sameBut O n,λh3 F=>?_⟩;exact⟨_,H',I''.turned (t':=G.toks) (λb o K e=>F.extBut b o K e) W L (.inr B) c j,r⟩
end
def SrcTn(b:Bool)(it a:Addr)(i:Nat)(h:Heap):Prop:=if b=true then h.IsListIter it a i else h.IsTupleIter it a i
def SrcSq(b:Bool)(h:Heap)(a:Addr)(items:Array Value):Prop:=if b=true then h.IsList a items else h.IsTuple a items
theorem SrcTn.lt{b:Bool}{it a:Addr}{i:Nat}{h:Heap}(x:SrcTn b it a i h):∃o,h.get? it=some o/\∀v,o.data≠.cell v:=by
 cases b with
 |true=>obtain⟨o,e,c,d⟩:=(show h.IsListIter it a i from x);exact⟨o,e,λv z=>by rw[d]at z;cases z⟩
 |false=>obtain⟨o,e,c,d⟩:=(show h.IsTupleIter it a i from x);exact⟨o,e,λv z=>by rw[d]at z;cases z⟩
theorem SrcTn.keep{b:Bool}{it a:Addr}{i:Nat}{h h':Heap}(x:SrcTn b it a i h)(k:∀o,h.get? it=some o->h'.get? it=some o):SrcTn b it a i h':=by
 cases b with
 |true=>obtain⟨o,e,r⟩:=(show h.IsListIter it a i from x);exact(show h'.IsListIter it a i from ⟨o,k o e,r⟩)
 |false=>obtain⟨o,e,r⟩:=(show h.IsTupleIter it a i from x);exact(show h'.IsTupleIter it a i from ⟨o,k o e,r⟩)
theorem SrcSq.keep{b:Bool}{a:Addr}{items:Array Value}{h h':Heap}(x:SrcSq b h a items)(k:∀o,h.get? a=some o->h'.get? a=some o):SrcSq b h' a items:=by
 cases b with
 |true=>obtain⟨o,e,r⟩:=(show h.IsList a items from x);exact(show h'.IsList a items from ⟨o,k o e,r⟩)
 |false=>obtain⟨o,e,r⟩:=(show h.IsTuple a items from x);exact(show h'.IsTuple a items from ⟨o,k o e,r⟩)
section
variable {prog:Program}{w:World}{A:Around}{E:Value->Shared->Prop}{s:Shared}
theorem ic{it l:Addr}{i:Nat}{items:Array Value}{x:Value}{Q:Value->Shared->Prop}(hit:s.heap.IsTupleIter it l i)(hl:s.heap.IsTuple l items)(hx:items[i]?=some x)
  (hQ:∀h',h'.IsTupleIter it l (i+1)->Pf it s.heap h'->Q x { s with heap:=h' }):wpAny (model prog w) A (NB<|.ref it) Q E s:=by
 obtain⟨o,b,f,a⟩:=id hit;obtain⟨g,e,_,h,c⟩:=hl;unfold NB
 refine wpAny_bind (wpAny_callSpecial?_slot (name:=Oh "__next__") hit.typeIs Ph
  (wpAny_call_entry Ph hit.typeIs RD ?_<|Rv _))
 show wpAny _ _ (field (.ref it) 0 >>= _) _ _ s;refine wpAny_bind (wpAny_field b a (x:=.ref l) rfl ?_);show wpAny _ _ (if (ND l==Po)=true then _ else _) _ _ s
 rw[if_neg (show ¬((ND l==Po)=true) from NA)];show wpAny _ _ (field (.ref it) 1 >>= _) _ _ s;refine wpAny_bind (wpAny_field b a (x:=.int i 0) rfl ?_);show wpAny _ _ (seqItems? (.ref l) >>= _) _ _ s;refine wpAny_bind (wpAny_seqItems e c ?_);simp only[Nw,hx];refine wpAny_bind (wpAny_setField b a (by simp)<|wpAny_pure ⟨x,rfl,wpAny_pure<|hQ _ ?_<|Rh ..⟩)
 exact⟨_,RX _ b (Obj.isFreed_of_fields<|Obj.data_mapFields a _),(Obj.cls_mapFields ..).trans f,by
  rw[Obj.data_mapFields a];simp[rawInt]⟩
theorem iB{it l:Addr}{i:Nat}{items:Array Value}{Q:Value->Shared->Prop}(hh:A.handled=none)(hit:s.heap.IsTupleIter it l i)(hl:s.heap.IsTuple l items)(hx:items[i]?=none)
  (hE:∀h' e,Heap.ExtBut it s.heap h'->(∃o,h'.get? e=some o/\o.cls=.type "StopIteration")->E (.ref e) { s with heap:=h' }):wpAny (model prog w) A (NB<|.ref it) Q E s:=by
 obtain⟨o,b,j,c⟩:=id hit;obtain⟨h,g,_,n,f⟩:=hl;unfold NB
 refine wpAny_bind (wpAny_callSpecial?_slot (name:=Oh "__next__") hit.typeIs Ph
  (wpAny_call_entry Ph hit.typeIs RD ?_<|Rv _))
 show wpAny _ _ (field (.ref it) 0 >>= _) _ _ s;refine wpAny_bind (wpAny_field b c (x:=.ref l) rfl ?_);show wpAny _ _ (if (ND l==Po)=true then _ else _) _ _ s
 rw[if_neg (show ¬((ND l==Po)=true) from NA)];show wpAny _ _ (field (.ref it) 1 >>= _) _ _ s;refine wpAny_bind (wpAny_field b c (x:=.int i 0) rfl ?_);show wpAny _ _ (seqItems? (.ref l) >>= _) _ _ s;refine wpAny_bind (wpAny_seqItems g f ?_);simp only[Nw,hx];refine wpAny_bind (wpAny_rule<|wpAny_bind<|wpAny_setField b c (by simp) ?_)
 show wpAny _ _ (newExc (.type "StopIteration") [] >>= _) _ _ _;refine wpAny_bind ?_;simp only[newExc,newTuple];refine wpAny_bind (wpAny_newObj_type ?_<|by size_fits)
 refine wpAny_bind (m:=firstArgMember _ _) (wpAny_of_eq (a:=Po) (by first|rfl|(simp only[firstArgMember];rfl)) ?_)
 refine wpAny_newObj_type ?_ (by size_fits)
 simp only[raiseNew];refine wpAny_bind (wpAny_handled ?_)
 first|rw[show A.in1.handled=none from hh]|rw[hh]
 refine wpAny_bind (wpAny_pure<|wpAny_throw ?_);exact hE _ _ (((Rh ..).extBut.push _).push _) ⟨_,Nj _ rfl,rfl⟩
theorem bz{b:Bool}{it l:Addr}{i:Nat}{items:Array Value}{x:Value}{Q:Value->Shared->Prop}(hit:SrcTn b it l i s.heap)(hl:SrcSq b s.heap l items)(hx:items[i]?=some x)
  (hQ:∀h',SrcTn b it l (i+1) h'->Pf it s.heap h'->Q x { s with heap:=h' }):wpAny (model prog w) A (NB<|.ref it) Q E s:=by
 cases b with
 |true=>exact wpAny_nextOf_list_item hit hl hx hQ
 |false=>exact ic hit hl hx hQ
theorem bW{b:Bool}{it l:Addr}{i:Nat}{items:Array Value}{Q:Value->Shared->Prop}(hh:A.handled=none)(hit:SrcTn b it l i s.heap)(hl:SrcSq b s.heap l items)(hx:items[i]?=none)
  (hE:∀h' e,Heap.ExtBut it s.heap h'->(∃o,h'.get? e=some o/\o.cls=.type "StopIteration")->E (.ref e) { s with heap:=h' }):wpAny (model prog w) A (NB<|.ref it) Q E s:=by
 cases b with
 |true=>exact wpAny_nextOf_list_end hh hit hl hx hE
 |false=>exact iB hh hit hl hx hE
def aS(b:Bool):String:=if b=true then "list_iterator" else "tuple_iterator"
theorem dA{b:Bool}{l:Addr}{items:Array Value}{Q:Value->Shared->Prop}(hl:SrcSq b s.heap l items)
  (hQ:Q (.ref s.heap.objs.size) { s with heap:=s.heap.push { cls:=.type (aS b),data:=.fields #[.ref l,.int 0 0] } }):wpAny (model prog w) A (pyIter<|.ref l) Q E s:=by
 cases b with
 |true=>exact wpAny_pyIter_list hl hQ
 |false=>exact wpAny_pyIter_tuple hl hQ
theorem pN{b:Bool}{h:Heap}{it l:Addr}(e:h.get? it=some { cls:=.type (aS b),data:=.fields #[.ref l,.int 0 0] }):SrcTn b it l 0 h:=by
 cases b with
 |true=>exact(show h.IsListIter it l 0 from ⟨_,e,rfl,rfl⟩)
 |false=>exact(show h.IsTupleIter it l 0 from ⟨_,e,rfl,rfl⟩)
structure ZApart(z TI TO i1 i2:Addr):Prop where
 TIz:TI≠z
 TOz:TO≠z
 i1z:i1≠z
 i2z:i2≠z
 TITO:TI≠TO
 TIi1:TI≠i1
 TIi2:TI≠i2
 TOi1:TO≠i1
 TOi2:TO≠i2
 i12:i1≠i2
def sw(z TO i1 i2 l:Addr):Prop:=l≠z/\l≠TO/\l≠i1/\l≠i2
theorem Ax{b1 b2:Bool}{z TI TO i1 i2 l1 l2:Addr}{k1 k2:Nat}{xs ys:Array Value}{x y a b:Value}{Q:Value->Shared->Prop}(D:ZApart z TI TO i1 i2)(O1:sw z TO i1 i2 l1)(O2:sw z TO i1 i2 l2)
  (hz:IsZip s.heap z TI TO .none) (hTI:IsPair s.heap TI (.ref i1) (.ref i2)) (hTO:IsPair s.heap TO a b)
  (h1:SrcTn b1 i1 l1 k1 s.heap) (h2:SrcTn b2 i2 l2 k2 s.heap) (hl1:SrcSq b1 s.heap l1 xs) (hl2:SrcSq b2 s.heap l2 ys) (hx:xs[k1]?=some x) (hy:ys[k2]?=some y)
  (hQ:∀h',IsZip h' z TI TO (rawInt s.heap.objs.size)->IsPair h' TO x y->SrcTn b1 i1 l1 (k1+1) h'->SrcTn b2 i2 l2 (k2+1) h'->IsPair h' s.heap.objs.size x y->h'.objs.size=s.heap.objs.size+1->
   (∀c o,c≠z->c≠TO->c≠i1->c≠i2->s.heap.get? c=some o->h'.get? c=some o)->Q (.ref s.heap.objs.size) { s with heap:=h' }):
  wpAny (model prog w) A (Builtin.«zip.__next__» ⟨[.ref z],[]⟩) (λfin s'=>∃v,fin=.done (.ret v)/\Q v s') E s:=by
 show wpAny _ _ (field (.ref z) 2 >>= _) _ _ _;refine wpAny_bind (wpAny_field hz rfl (x:=.bool false) rfl ?_);show wpAny _ _ (field (.ref z) 3 >>= _) _ _ _;refine wpAny_bind (wpAny_field hz rfl (x:=.ref TI) rfl ?_);refine wpAny_bind (wpAny_seqItems hTI rfl ?_);show wpAny _ _ (NJ (.ref z) >>= _) _ _ _;refine wpAny_bind ?_;unfold NJ;refine wpAny_bind (wpAny_field hz rfl (x:=.none) rfl<|wpAny_pure ?_);simp only[if_true];refine wpAny_bind (wpAny_rule ?_);refine wpAny_bind (wpAny_field hz rfl (x:=.ref TO) rfl ?_);refine wpAny_bind (wpAny_setField_rec hz (by simp) λK u hs1=>?_)
 replace u:IsZip K z TI TO .ellipsis:=u
 refine wpAny_bind ?_;simp only[Q5,List.zipIdx_nil,Qo,Qv];refine wpAny_bind (wpAny_bind<|wpAny_onRaise ?_);show wpAny _ _ (NB (.ref i1) >>= _) _ _ _;refine wpAny_bind (bz (h1.keep λo e=>hs1.extBut _ o D.i1z e) (hl1.keep λo e=>hs1.extBut _ o O1.1 e) hx λI X hs₂=>wpAny_pure ?_);have p:IsPair I TO a b:=hs₂.extBut _ _ D.TOi1 (hs1.extBut _ _ D.TOz hTO);refine wpAny_bind (wpAny_seqItems p rfl ?_);refine wpAny_bind (wpAny_updateSeq_pair p λN l hs₃=>?_)
 replace l:IsPair N TO x b:=l
 refine wpAny_bind (wpAny_letGo<|wpAny_pure ?_);refine wpAny_bind (wpAny_bind<|wpAny_onRaise ?_);show wpAny _ _ (NB (.ref i2) >>= _) _ _ _
 refine wpAny_bind (bz (h2.keep λo e=>hs₃.extBut _ o D.TOi2.symm (hs₂.extBut _ o D.i12.symm<|hs1.extBut _ o D.i2z e))
  (hl2.keep λo e=>hs₃.extBut _ o O2.2.1 (hs₂.extBut _ o O2.2.2.1<|hs1.extBut _ o O2.1 e)) hy λM Y j=>wpAny_pure ?_)
 have q:IsPair M TO x b:=j.extBut _ _ D.TOi2 l;refine wpAny_bind (wpAny_seqItems q rfl ?_);refine wpAny_bind (wpAny_updateSeq_pair q λf i m=>?_)
 replace i:IsPair f TO x y:=i
 refine wpAny_bind (wpAny_letGo<|wpAny_pure<|wpAny_pure ?_);refine wpAny_bind (wpAny_seqItems i rfl ?_);refine wpAny_bind (wpAny_newTuple ?_);have L:f.objs.size=s.heap.objs.size:=by rw[m.1,j.1,hs₃.1,hs₂.1,hs1.1]
 have J:IsZip f z TI TO .ellipsis:=m.extBut _ _ D.TOz.symm (j.extBut _ _ D.i2z.symm<|hs₃.extBut _ _ D.TOz.symm<|hs₂.extBut _ _ D.i1z.symm u);have T:∀c o,c≠z->c≠TO->c≠i1->c≠i2->s.heap.get? c=some o->f.get? c=some o:=λc o C R Z c4 e=>
  m.extBut _ _ R (j.extBut _ _ c4<|hs₃.extBut _ _ R<|hs₂.extBut _ _ Z<|hs1.extBut _ _ C e)
 have r:SrcTn b1 i1 l1 (k1+1) f:=X.keep λo e=>m.extBut _ o D.TOi1.symm (j.extBut _ o D.i12<|hs₃.extBut _ o D.TOi1.symm e);have W:SrcTn b2 i2 l2 (k2+1) f:=Y.keep λo e=>m.extBut _ o D.TOi2.symm e;have n:z<f.objs.size:=Nc J;show wpAny _ _ (P2 (.ref z) (.ref f.objs.size) >>= _) _ _ _;refine wpAny_bind ?_;unfold P2;have U:IsZip (f.push { cls:=.type "tuple",data:=.seq #[x,y] }) z TI TO .ellipsis:=MX _ J;refine wpAny_bind (wpAny_setField_rec U (by simp) λP B F=>?_)
 replace B:IsZip P z TI TO (rawInt f.objs.size):=B
 refine wpAny_setField_rec B (by simp) λh g G=>?_
 replace g:IsZip h z TI TO (rawInt f.objs.size):=g
 have S:∀c o,c≠z->f.get? c=some o->h.get? c=some o:=λc o C e=>G.extBut _ _ C (F.extBut _ _ C<|MX _ e);have H:IsPair h f.objs.size x y:=G.extBut _ _ (Pj n) (F.extBut _ _ (Pj n)<|Nj _ rfl);have O:h.objs.size=f.objs.size+1:=by rw[G.1,F.1,Oi]
 rw[L]at g H O;refine wpAny_pure ⟨_,rfl,?_⟩;show Q (.ref f.objs.size) _;rw[L];exact hQ h g (S _ _ D.TOz i) (r.keep λo e=>S _ o D.i1z e) (W.keep λo e=>S _ o D.i2z e) H O λc o C R Z c4 e=>S c o C (T c o C R Z c4 e)
theorem EQ{b1 b2:Bool}{z TI TO i1 i2 l1 l2:Addr}{k1 k2:Nat}{xs ys:Array Value}{a b:Value}{Q:Fin->Shared->Prop}(hh:A.handled=none)(D:ZApart z TI TO i1 i2)(O1:sw z TO i1 i2 l1)(O2:sw z TO i1 i2 l2)
  (hz:IsZip s.heap z TI TO .none) (hTI:IsPair s.heap TI (.ref i1) (.ref i2)) (hTO:IsPair s.heap TO a b)
  (h1:SrcTn b1 i1 l1 k1 s.heap) (h2:SrcTn b2 i2 l2 k2 s.heap) (hl1:SrcSq b1 s.heap l1 xs) (hl2:SrcSq b2 s.heap l2 ys) (hend:xs[k1]?=none\/ys[k2]?=none)
  (hE:∀h' e,(∀c o,c≠z->c≠TO->c≠i1->c≠i2->s.heap.get? c=some o->h'.get? c=some o)->(∃o,h'.get? e=some o/\o.cls=.type "StopIteration")->E (.ref e) { s with heap:=h' }):
  wpAny (model prog w) A (Builtin.«zip.__next__» ⟨[.ref z],[]⟩) Q E s:=by
 show wpAny _ _ (field (.ref z) 2 >>= _) _ _ _;refine wpAny_bind (wpAny_field hz rfl (x:=.bool false) rfl ?_);show wpAny _ _ (field (.ref z) 3 >>= _) _ _ _;refine wpAny_bind (wpAny_field hz rfl (x:=.ref TI) rfl ?_);refine wpAny_bind (wpAny_seqItems hTI rfl ?_);show wpAny _ _ (NJ (.ref z) >>= _) _ _ _;refine wpAny_bind ?_;unfold NJ;refine wpAny_bind (wpAny_field hz rfl (x:=.none) rfl<|wpAny_pure ?_);simp only[if_true];refine wpAny_bind (wpAny_rule ?_);refine wpAny_bind (wpAny_field hz rfl (x:=.ref TO) rfl ?_);refine wpAny_bind (wpAny_setField_rec hz (by simp) λr j hs1=>?_)
 replace j:IsZip r z TI TO .ellipsis:=j
 refine wpAny_bind ?_;simp only[Q5,List.zipIdx_nil,Qo,Qv];refine wpAny_bind (wpAny_bind<|wpAny_onRaise ?_);show wpAny _ _ (NB (.ref i1) >>= _) _ _ _;cases H:xs[k1]? with
 |none=>
  refine wpAny_bind (bW hh (h1.keep λo e=>hs1.extBut _ o D.i1z e) (hl1.keep λo e=>hs1.extBut _ o O1.1 e) H λi e hs₂ F=>?_);obtain⟨G,f,g⟩:=F;have q:IsZip i z TI TO .ellipsis:=hs₂ _ _ D.i1z.symm j;have n:e≠z:=λx=>by subst x;rw[q]at f;cases f;simp at g
  refine wpAny_setField_rec q (by simp) λm _ hs₃=>hE m e (λc o B _ I _ x=>hs₃.extBut _ _ B (hs₂ _ _ I<|hs1.extBut _ _ B x)) ⟨G,hs₃.extBut _ _ n f,g⟩
 |some x=>
  have L:ys[k2]?=none:=by rcases hend with h|h;rw[H]at h;cases h;exact h
  refine wpAny_bind (bz (h1.keep λo e=>hs1.extBut _ o D.i1z e) (hl1.keep λo e=>hs1.extBut _ o O1.1 e) H λi M hs₂=>wpAny_pure ?_);have l:IsPair i TO a b:=hs₂.extBut _ _ D.TOi1 (hs1.extBut _ _ D.TOz hTO);refine wpAny_bind (wpAny_seqItems l rfl ?_);refine wpAny_bind (wpAny_updateSeq_pair l λm J hs₃=>?_);refine wpAny_bind (wpAny_letGo<|wpAny_pure ?_);refine wpAny_bind (wpAny_bind<|wpAny_onRaise ?_);show wpAny _ _ (NB (.ref i2) >>= _) _ _ _
  refine wpAny_bind (bW hh (h2.keep λo e=>hs₃.extBut _ o D.TOi2.symm (hs₂.extBut _ o D.i12.symm<|hs1.extBut _ o D.i2z e))
   (hl2.keep λo e=>hs₃.extBut _ o O2.2.1 (hs₂.extBut _ o O2.2.2.1<|hs1.extBut _ o O2.1 e)) L λy e p F=>?_)
  obtain⟨G,f,g⟩:=F;have C:IsZip y z TI TO .ellipsis:=p _ _ D.i2z.symm (hs₃.extBut _ _ D.TOz.symm<|hs₂.extBut _ _ D.i1z.symm j);have n:e≠z:=λx=>by subst x;rw[C]at f;cases f;simp at g
  refine wpAny_setField_rec C (by simp) λu _ v=>hE u e (λc o B K I N x=>v.extBut _ _ B (p _ _ N<|hs₃.extBut _ _ K<|hs₂.extBut _ _ I<|hs1.extBut _ _ B x)) ⟨G,v.extBut _ _ n f,g⟩
theorem e_{b1 b2:Bool}{z TI TO i1 i2 l1 l2:Addr}{k1 k2:Nat}{xs ys:Array Value}{x y a b:Value}{Q:Option Value->Shared->Prop}(D:ZApart z TI TO i1 i2)(O1:sw z TO i1 i2 l1)(O2:sw z TO i1 i2 l2)
  (hz:IsZip s.heap z TI TO .none) (hTI:IsPair s.heap TI (.ref i1) (.ref i2)) (hTO:IsPair s.heap TO a b)
  (h1:SrcTn b1 i1 l1 k1 s.heap) (h2:SrcTn b2 i2 l2 k2 s.heap) (hl1:SrcSq b1 s.heap l1 xs) (hl2:SrcSq b2 s.heap l2 ys) (hx:xs[k1]?=some x) (hy:ys[k2]?=some y)
  (hQ:∀h',IsZip h' z TI TO (rawInt s.heap.objs.size)->IsPair h' TO x y->SrcTn b1 i1 l1 (k1+1) h'->SrcTn b2 i2 l2 (k2+1) h'->IsPair h' s.heap.objs.size x y->h'.objs.size=s.heap.objs.size+1->
   (∀c o,c≠z->c≠TO->c≠i1->c≠i2->s.heap.get? c=some o->h'.get? c=some o)->Q (some<|.ref s.heap.objs.size) { s with heap:=h' }):
  wpAny (model prog w) A (pyNext<|.ref z) Q E s:=by
 have e:s.TypeIs (.ref z) "zip":=⟨_,hz,rfl⟩;unfold pyNext
 exact wpAny_bind (wpAny_attempt (wpAny_callSpecial?_slot (name:=Oh "__next__") e OS
  (wpAny_call_entry OS e Qm (Ax D O1 O2 hz hTI hTO h1 h2 hl1 hl2 hx hy λh' l i f m g h j=>wpAny_pure (hQ h' l i f m g h j))<|Qg _)))
theorem lh{b1 b2:Bool}{z TI TO i1 i2 l1 l2:Addr}{k1 k2:Nat}{xs ys:Array Value}{a b:Value}{Q:Option Value->Shared->Prop}(hh:A.handled=none)(D:ZApart z TI TO i1 i2)(O1:sw z TO i1 i2 l1)(O2:sw z TO i1 i2 l2)
  (hz:IsZip s.heap z TI TO .none) (hTI:IsPair s.heap TI (.ref i1) (.ref i2)) (hTO:IsPair s.heap TO a b)
  (h1:SrcTn b1 i1 l1 k1 s.heap) (h2:SrcTn b2 i2 l2 k2 s.heap) (hl1:SrcSq b1 s.heap l1 xs) (hl2:SrcSq b2 s.heap l2 ys) (hend:xs[k1]?=none\/ys[k2]?=none)
  (hQ:∀h',(∀c o,c≠z->c≠TO->c≠i1->c≠i2->s.heap.get? c=some o->h'.get? c=some o)->Q none { s with heap:=h' }):wpAny (model prog w) A (pyNext<|.ref z) Q E s:=by
 have f:s.TypeIs (.ref z) "zip":=⟨_,hz,rfl⟩;unfold pyNext
 refine wpAny_bind (wpAny_attempt (wpAny_callSpecial?_slot (name:=Oh "__next__") f OS
  (wpAny_call_entry OS f Qm (EQ hh D O1 O2 hz hTI hTO h1 h2 hl1 hl2 hend λh' e j i=>?_)<|Qg _)))
 obtain⟨o,h,g⟩:=i;refine wpAny_bind (wpAny_isInstance (T:="StopIteration") (b:=true) ⟨o,h,g⟩ isSubtype_stop ?_);exact wpAny_pure (hQ _ j)
end
abbrev zH1(c1:String)(h:Heap)(l1:Addr):Heap:=h.push { cls:=.type c1,data:=.fields #[.ref l1,.int 0 0] }
abbrev zH2(c1 c2:String)(h:Heap)(l1 l2:Addr):Heap:=(zH1 c1 h l1).push { cls:=.type c2,data:=.fields #[.ref l2,.int 0 0] }
abbrev zH3(c1 c2:String)(h:Heap)(l1 l2:Addr):Heap:=(zH2 c1 c2 h l1 l2).push { cls:=.type "tuple",data:=.seq #[.ref h.objs.size,.ref (zH1 c1 h l1).objs.size] }
abbrev zH4(c1 c2:String)(h:Heap)(l1 l2:Addr):Heap:=(zH3 c1 c2 h l1 l2).push { cls:=.type "tuple",data:=.seq #[.none,.none] }
abbrev Hn(c1 c2:String)(h:Heap)(l1 l2:Addr):Heap:=(zH4 c1 c2 h l1 l2).push { cls:=.type "zip",data:=.fields #[.none,.bool false,.bool false,.ref (zH2 c1 c2 h l1 l2).objs.size,.ref (zH3 c1 c2 h l1 l2).objs.size] }
theorem yz(b1 b2:Bool)(l1 l2:Addr)(xs ys:Array Value):
  Meets (Builtin.«zip.__new__» ⟨[.type "zip",.ref l1,.ref l2],[]⟩) (λ_ R s=>SrcSq b1 s.heap l1 xs/\SrcSq b2 s.heap l2 ys/\
   R (.ok<|.ret<|.ref (zH4 (aS b1) (aS b2) s.heap l1 l2).objs.size) { s with heap:=Hn (aS b1) (aS b2) s.heap l1 l2 }):=
 .of_wp λl w A R s h=>by
  obtain⟨j,g,d,i,m⟩:=s;obtain⟨f,a,h⟩:=h;have n:=sub_zip;have c:SrcSq b1 (RL ⟨j,g,d,i,m⟩) l1 xs:=f;have b:SrcSq b2 (RL ⟨j.push { cls:=.type (aS b1),data:=.fields #[.ref l1,.int 0 0] },g,d,i,m⟩) l2 ys:=SrcSq.keep a λo e=>MX _ e
  wp_walk using dA c,dA b
  exact⟨_,rfl,h⟩
section
variable {prog:Program}{w:World}{A:Around}{E:Value->Shared->Prop}{s:Shared}
theorem qq{b1 b2:Bool}{l1 l2:Addr}{xs ys:Array Value}{Q:Value->Shared->Prop}(hl1:SrcSq b1 s.heap l1 xs)(hl2:SrcSq b2 s.heap l2 ys)
  (h:∀h',IsZip h' (s.heap.objs.size+4) (s.heap.objs.size+2) (s.heap.objs.size+3) .none->IsPair h' (s.heap.objs.size+2) (.ref s.heap.objs.size) (.ref (s.heap.objs.size+1))->
   IsPair h' (s.heap.objs.size+3) .none .none->SrcTn b1 s.heap.objs.size l1 0 h'->SrcTn b2 (s.heap.objs.size+1) l2 0 h'->h'.objs.size=s.heap.objs.size+5->
   (∀c o,s.heap.get? c=some o->h'.get? c=some o)->Q (.ref (s.heap.objs.size+4)) { s with heap:=h' }):
  wpAny (model prog w) A (call (.type "zip") [.ref l1,.ref l2]) Q E s:=by
 refine callType_new F.called_zip (by decide) (F.typeCall_zip_2 _ _) (F.newCall_zip_2 _ _) (λobj=>F.args_object_init_3 obj _ _) F.entry_zip_new (yz b1 b2 l1 l2 xs ys) ⟨hl1,hl2,?_⟩
 have f:(zH1 (aS b1) s.heap l1).objs.size=s.heap.objs.size+1:=Oi ..;have g:(zH2 (aS b1) (aS b2) s.heap l1 l2).objs.size=s.heap.objs.size+2:=by rw[Oi,f]
 have e:(zH3 (aS b1) (aS b2) s.heap l1 l2).objs.size=s.heap.objs.size+3:=by rw[Oi,g]
 have b:(zH4 (aS b1) (aS b2) s.heap l1 l2).objs.size=s.heap.objs.size+4:=by rw[Oi,e]
 have n:(Hn (aS b1) (aS b2) s.heap l1 l2).objs.size=s.heap.objs.size+5:=by rw[Oi,b]
 have a:(Hn (aS b1) (aS b2) s.heap l1 l2).get? (zH4 (aS b1) (aS b2) s.heap l1 l2).objs.size=some _:=Nj _ rfl;have i:(Hn (aS b1) (aS b2) s.heap l1 l2).get? (zH3 (aS b1) (aS b2) s.heap l1 l2).objs.size=some _:=MX _ (Nj _ rfl);have l:(Hn (aS b1) (aS b2) s.heap l1 l2).get? (zH2 (aS b1) (aS b2) s.heap l1 l2).objs.size=some _:=MX _ (MX _<|Nj _ rfl);have j:(Hn (aS b1) (aS b2) s.heap l1 l2).get? (zH1 (aS b1) s.heap l1).objs.size=some _:=MX _ (MX _<|MX _<|Nj _ rfl);have m:(Hn (aS b1) (aS b2) s.heap l1 l2).get? s.heap.objs.size=some _:=MX _ (MX _<|MX _<|MX _<|Nj _ rfl);show _/\_;rw[g,e,b]at a;rw[f,g]at l;rw[e]at i;rw[f]at j;rw[b];exact⟨⟨_,a,rfl⟩,h _ a l i (pN m) (pN j) n λc o x=>
  MX _ (MX _<|MX _<|MX _<|MX _ x)⟩
end
def nG(K:Ng)(b:Bool)(H:Hp)(a:Addr)(xs:List V):Prop:=if b=true then SqL K H a xs else iE K H a xs
section
variable {X:Cx}{pins:List (Addr×Obj)}{Z:St}{H:Hp}{s:Shared}{a:Addr}{xs ys:List V}{b:Bool}
theorem Inv.src(I:Inv X pins Z H s)(h:nG X.K b H a xs):∃its:List Value,Vals xs its/\SrcSq b s.heap a its.toArray/\xs.length<=sizeLine:=by
 cases b with
 |true=>obtain⟨its,r,p,z⟩:=I.list (show SqL X.K H a xs from h);exact⟨its,r,p.isList,z⟩
 |false=>obtain⟨its,r,p,z⟩:=I.tuple (show iE X.K H a xs from h);exact⟨its,r,p,z⟩
theorem Inv.src_inj(I:Inv X pins Z H s)(h:nG X.K b H a xs)(h':nG X.K b H a ys):xs=ys:=by
 cases b with
 |true=>exact I.list_inj (show SqL X.K H a xs from h) h'
 |false=>exact I.tuple_inj (show iE X.K H a xs from h) h'
theorem Inv.src_ne(I:Inv X pins Z H s)(h:nG X.K b H a xs){it:Addr}(f:iN X pins H it):a≠it:=by
 obtain⟨i,q,p,l,n,m⟩:=f;intro e;subst e;have g:∀o,X.K.lookup a=some o->False:=λo c=>by
  have j:=I.ok.mod.kin a o c;rcases l with z|z
  .exact I.ok.noex a o j z
  .exact absurd (Nt (Nc (I.ok.bs a o j).1) z) (Ou _)
 cases b with
 |true=>
  rcases (show SqL X.K H a xs from h) with (z|⟨o,z⟩)|⟨o,_,_,c,_⟩
  .rw[i]at z;cases z
  .rw[i]at z;cases z
  .exact g o c
 |false=>
  rcases (show iE X.K H a xs from h) with (z|⟨o,z⟩)|⟨o,_,_,c,_⟩
  .rw[i]at z;cases z
  .rw[i]at z;cases z
  .exact g o c
end
def Itz(K:Ng)(b1 b2:Bool)(l1 l2:Addr):It:=
 ⟨λi H=>∃xs ys x y,nG K b1 H l1 xs/\nG K b2 H l2 ys/\xs[i]?=some x/\ys[i]?=some y,
  λi H v H'=>∃T x y,H T=none/\v=.ref T/\H'=upd H T (.tup [x,y])/\(∀xs,nG K b1 H l1 xs->xs[i]?=some x)/\(∀ys,nG K b2 H l2 ys->ys[i]?=some y),
  λi H=>∃xs ys,nG K b1 H l1 xs/\nG K b2 H l2 ys/\(xs.length<=i\/ys.length<=i)⟩
theorem Inv.turned4{X:Cx}{pins:List (Addr×Obj)}{Z:St}{H:Hp}{s:Shared}{h':Heap}{t':Nat}{fp:List Addr}(I:Inv X pins Z H s)(hf:∀b∈fp,iN X pins H b)
  (k:∀b o,b∉fp->s.heap.get? b=some o->h'.get? b=some o):Inv X pins Z H { s with heap:=h',toks:=t' }:=by
 have f:∀b u,H b=some u->b∉fp:=λb u e z=>by have:=(hf b z).1;rw[e]at this;cases this
 refine I.step (g':=s.gens) (d':=s.drawn) (ch:=fp) (λb w=>?_) (λb o _ _ a e _=>k b o a e) (λb o _ _ a e _=>⟨o.slots,k b o a e⟩) (λ_ _ _ _ n=>n)
  (λb o a e=>⟨o,k b o a e⟩) (λ_ _ e=>e) (λ_ _ _ e=>e) (λb B e=>⟨#[],by rw[e];simp⟩) (λm hm=>?_) (λb u e=>?_) I.bare
 .obtain⟨A,x,y,j,h,g⟩:=hf b w
  exact⟨j,x,h,g⟩
 .obtain⟨o,i,l,p,r⟩:=hm
  exact⟨o,i,l,k _ o (λz=>(hf _ z).2.1 rfl) p,r⟩
 .refine (I.hok b u e).stay (λc v a q=>k c v ?_ q) (λ_ q=>q) λ_ _ q=>q
  rcases a with z|z
  .rw[z];exact f b u e
  .exact f c _ z
theorem Inv.turnedNew{X:Cx}{pins:List (Addr×Obj)}{Z:St}{H:Hp}{s:Shared}{h':Heap}{t':Nat}{fp:List Addr}{zs:List V}{us:List Value}{o':Obj}(I:Inv X pins Z H s)(hf:∀b∈fp,iN X pins H b)
  (k:∀b o,b∉fp->s.heap.get? b=some o->h'.get? b=some o) (hlt:∀b∈fp,∃o,s.heap.get? b=some o) (hlv:∀b∈fp,∃o,h'.get? b=some o) (hT:h'.get? s.heap.objs.size=some o') (hoc:o'.cls=.type "tuple") (hod:∃n,o'.data=.seq us.toArray n)
  (r:Vals zs us) (hdn:o'.dict=none) (hz:zs.length<=sizeLine):Inv X pins Z (upd H s.heap.objs.size<|.tup zs) { s with heap:=h',toks:=t' }:=by
 have a:H s.heap.objs.size=none:=I.hok.fresh (Ni _);have g:∀b u,H b=some u->b∉fp:=λb u e z=>by have:=(hf b z).1;rw[e]at this;cases this
 refine I.step (g':=s.gens) (d':=s.drawn) (ch:=fp) (λb h=>?_) (λb o _ _ f e _=>k b o f e) (λb o _ _ f e _=>⟨o.slots,k b o f e⟩) (λb o _ e n=>by rw[aH (Np<|Nc e)];exact n)
  (λb o f e=>⟨o,k b o f e⟩) (λb i e=>by rw[aH (bf e a)];exact e) (λb o u e=>by rw[aH (bf e a)];exact e) (λb F e=>⟨#[],by rw[aH (bf e a),e];simp⟩) (λm hm=>?_) (λb u e=>?_) I.bare
 .obtain⟨E,B,C,w,l,j⟩:=hf b h
  exact⟨w,B,l,j⟩
 .obtain⟨o,p,x,y,r⟩:=hm
  exact⟨o,p,x,k _ o (λz=>(hf _ z).2.1 rfl) y,r⟩
 .by_cases h:b=s.heap.objs.size
  .subst h
   rw[upd_same]at e;cases e;obtain⟨n,A⟩:=hod;exact⟨hz,us,r,⟨o',hT,⟨hoc,n,A⟩,hdn⟩⟩
  .rw[aH h]at e
   refine (I.hok b u e).stay (λc v f q=>k c v ?_ q) (λc q=>by rw[aH (bf q a)];exact q) λc i q=>by rw[aH (bf q a)];exact q
   rcases f with z|z
   .rw[z];exact g b u e
   .exact g c _ z
theorem Cu{P:Program}{w:World}{K:Ng}{elts:List Expr}{x1:Nat}{tp:Pos}(b1 b2:Bool)(l1 l2 z TI TO i1 i2:Addr)(D:ZApart z TI TO i1 i2):
  Turn P w K (.Tuple elts x1 tp) (Itz K b1 b2 l1 l2) [z,TI,TO,i1,i2] z (λi h=>IsZip h z TI TO .none/\IsPair h TI (.ref i1) (.ref i2)/\(∃a b,IsPair h TO a b)/\SrcTn b1 i1 l1 i h/\SrcTn b2 i2 l2 i h) where
 mem:=by simp
 obj:=λi h B b j=>by
  obtain⟨C,g,⟨a,c,m⟩,F,J⟩:=B;have r:b=z\/b=TI\/b=TO\/b=i1\/b=i2:=by simpa using j
  rcases r with e|e|e|e|e<;>subst e
  .exact⟨_,C,λv q=>nomatch q⟩
  .exact⟨_,g,λv q=>nomatch q⟩
  .exact⟨_,m,λv q=>nomatch q⟩
  .exact F.lt
  .exact J.lt
 keep:=λi h h' B k=>by
  obtain⟨C,g,⟨a,c,m⟩,F,J⟩:=B;exact⟨k z (by simp) _ C,k TI (by simp) _ g,⟨a,c,k TO (by simp) _ m⟩,F.keep λo e=>k i1 (by simp) o e,J.keep λo e=>k i2 (by simp) o e⟩
 item:=by
  intro X S hw U hc i L s Z H E I hf B hg;subst S hw U;obtain⟨xs,ys,x,y,n,p,hx,hy⟩:=hg;obtain⟨C,g,⟨a,c,m⟩,F,J⟩:=B;obtain⟨Q,W,s1,z1⟩:=I.src n;obtain⟨N,T,s2,z2⟩:=I.src p;obtain⟨u,hu,ru⟩:=W.get hx;obtain⟨v,hv,rv⟩:=T.get hy;have O1:sw z TO i1 i2 l1:=⟨I.src_ne n (hf z<|by simp),I.src_ne n (hf TO<|by simp),I.src_ne n (hf i1<|by simp),I.src_ne n<|hf i2<|by simp⟩
  have O2:sw z TO i1 i2 l2:=⟨I.src_ne p (hf z<|by simp),I.src_ne p (hf TO<|by simp),I.src_ne p (hf i1<|by simp),I.src_ne p<|hf i2<|by simp⟩
  refine e_ D O1 O2 C g m F J s1 s2 (x:=u) (y:=v) (by simpa using hu) (by simpa using hv) λh' a1 a2 a3 a4 a5 a6 R=>?_
  refine⟨_,rfl,wpAny_letOwnedTupleGo_zip a1 λl G f=>?_⟩;have hzs:z≠s.heap.objs.size:=Np (Nc C);have kk:∀b o,b∉[z,TI,TO,i1,i2]->s.heap.get? b=some o->l.get? b=some o:=λb o j e=>
   f.extBut b o (λq=>j (by simp[q])) (R b o (λq=>j (by simp[q])) (λq=>j (by simp[q])) (λq=>j (by simp[q])) (λq=>j (by simp[q])) e)
  have hT:l.get? s.heap.objs.size=some { cls:=.type "tuple",data:=.seq #[u,v] }:=f.extBut _ _ hzs.symm a5;have lv:∀b∈[z,TI,TO,i1,i2],∃o,s.heap.get? b=some o:=λb j=>by
   have r:b=z\/b=TI\/b=TO\/b=i1\/b=i2:=by simpa using j
   rcases r with e|e|e|e|e<;>subst e
   .exact⟨_,C⟩
   .exact⟨_,g⟩
   .exact⟨_,m⟩
   .obtain⟨o,e,_⟩:=F.lt;exact⟨o,e⟩
   .obtain⟨o,e,_⟩:=J.lt;exact⟨o,e⟩
  have n1:SrcTn b1 i1 l1 (i+1) l:=a3.keep λo e=>f.extBut _ o D.i1z e;have n2:SrcTn b2 i2 l2 (i+1) l:=a4.keep λo e=>f.extBut _ o D.i2z e;have M:IsPair l TI (.ref i1) (.ref i2):=f.extBut _ _ D.TIz (R _ _ D.TIz D.TITO D.TIi1 D.TIi2 g);have O:IsPair l TO u v:=f.extBut _ _ D.TOz a2;have lv':∀b∈[z,TI,TO,i1,i2],∃o,l.get? b=some o:=λb j=>by
   have r:b=z\/b=TI\/b=TO\/b=i1\/b=i2:=by simpa using j
   rcases r with e|e|e|e|e<;>subst e
   .exact⟨_,G⟩
   .exact⟨_,M⟩
   .exact⟨_,O⟩
   .obtain⟨o,e,_⟩:=n1.lt;exact⟨o,e⟩
   .obtain⟨o,e,_⟩:=n2.lt;exact⟨o,e⟩
  have Y:H s.heap.objs.size=none:=I.hok.fresh (Ni _);refine⟨.ref s.heap.objs.size,_,I.turnedNew (s:=s) (h':=l) (t':=s.toks) (zs:=[x,y]) (us:=[u,v]) hf kk lv lv' hT rfl ⟨_,rfl⟩ (.cons ru<|.cons rv .nil) rfl (by show 2<=sizeLine;decide),rfl,⟨_,x,y,Y,rfl,rfl,λzs A=>?_,λzs A=>?_⟩,⟨G,M,⟨_,_,O⟩,n1,n2⟩,λb j=>?_⟩
  .rw[I.src_inj A n];exact hx
  .rw[I.src_inj A p];exact hy
  .obtain⟨o,e⟩:=lv b j
   rw[aH (Np<|Nc e)];exact(hf b j).1
 done:=by
  intro X S hw U hc i L s Z H E I hf B hg;subst S hw U;obtain⟨xs,ys,n,p,hx⟩:=hg;obtain⟨C,g,⟨a,c,m⟩,F,J⟩:=B;obtain⟨Q,W,s1,z1⟩:=I.src n;obtain⟨N,T,s2,z2⟩:=I.src p;have l1':=W.length;have l2':=T.length;have O1:sw z TO i1 i2 l1:=⟨I.src_ne n (hf z<|by simp),I.src_ne n (hf TO<|by simp),I.src_ne n (hf i1<|by simp),I.src_ne n<|hf i2<|by simp⟩
  have O2:sw z TO i1 i2 l2:=⟨I.src_ne p (hf z<|by simp),I.src_ne p (hf TO<|by simp),I.src_ne p (hf i1<|by simp),I.src_ne p<|hf i2<|by simp⟩
  refine lh (I.ok.hd hc) D O1 O2 C g m F J s1 s2 ?_ λh' R=>⟨rfl,I.turned4 (t':=s.toks) hf λb o j e=>R b o (λq=>j (by simp[q])) (λq=>j (by simp[q])) (λq=>j (by simp[q])) (λq=>j (by simp[q])) e⟩
  rcases hx with hx|hx
  .exact .inl (by simp;lia)
  .exact .inr (by simp;lia)
 self:=λ_ _ _ _ _ B h=>wpAny_pyIter_zip B.1 h
section
variable {X:Cx}
def Ite(K:Ng)(b:Bool)(l:Addr):It:=
 ⟨λi H=>∃xs x,nG K b H l xs/\xs[i]?=some x,
  λi H v H'=>∃T x,H T=none/\v=.ref T/\H'=upd H T (.tup [.int i,x])/\(∀xs,nG K b H l xs->xs[i]?=some x),
  λi H=>∃xs,nG K b H l xs/\xs.length<=i⟩
end
section
variable {prog:Program}{w:World}{A:Around}{E:Value->Shared->Prop}{s:Shared}
theorem Draws.src(hh:A.handled=none)(b:Bool)(it l:Addr)(hne:l≠it)(items:Array Value):
  Draws prog w A it [it,l] items.size (λi v=>items[i]?=some v) (λi h=>SrcTn b it l i h/\SrcSq b h l items) where
 live:=λ_ _ a=>let ⟨o,ho,_⟩:=a.1.lt;⟨o,ho⟩
 frame:=λ_ _ _ a j=>⟨a.1.keep λo e=>j it (by simp) o e,a.2.keep λo e=>j l (by simp) o e⟩
 item:=λi s Q E g a m=>by
  refine bz a.1 a.2 (x:=items[i]) (by simp[g]) λn c f=>?_
  exact m _ n s.toks (by simp[g]) ⟨c,a.2.keep λo e=>f.extBut _ o hne e⟩ f
 done:=λs Q E a p=>bW hh a.1 a.2 (by simp) p
theorem sx(b:Bool)(l:Addr)(items:Array Value):
  Meets (Builtin.«enumerate.__new__» ⟨[.type "enumerate",.ref l],[]⟩) (λ_ R s=>SrcSq b s.heap l items/\
   R (.ok<|.ret<|.ref (s.heap.push { cls:=.type (aS b),data:=.fields #[.ref l,.int 0 0] }).objs.size)
    { s with heap:=(s.heap.push { cls:=.type (aS b),data:=.fields #[.ref l,.int 0 0] }).push { cls:=.type "enumerate",data:=.fields #[.none,.bool false,.ref s.heap.objs.size,rawInt 0,.none,.none] } }):=
 .of_wp λprog w A R s h=>by
  obtain⟨i,g,d,f,j⟩:=s;obtain⟨m,h⟩:=h;have e:=sub_enumerate;have a:SrcSq b (RL ⟨i,g,d,f,j⟩) l items:=m
  wp_walk
  refine wpAny_stack_any λn=>wpAny_pure ?_
  split
  .rename_i c _ _ _ _ _
   cases (c==Rg "enumerate")
   .wp_walk using dA a
    exact⟨_,rfl,h⟩
   .wp_walk using dA a
    exact⟨_,rfl,h⟩
  .wp_walk using dA a
   exact⟨_,rfl,h⟩
theorem zk{b:Bool}{l:Addr}{items:Array Value}{Q:Value->Shared->Prop}(hL:SrcSq b s.heap l items)
  (h:∀h',IsEnum h' (s.heap.objs.size+1) s.heap.objs.size 0 .none->SrcTn b s.heap.objs.size l 0 h'->h'.objs.size=s.heap.objs.size+2->
   (∀b o,s.heap.get? b=some o->h'.get? b=some o)->Q (.ref (s.heap.objs.size+1)) { s with heap:=h' }):
  wpAny (model prog w) A (call (.type "enumerate") [.ref l]) Q E s:=by
 refine callType_new F.called_enumerate (by decide) (F.typeCall_enumerate_1 _) (F.newCall_enumerate_1 _) (λobj=>F.args_object_init_2 obj _) F.entry_enumerate_new (sx b l items) ⟨hL,?_⟩
 have a:(s.heap.push { cls:=.type (aS b),data:=.fields #[.ref l,.int 0 0] }).objs.size=s.heap.objs.size+1:=Oi ..;show _/\_;rw[a]
 have c:IsEnum ((s.heap.push { cls:=.type (aS b),data:=.fields #[.ref l,.int 0 0] }).push
   { cls:=.type "enumerate",data:=.fields #[.none,.bool false,.ref s.heap.objs.size,rawInt 0,.none,.none] }) (s.heap.objs.size+1) s.heap.objs.size 0 .none:=by
  have:=Nj (s.heap.push { cls:=.type (aS b),data:=.fields #[.ref l,.int 0 0] })
   (o:={ cls:=.type "enumerate",data:=.fields #[.none,.bool false,.ref s.heap.objs.size,rawInt 0,.none,.none] }) rfl
  rw[a]at this;exact this
 refine⟨⟨_,c,rfl⟩,h _ c (pN<|MX _<|Nj _ rfl) (by rw[Oi,a]) λb o x=>MX _ (MX _ x)⟩
end
theorem yT{P:Program}{w:World}{K:Ng}{elts:List Expr}{x1:Nat}{tp:Pos}(b:Bool)(l e it:Addr)(hei:e≠it):
  Turn P w K (.Tuple elts x1 tp) (Ite K b l) [e,it] e (λi h=>(∃old,IsEnum h e it i old)/\SrcTn b it l i h) where
 mem:=by simp
 obj:=λi h p c a=>by
  obtain⟨⟨old,j⟩,y⟩:=p;have f:c=e\/c=it:=by simpa using a
  rcases f with q|q<;>subst q
  .exact⟨_,j,λv z=>nomatch z⟩
  .exact y.lt
 keep:=λi h h' p k=>by
  obtain⟨⟨old,j⟩,y⟩:=p;exact⟨⟨old,k e (by simp) _ j⟩,y.keep λo q=>k it (by simp) o q⟩
 item:=by
  intro X W hw hK a i L s Z H E I C p hg;subst W hw hK;obtain⟨xs,x,G,Q⟩:=hg;obtain⟨⟨old,j⟩,y⟩:=p;obtain⟨g,r,sq,z1⟩:=I.src G;obtain⟨u,hu,ru⟩:=r.get Q;have R:l≠e:=I.src_ne G (C e<|by simp)
  have J:l≠it:=I.src_ne G (C it<|by simp)
  have U:i<g.toArray.size:=by
   rw[Na,<- r.length];exact(OA.mp Q).1
  have D:Draws X.prog X.w X.A.in1 it [it,l] g.toArray.size (λi v=>g.toArray[i]?=some v) (λi h=>SrcTn b it l i h/\SrcSq b h l g.toArray):=Draws.src (A:=X.A.in1) (I.ok.hd a) b it l J g.toArray;refine wpAny_pyNext_enum_itemD D j ⟨y,sq⟩ U hei (by simp[hei,N8 R]) λv h' N hv ho hs' O hsz hk=>?_
  have ev:v=u:=by
   have hu':g.toArray[i]?=some u:=by simpa using hu
   rw[hu']at hv;exact(NZ hv).symm
  subst ev;refine⟨_,rfl,wpAny_letOwnedTupleGo_enum ho λn B m=>?_⟩;have hes:e≠s.heap.objs.size:=Np (Nc j);have n1:SrcTn b it l (i+1) n:=hs'.1.keep λo q=>m.extBut _ o hei.symm q;have kk:∀c o,c∉[e,it]->s.heap.get? c=some o->n.get? c=some o:=λc o a q=>
   m.extBut c o (λz=>a (by simp[z])) (hk c o (λz=>a (by simp[z])) (λz=>a (by simp[z])) q)
  have hT':n.get? s.heap.objs.size=some { cls:=.type "tuple",data:=.seq #[.int i N,v] }:=m.extBut _ _ hes.symm O;have lv:∀c∈[e,it],∃o,s.heap.get? c=some o:=λc a=>by
   have f:c=e\/c=it:=by simpa using a
   rcases f with q|q<;>subst q
   .exact⟨_,j⟩
   .obtain⟨o,q,_⟩:=y.lt;exact⟨o,q⟩
  have lv':∀c∈[e,it],∃o,n.get? c=some o:=λc a=>by
   have f:c=e\/c=it:=by simpa using a
   rcases f with q|q<;>subst q
   .exact⟨_,B⟩
   .obtain⟨o,q,_⟩:=n1.lt;exact⟨o,q⟩
  have hTn:H s.heap.objs.size=none:=I.hok.fresh (Ni _);refine⟨.ref s.heap.objs.size,_,I.turnedNew (s:=s) (h':=n) (t':=N+1) (zs:=[.int i,x]) (us:=[.int i N,v]) C kk lv lv' hT' rfl ⟨_,rfl⟩ (.cons ⟨N,rfl⟩<|.cons ru .nil) rfl (by show 2<=sizeLine;decide),rfl,⟨_,x,hTn,rfl,rfl,λzs M=>?_⟩,⟨⟨v,by simpa using B⟩,n1⟩,λc a=>?_⟩
  .rw[I.src_inj M G];exact Q
  .obtain⟨o,q⟩:=lv c a
   rw[aH (Np<|Nc q)];exact(C c a).1
 done:=by
  intro X W hw hK a i L s Z H E I C p hg;subst W hw hK;obtain⟨xs,G,Q⟩:=hg;obtain⟨⟨old,j⟩,y⟩:=p;obtain⟨g,r,sq,z1⟩:=I.src G;have J:l≠it:=I.src_ne G (C it<|by simp)
  have O:s.TypeIs (.ref e) "enumerate":=⟨_,j,rfl⟩;have hl:=r.length;unfold pyNext
  refine wpAny_bind (wpAny_attempt (wpAny_callSpecial?_slot (name:=Oh "__next__") O So
   (wpAny_call_entry So O F.entry_enumerate_next ?_<|F.args_enumerate_next_1 _)))
  show wpAny _ _ (field (.ref e) 2 >>= _) _ _ _;refine wpAny_bind (wpAny_field j rfl (x:=.ref it) rfl ?_);refine wpAny_bind (bW (I.ok.hd a) y sq (by simp;lia) λh' x Y S=>?_)
  obtain⟨o,ho,hcl⟩:=S;refine wpAny_bind (wpAny_isInstance (T:="StopIteration") (b:=true) ⟨o,ho,hcl⟩ isSubtype_stop ?_);exact wpAny_pure ⟨rfl,I.turned4 (t':=s.toks) C λc o' f q=>Y c o' (λz=>f (by simp[z])) q⟩
 self:=λ_ _ _ _ _ p h=>let ⟨⟨_,j⟩,_⟩:=p;wpAny_pyIter_enum j h
section
variable {X:Cx}
theorem r8:bG X (.builtin "isinstance") (λxs H Q=>∃x T t b,xs=[x,.ty T]/\TyOf X.K H x t/\W.kitOne X.K t (.type T)=some b/\Q (.bl b) H):=by
 intro a s Z H xs j Q I r h;obtain⟨x,T,t,b,rfl,ty,e,q⟩:=h;obtain⟨u,c,rfl,g,i⟩:=r.two;obtain rfl:c=Rg T:=i;exact yM I g ty e λf=>⟨.bl b,H,I.tok f,rfl,q⟩
theorem AN(hc:X.calm=true):bG X (.builtin "all") (λxs H Q=>∃(l:Addr) (bs:List Bool),xs=[.ref l]/\SqL X.K H l (bs.map V.bl)/\Q (.bl<|bs.all id) H):=by
 intro G s Z H xs U Q I r h;obtain⟨l,bs,rfl,M,q⟩:=h;obtain⟨u,rfl,N⟩:=r.one;cases N;obtain⟨a,J,p,T⟩:=I.list M;have F:=J.length;have C:l<s.heap.objs.size:=by obtain⟨o,e,_⟩:=p.isList;exact Nc e
 have y:l≠s.heap.objs.size:=Np C;have val:∀(i:Nat) (v:Value),a.toArray[i]?=some v->∃c,bs[i]?=some c/\v=.bool c:=λi v B=>by
  have j:a[i]?=some v:=by simpa using B
  have f:i<bs.length:=by
   have:=(OA.mp j).1;rw[MW]at F;lia
  obtain⟨Y,n,P⟩:=J.get (i:=i) (x:=.bl bs[i]) (by rw[Nr,MY f];rfl)
  rw[j]at n;cases n;exact⟨bs[i],MY f,P⟩
 have E:a.toArray.size=bs.length:=by rw[Na,<- F,MW]
 refine call_all_walk (wpAny_pyIter_list p.isList ⟨s.heap.objs.size,_,_,_,_,_,λi=>bs.getD i false,rfl,Walks.list (A:=X.A.in1) (I.ok.hd hc) s.heap.objs.size l y a.toArray,⟨⟨_,Nj _ rfl,rfl,rfl⟩,p.isList.push _⟩,λi v R Q' E' B z=>?_,λW O S=>?_⟩)
 .obtain⟨c,n,rfl⟩:=val i v B
  refine wpAny_truthy_bool ?_;have L:bs.getD i false=c:=by rw[Oy,n];rfl
  have g:Q' (bs.getD i false) R:=z;rw[L]at g;exact g
 .have e:(NL a.toArray.size).all (λi=>bs.getD i false)=bs.all id:=by
   rw[E,Bool.eq_iff_iff,OX,OX];constructor
   .intro h b w
    obtain⟨i,f,rfl⟩:=Qu.mp w;have:=h i (N7.mpr f)
    rwa [Oy,MY f]at this
   .intro h i f
    have m:=N7.mp f;rw[Oy,MY m];exact h _ (Om m)
  rw[e];refine⟨.bl (bs.all id),H,?_,rfl,q⟩;exact I.kept (t':=O) λb o w=>S b o (by simp;exact Np (Nc w)) (MX _ w)
end
abbrev CM(h:Heap)(z TI TO:Addr)(f0:Value)(f1:Bool):Prop:=
 h.get? z=some { cls:=.type "zip",dict:=none,data:=.fields #[f0,.bool f1,.bool false,.ref TI,.ref TO],slots:=#[] }
theorem eK:entryFor table "zip.__getattribute__"=some Builtin.«object.__getattribute__»:=
 entryFor_alias (id':="object.__getattribute__") (by kernel_rfl) (by decide +kernel) (by decide +kernel) (by kernel_rfl)
theorem iK:typeLookup (.type "zip") "__getattr__"=pure none:=by rw[typeLookup_type,builtinLookup_eq_fast];kernel_rfl
theorem rE:typeLookup (.type "zip") "keys"=pure none:=by rw[typeLookup_type,builtinLookup_eq_fast];kernel_rfl
theorem bC:entryFor table "dict.update.loop"=some Builtin.«dict.update.loop»:=entryFor_of_fast (by kernel_rfl)
theorem aN:plainId "dict.update.loop"=true:=by decide +kernel
theorem lY(a TI TO:Addr)(f0:Value)(f1:Bool)(name:Str)(u:Tok)(hmiss:typeLookup (.type "zip") name=pure none)(hname:(["__module__","__name__","__qualname__","__doc__","__annotations__"]:List Str).contains name=false)(hsz:name.length+100<=sizeLine:=by size_fits):
  Meets (Builtin.«object.__getattribute__» ⟨[.ref a,.str name u],[]⟩) (λA R s=>CM s.heap a TI TO f0 f1/\raisesAttr (.ref a) name A R s):=
 Meets.of_wp λc w A R s b=>by
  obtain⟨f,g,d,e,h⟩:=s;obtain⟨i,b⟩:=b;have j:(⟨f,g,d,e,h⟩:Shared).TypeIs (.ref a) "zip":=⟨_,i,rfl⟩;unfold Builtin.«object.__getattribute__»
  repeat (any_goals (first|assumption|wp_step))
  simp only[hname,Nv,if_false]
  repeat (any_goals (first|assumption|wp_step))
  exact wpAny_raiseAttrError b.1 b.2 (attrMsg_fits (by decide +kernel) hsz)
section
variable {prog:Program}{w:World}{A:Around}{E:Value->Shared->Prop}{s:Shared}
theorem mI{a TI TO:Addr}{f0:Value}{f1:Bool}{Q:Option Value->Shared->Prop}(hx:CM s.heap a TI TO f0 f1)(hA:A.handled=none)
  (h:∀h' tk,(∀b o,s.heap.get? b=some o->h'.get? b=some o)->Q none { s with heap:=h',toks:=tk }):wpAny (model prog w) A (getAttr? (.ref a) "keys") Q E s:=by
 obtain⟨l,g,d,tk,m⟩:=s;have i:∀f,(⟨l,g,d,f,m⟩:Shared).TypeIs (.ref a) "zip":=λ_=>⟨_,hx,rfl⟩;have j:=sub_AttributeError;have v:=Ql.lookup;have q:=Ql.bind (.ref a);have p:=iK;unfold getAttr? getAttrBy? getAttrBy
 repeat (any_goals (first|assumption|exact i _|((with_reducible show wpAny _ _ (call (Value.builtin "zip.__getattribute__") _ _) _ _ _);refine call_meets Ql (i _) eK (F.args_zip_getattribute_2 _ _) (lY a TI TO f0 f1 "keys" _ rE (by decide +kernel)<|by decide +kernel) ⟨hx,hA,λh' f e c=>?_⟩)|wp_step))
 obtain⟨n,u,r⟩:=c.there;show wpAny _ _ (getattributeRaised _ _ _ _ _ _ _) _ _ _;unfold getattributeRaised
 repeat (any_goals (first|assumption|wp_step))
 exact h _ _ c.keeps
theorem mm{M:Model}{a:Addr}{o:Obj}{Q:Option Obj->Shared->Prop}(ho:s.heap.get? a=some o)(h:Q (some o) s):wpAny M A (loadIfAlive a) Q E s:=λΓ p _=>by
 show Sem.wp M Γ (.loadIfAlive a .pure) _ _ p s;rw[Sem.wp_loadIfAlive,ho];exact h
end
section
variable {prog:Program}{w:World}{A:Around}{E:Value->Shared->Prop}{s:Shared}
theorem z6{b1 b2 f1:Bool}{z TI TO T i1 i2 l1 l2:Addr}{k1 k2:Nat}{xs ys:Array Value}{x y:Value}{oT:Obj}{Q:Value->Shared->Prop}(D:ZApart z TI TO i1 i2)(O1:l1≠z/\l1≠i1)(O2:l2≠z/\l2≠i1/\l2≠i2)
  (hz:CM s.heap z TI TO (rawInt T) f1) (hT:s.heap.get? T=some oT) (hTI:IsPair s.heap TI (.ref i1) (.ref i2))
  (h1:SrcTn b1 i1 l1 k1 s.heap) (h2:SrcTn b2 i2 l2 k2 s.heap) (hl1:SrcSq b1 s.heap l1 xs) (hl2:SrcSq b2 s.heap l2 ys) (hx:xs[k1]?=some x) (hy:ys[k2]?=some y)
  (hQ:∀h',CM h' z TI TO (rawInt T) true->SrcTn b1 i1 l1 (k1+1) h'->SrcTn b2 i2 l2 (k2+1) h'->IsPair h' s.heap.objs.size x y->h'.objs.size=s.heap.objs.size+1->
   (∀c o,c≠z->c≠i1->c≠i2->s.heap.get? c=some o->h'.get? c=some o)->Q (.ref s.heap.objs.size) { s with heap:=h' }):
  wpAny (model prog w) A (Builtin.«zip.__next__» ⟨[.ref z],[]⟩) (λfin l=>∃v,fin=.done (.ret v)/\Q v l) E s:=by
 show wpAny _ _ (field (.ref z) 2 >>= _) _ _ _;refine wpAny_bind (wpAny_field hz rfl (x:=.bool false) rfl ?_);show wpAny _ _ (field (.ref z) 3 >>= _) _ _ _;refine wpAny_bind (wpAny_field hz rfl (x:=.ref TI) rfl ?_);refine wpAny_bind (wpAny_seqItems hTI rfl ?_);show wpAny _ _ (NJ (.ref z) >>= _) _ _ _;refine wpAny_bind ?_;unfold NJ;refine wpAny_bind (wpAny_field hz rfl (x:=rawInt T) rfl ?_);show wpAny _ _ (loadIfAlive _ >>= _) _ _ _;refine wpAny_bind (mm (o:=oT) (by simpa using hT) ?_)
 simp only[Sa,Nv,if_false];refine wpAny_bind (wpAny_field hz rfl (x:=.bool f1) rfl ?_)
 have go:wpAny (model prog w) A (if (Pb f1 != Pb true)=true then do setField (ND z) 1 (Pb true);pure false else pure false)
   (λa l=>a=false/\∃b,l={ s with heap:=b }/\CM b z TI TO (rawInt T) true/\(∀c o,c≠z->s.heap.get? c=some o->b.get? c=some o)/\b.objs.size=s.heap.objs.size) E s:=by
  cases f1 with
  |true=>
   rw[if_neg (by decide)]
   exact wpAny_pure ⟨rfl,s.heap,rfl,hz,λ_ _ _ e=>e,rfl⟩
  |false=>
   rw[if_pos (by decide)]
   refine wpAny_bind (wpAny_setField_rec hz (by simp) λb f i=>wpAny_pure ⟨rfl,b,rfl,f,λc o u e=>i.extBut c o u e,i.1⟩)
 refine wpAny_mono go (λa l r=>?_) λ_ _ e=>e;obtain⟨rfl,b,rfl,f,hk₀,i⟩:=r;simp only[Nv,if_false];rw[<- Sm];simp only[Qo,Qv];refine wpAny_bind (wpAny_bind<|wpAny_bind<|wpAny_holding ?_);show wpAny _ _ (NB (.ref i1) >>= _) _ _ _;refine wpAny_bind (bz (s:={ s with heap:=b }) (h1.keep λo e=>hk₀ _ o D.i1z e) (hl1.keep λo e=>hk₀ _ o O1.1 e) hx λg m hs₂=>wpAny_pure ?_);refine wpAny_pure ?_;refine wpAny_bind (wpAny_bind<|wpAny_holding ?_);show wpAny _ _ (NB (.ref i2) >>= _) _ _ _;refine wpAny_bind (bz (s:={ s with heap:=g }) (h2.keep λo e=>hs₂.extBut _ o D.i12.symm (hk₀ _ o D.i2z e)) (hl2.keep λo e=>hs₂.extBut _ o O2.2.1 (hk₀ _ o O2.1 e)) hy λh n hs₃=>wpAny_pure ?_);refine wpAny_pure (wpAny_pure ?_);refine wpAny_bind (wpAny_newTuple (wpAny_pure ⟨_,rfl,?_⟩)<|by show 2<=sizeLine;decide)
 have H:g.objs.size=b.objs.size:=hs₂.1;have C:h.objs.size=g.objs.size:=hs₃.1;have j:h.objs.size=s.heap.objs.size:=by rw[C,H,i]
 have B:z≠i1:=D.i1z.symm;have p:z≠i2:=D.i2z.symm;show Q (.ref h.objs.size) _;rw[j];refine hQ _ (MX _<|hs₃.extBut _ _ p<|hs₂.extBut _ _ B f) (m.keep λo e=>MX _ (hs₃.extBut _ o D.i12 e)) (n.keep λo e=>MX _ e) ?_ ?_ λc o F q G e=>MX _ (hs₃.extBut _ _ G<|hs₂.extBut _ _ q<|hk₀ c o F e)
 .rw[<- j]
  exact Nj _ rfl
 .rw[Oi,j]
theorem BF{b1 b2 f1:Bool}{z TI TO T i1 i2 l1 l2:Addr}{k1 k2:Nat}{xs ys:Array Value}{oT:Obj}{Q:Fin->Shared->Prop}(hh:A.handled=none)(D:ZApart z TI TO i1 i2)(O1:l1≠z/\l1≠i1)
  (hz:CM s.heap z TI TO (rawInt T) f1) (hT:s.heap.get? T=some oT) (hTI:IsPair s.heap TI (.ref i1) (.ref i2))
  (h1:SrcTn b1 i1 l1 k1 s.heap) (hl1:SrcSq b1 s.heap l1 xs) (hx:xs[k1]?=none)
  (hE:∀h' e,(∀c o,c≠z->c≠i1->s.heap.get? c=some o->h'.get? c=some o)->(∃o,h'.get? e=some o/\o.cls=.type "StopIteration")->E (.ref e) { s with heap:=h' }):
  wpAny (model prog w) A (Builtin.«zip.__next__» ⟨[.ref z],[]⟩) Q E s:=by
 show wpAny _ _ (field (.ref z) 2 >>= _) _ _ _;refine wpAny_bind (wpAny_field hz rfl (x:=.bool false) rfl ?_);show wpAny _ _ (field (.ref z) 3 >>= _) _ _ _;refine wpAny_bind (wpAny_field hz rfl (x:=.ref TI) rfl ?_);refine wpAny_bind (wpAny_seqItems hTI rfl ?_);show wpAny _ _ (NJ (.ref z) >>= _) _ _ _;refine wpAny_bind ?_;unfold NJ;refine wpAny_bind (wpAny_field hz rfl (x:=rawInt T) rfl ?_);show wpAny _ _ (loadIfAlive _ >>= _) _ _ _;refine wpAny_bind (mm (o:=oT) (by simpa using hT) ?_)
 simp only[Sa,Nv,if_false];refine wpAny_bind (wpAny_field hz rfl (x:=.bool f1) rfl ?_)
 have go:wpAny (model prog w) A (if (Pb f1 != Pb true)=true then do setField (ND z) 1 (Pb true);pure false else pure false)
   (λa l=>a=false/\∃b,l={ s with heap:=b }/\(∀c o,c≠z->s.heap.get? c=some o->b.get? c=some o)) E s:=by
  cases f1 with
  |true=>
   rw[if_neg (by decide)]
   exact wpAny_pure ⟨rfl,s.heap,rfl,λ_ _ _ e=>e⟩
  |false=>
   rw[if_pos (by decide)]
   refine wpAny_bind (wpAny_setField_rec hz (by simp) λb i j=>wpAny_pure ⟨rfl,b,rfl,λc o r e=>j.extBut c o r e⟩)
 refine wpAny_mono go (λa l n=>?_) λ_ _ e=>e;obtain⟨rfl,b,rfl,f⟩:=n;simp only[Nv,if_false];rw[<- Sm];simp only[Qo,Qv];refine wpAny_bind (wpAny_bind<|wpAny_bind<|wpAny_holding ?_);show wpAny _ _ (NB (.ref i1) >>= _) _ _ _;exact wpAny_bind (bW (s:={ s with heap:=b }) hh (h1.keep λo e=>f _ o D.i1z e) (hl1.keep λo e=>f _ o O1.1 e) hx λh e g p=>hE h e (λc o u m q=>g _ _ m (f c o u q)) p)
theorem iC{b1 b2 f1:Bool}{z TI TO T i1 i2 l1 l2:Addr}{k1 k2:Nat}{xs ys:Array Value}{x y:Value}{oT:Obj}{Q:Option Value->Shared->Prop}(D:ZApart z TI TO i1 i2)(O1:l1≠z/\l1≠i1)(O2:l2≠z/\l2≠i1/\l2≠i2)
  (hz:CM s.heap z TI TO (rawInt T) f1) (hT:s.heap.get? T=some oT) (hTI:IsPair s.heap TI (.ref i1) (.ref i2))
  (h1:SrcTn b1 i1 l1 k1 s.heap) (h2:SrcTn b2 i2 l2 k2 s.heap) (hl1:SrcSq b1 s.heap l1 xs) (hl2:SrcSq b2 s.heap l2 ys) (hx:xs[k1]?=some x) (hy:ys[k2]?=some y)
  (hQ:∀h',CM h' z TI TO (rawInt T) true->SrcTn b1 i1 l1 (k1+1) h'->SrcTn b2 i2 l2 (k2+1) h'->IsPair h' s.heap.objs.size x y->h'.objs.size=s.heap.objs.size+1->
   (∀c o,c≠z->c≠i1->c≠i2->s.heap.get? c=some o->h'.get? c=some o)->Q (some<|.ref s.heap.objs.size) { s with heap:=h' }):wpAny (model prog w) A (pyNext<|.ref z) Q E s:=by
 have a:s.TypeIs (.ref z) "zip":=⟨_,hz,rfl⟩;unfold pyNext
 exact wpAny_bind (wpAny_attempt (wpAny_callSpecial?_slot (name:=Oh "__next__") a OS
  (wpAny_call_entry OS a Qm (z6 D O1 O2 hz hT hTI h1 h2 hl1 hl2 hx hy λh' g i b h e f=>wpAny_pure (hQ h' g i b h e f))<|Qg _)))
theorem jq{b1 f1:Bool}{z TI TO T i1 i2 l1:Addr}{k1:Nat}{xs:Array Value}{oT:Obj}{Q:Option Value->Shared->Prop}(hh:A.handled=none)(D:ZApart z TI TO i1 i2)(O1:l1≠z/\l1≠i1)
  (hz:CM s.heap z TI TO (rawInt T) f1) (hT:s.heap.get? T=some oT) (hTI:IsPair s.heap TI (.ref i1) (.ref i2)) (h1:SrcTn b1 i1 l1 k1 s.heap) (hl1:SrcSq b1 s.heap l1 xs) (hx:xs[k1]?=none)
  (hQ:∀h',(∀c o,c≠z->c≠i1->s.heap.get? c=some o->h'.get? c=some o)->Q none { s with heap:=h' }):wpAny (model prog w) A (pyNext<|.ref z) Q E s:=by
 have a:s.TypeIs (.ref z) "zip":=⟨_,hz,rfl⟩;unfold pyNext
 refine wpAny_bind (wpAny_attempt (wpAny_callSpecial?_slot (name:=Oh "__next__") a OS
  (wpAny_call_entry OS a Qm (BF (b2:=true) (l2:=l1) (k2:=0) (ys:=#[]) hh D O1 hz hT hTI h1 hl1 hx λh' e i h=>?_)<|Qg _)))
 obtain⟨o,g,f⟩:=h;refine wpAny_bind (wpAny_isInstance (T:="StopIteration") (b:=true) ⟨o,g,f⟩ isSubtype_stop ?_);exact wpAny_pure (hQ _ i)
end
theorem yQ{prog:Program}{w:World}{K:Type}[DecidableEq K]{knd:KeyKind prog w K}{A:Around}{R:Result->Shared->Prop}{b1 b2:Bool}{z TI TO T i1 i2 l1 l2 d:Addr}{xs ys:List Value}{ks:List K}(hh:A.handled=none)(D:ZApart z TI TO i1 i2)
  (O1:l1≠z/\l1≠i1/\l1≠i2/\l1≠d) (O2:l2≠z/\l2≠i1/\l2≠i2/\l2≠d) (Od:d≠z/\d≠i1/\d≠i2/\d≠TI/\d≠T) (OT:T≠z/\T≠i1/\T≠i2)
  (hk:Paired (λk v=>knd.is k v=true) ks xs) (hl:xs.length=ys.length) (hz:xs.length<=1000):
  ∀(n i:Nat) (s:Shared) (f1:Bool) (kvs:List (K×Value)),n=xs.length-i->i<=xs.length->kvs.length<=i->CM s.heap z TI TO (rawInt T) f1->(∃oT,s.heap.get? T=some oT)->IsPair s.heap TI (.ref i1) (.ref i2)->
   SrcTn b1 i1 l1 i s.heap->SrcTn b2 i2 l2 i s.heap->SrcSq b1 s.heap l1 xs.toArray->SrcSq b2 s.heap l2 ys.toArray->s.heap.DictOf knd d kvs->
   (∀s':Shared,s'.os=s.os->s'.gens=s.gens->s'.drawn=s.drawn->s'.heap.DictOf knd d (((ks.zip ys).drop i).foldl (λa p=>stored a p.1 p.2) kvs)->(∀c o,c≠z->c≠i1->c≠i2->c≠d->s.heap.get? c=some o->s'.heap.get? c=some o)->R (.ok<|.ret .none) s')->
   ∀tk:Nat,codeAny (model prog w) A (.builtin "dict.update.loop" ⟨[.ref d,.ref z,rawInt tk,.none],[]⟩) R s:=by
 intro n
 induction n with
 |zero=>
  intro i s f1 kvs hn hi P C B l u Q S U Z hR tk;obtain⟨oT,B⟩:=B;have hin:i=xs.length:=by lia
  refine codeAny_builtin bC ?_;rw[O9 aN _];show wpAny _ A.in1 (pyNext (.ref z) >>= _) _ _ s;refine wpAny_bind (jq hh D ⟨O1.1,O1.2.1⟩ C B l u S (by simp;lia) λL h=>?_)
  refine wpAny_bind (m:=QR d []) (wpAny_pure ?_);refine wpAny_pure (hR _ rfl rfl rfl ?_ λc o F E N O e=>h c o F E e);rw[Qj (by have e:=OC hk;rw[Pp];lia)]
  obtain⟨o,W,ep,ho,r⟩:=Z;exact⟨o,W,ep,h d o Od.1 Od.2.1 ho,r⟩
 |succ n ih=>
  intro i s f1 kvs hn hi P C B l u Q S U Z hR tk;obtain⟨oT,B⟩:=B;have q:i<xs.length:=by lia
  have H:i<ys.length:=by lia
  refine codeAny_builtin bC ?_;rw[O9 aN _];show wpAny _ A.in1 (pyNext (.ref z) >>= _) _ _ s;refine wpAny_bind (iC (x:=xs[i]) (y:=ys[i]) D ⟨O1.1,O1.2.1⟩ ⟨O2.1,O2.2.1,O2.2.2.1⟩ C B l u Q S U (by simp[q]) (by simp[H]) λL a1 a2 a3 a4 a5 h=>?_)
  have Y:({ s with heap:=L }:Shared).TypeIs (.ref s.heap.objs.size) "tuple":=⟨_,a4,rfl⟩;refine wpAny_bind (wpAny_holding<|wpAny_bind<|wpAny_tryCatch ?_);unfold P4;refine wpAny_bind (wpAny_typeOf Y ?_);rw[if_pos (by decide)]
  refine wpAny_bind (wpAny_seqItems (s:={ s with heap:=L }) a4 rfl<|wpAny_pure ?_);have hd':L.DictOf knd d kvs:=by
   obtain⟨o,W,ep,ho,r⟩:=Z;exact⟨o,W,ep,h d o Od.1 Od.2.1 Od.2.2.1 ho,r⟩
  have X:i<ks.length:=by rw[OC hk];exact q
  have J:knd.is ks[i] xs[i]=true:=by
   have:∀{g:List K} {f:List Value},Paired (λk v=>knd.is k v=true) g f->∀(j:Nat) (u:j<g.length) (Q:j<f.length),knd.is g[j] f[j]=true:=by
    intro g f p
    induction p with
    |nil=>intro j u;exact absurd u (PX _)
    |cons r _ ihp=>
     intro j u Q;cases j with
     |zero=>exact r
     |succ j=>exact ihp j (by simpa using u) (by simpa using Q)
   exact this hk i X q
  have hkz:kvs.length<=sizeLine:=Ny (Ny P hi) (Ny hz<|by decide)
  show wpAny _ _ (holding [xs[i],ys[i]]<|dictSet d xs[i] ys[i]) _ _ _;refine wpAny_holding (wpAny_dictSet_pairs (s:={ s with heap:=L }) J hd' (λI M b=>?_) hkz);have G:∀c o,c≠z->c≠i1->c≠i2->c≠d->s.heap.get? c=some o->I.get? c=some o:=λc o F E N O e=>b.extBut c o O (h c o F E N e);refine wpAny_pure ⟨plainId_quiet aN _,?_⟩;have hst:(stored kvs ks[i] ys[i]).length<=i+1:=by
   unfold stored
   split
   .rw[MW];lia
   .rw[Nd,Qp];lia
  refine ih (i+1) { s with heap:=I,toks:=s.toks+1 } true (stored kvs ks[i] ys[i]) (by lia) q hst (b.extBut _ _ Od.1.symm a1) ⟨oT,G T oT OT.1 OT.2.1 OT.2.2 Od.2.2.2.2.symm B⟩ (G TI _ D.TIz D.TIi1 D.TIi2 Od.2.2.2.1.symm l)
   (a2.keep λo e=>b.extBut _ o Od.2.1.symm e) (a3.keep λo e=>b.extBut _ o Od.2.2.1.symm e) (S.keep λo e=>G l1 o O1.1 O1.2.1 O1.2.2.1 O1.2.2.2 e) (U.keep λo e=>G l2 o O2.1 O2.2.1 O2.2.2.1 O2.2.2.2 e) M ?_ (tk+1)
  intro s' q1 q2 q3 q4 q5;refine hR s' q1 q2 q3 ?_ λc o F E N O e=>q5 c o F E N O (G c o F E N O e);have ez:(ks.zip ys).drop i=(ks[i],ys[i])::(ks.zip ys).drop (i+1):=by
   rw[Pk (by rw[Pp];lia)]
   simp
  rw[ez,Oe];exact q4
namespace F
theorem mro_dict:mroOf (.type "dict")=pure [.type "dict",.type "object"]:=by rw[mroOf_type];kernel_rfl
theorem ji:typeLookup (.type "dict") "__new__"=pure (some<|.builtin "dict.__new__"):=by rw[typeLookup_type,builtinLookup_eq_fast];kernel_rfl
theorem called_dict:TypeCalled "dict" "dict.__new__" "dict.__init__":=
 ⟨by decide +kernel,by decide +kernel,⟨_,_,mro_dict⟩,madeBy_type mro_dict ji (by decide +kernel),by decide +kernel,by rw[isSubtype_type];kernel_rfl,PySem.F.slot_dict_init⟩
theorem typeCall_dict_1(a:Value):checkTypeCall "dict" ⟨[a],[]⟩=pure ():=by kernel_rfl
theorem newCall_dict_1(a:Value):checkBuiltinCall "dict.__new__" ⟨[.type "dict",a],[]⟩=pure ():=by kernel_rfl
theorem entry_dict_new:entryFor table "dict.__new__"=some Builtin.«dict.__new__»:=entryFor_of_tree (by kernel_rfl)
theorem plain_dict_new:plainId "dict.__new__"=true:=by decide +kernel
theorem sub_dict:isSubtype (.type "dict") (.type "dict")=pure true:=by rw[isSubtype_type];kernel_rfl
end F
section
variable {prog:Program}{w:World}{K:Type}[DecidableEq K]{knd:KeyKind prog w K}{A:Around}{E:Value->Shared->Prop}{s:Shared}
theorem ga(a:Value){Q₁:Value->Shared->Prop}(h:Q₁ (.ref s.heap.objs.size) { s with heap:=s.heap.push { cls:=.type "dict",data:=.dict #[] } }):
  codeAny (model prog w) A (.call (.builtin "dict.__new__") ⟨[.type "dict",a],[]⟩) (wants Q₁ E) s:=by
 refine codeAny_call_builtin F.plain_dict_new F.entry_dict_new (wpAny_of_eq (F.newCall_dict_1 a) ?_);have c:=F.sub_dict;have b:=F.mro_dict;obtain⟨f,g,d,e,i⟩:=s;unfold Builtin.«dict.__new__»
 wp_walk
 exact h
theorem mF{b1 b2:Bool}{z TI TO i1 i2 l1 l2:Addr}{xs ys:List Value}{ks:List K}{Q:Value->Shared->Prop}(hh:A.handled=none)(D:ZApart z TI TO i1 i2)(O1:sw z TO i1 i2 l1)(O2:sw z TO i1 i2 l2)
  (hz:IsZip s.heap z TI TO .none) (hTI:IsPair s.heap TI (.ref i1) (.ref i2)) (hTO:∃a b,IsPair s.heap TO a b) (h1:SrcTn b1 i1 l1 0 s.heap) (h2:SrcTn b2 i2 l2 0 s.heap) (hl1:SrcSq b1 s.heap l1 xs.toArray) (hl2:SrcSq b2 s.heap l2 ys.toArray)
  (hk:Paired (λk v=>knd.is k v=true) ks xs) (hl:xs.length=ys.length) (hz0:0<xs.length) (hzz:xs.length<=1000)
  (h:∀s':Shared,s'.os=s.os->s'.gens=s.gens->s'.drawn=s.drawn->s'.heap.DictOf knd s.heap.objs.size ((ks.zip ys).foldl (λa p=>stored a p.1 p.2) [])->
   (∀c o,c≠z->c≠TO->c≠i1->c≠i2->s.heap.get? c=some o->s'.heap.get? c=some o)->Q (.ref s.heap.objs.size) s'):
  wpAny (model prog w) A (call (.type "dict") [.ref z]) Q E s:=by
 refine callType_codes (Q₁:=λobj L=>obj=.ref s.heap.objs.size/\L={ s with heap:=s.heap.push { cls:=.type "dict",data:=.dict #[] } }) F.called_dict (F.typeCall_dict_1 _) R7 (ga _ ⟨rfl,rfl⟩) ?_
 rintro obj L ⟨rfl,rfl⟩
 have C:(s.heap.push { cls:=.type "dict",data:=.dict #[] }).DictOf knd s.heap.objs.size []:=RO s.heap;refine⟨C.typeIs,RZ _ _,?_⟩;unfold Builtin.«dict.__init__»;refine wpAny_bind ?_;unfold QP;refine wpAny_bind (wpAny_notOrdered_dict C.typeIs ?_);show wpAny _ _ (pure (s.heap.objs.size,[ND z])) _ _ _;refine wpAny_pure ?_;show wpAny _ _ (Pe "dict.__init__" s.heap.objs.size (.ref z) [] .none) _ _ _;unfold Pe;have j:∀c o,s.heap.get? c=some o->c≠s.heap.objs.size:=λc o e=>Np (Nc e);have up:∀c o,s.heap.get? c=some o->(s.heap.push { cls:=.type "dict",data:=.dict #[] }).get? c=some o:=λc o e=>MX _ e;refine wpAny_bind (wpAny_typeOf (T:="zip") ⟨_,up _ _ hz,rfl⟩ ?_);rw[if_pos (by decide)]
 refine wpAny_bind (mI (f1:=false) (s:={ s with heap:=s.heap.push { cls:=.type "dict",data:=.dict #[] } }) (up _ _ hz) hh λf n B=>?_);rw[if_pos (show (none:Option Value).isNone=true from rfl)];have up1:∀c o,s.heap.get? c=some o->f.get? c=some o:=λc o e=>B c o (up c o e);refine wpAny_bind (wpAny_rule<|wpAny_bind<|wpAny_pyIter_zip (s:={ s with heap:=f,toks:=n }) (up1 _ _ hz)<|wpAny_pure ⟨plainId_quiet aN _,codeAny_builtin bC ?_⟩);rw[O9 aN _];show wpAny _ A.in1.in1 (pyNext (.ref z) >>= _) _ _ _;obtain⟨a,b,hTO⟩:=hTO;have P:0<ys.length:=by lia
 have U:f.DictOf knd s.heap.objs.size []:=by
  obtain⟨o,W,ep,O,r⟩:=C;exact⟨o,W,ep,B _ o O,r⟩
 have M:s.heap.objs.size≠z:=(j _ _ hz).symm;have I:s.heap.objs.size≠TI:=(j _ _ hTI).symm;have S:s.heap.objs.size≠TO:=(j _ _ hTO).symm;have H:s.heap.objs.size≠i1:=by obtain⟨o,e,_⟩:=h1.lt;exact(j _ _ e).symm
 have u:s.heap.objs.size≠i2:=by obtain⟨o,e,_⟩:=h2.lt;exact(j _ _ e).symm
 have X:∀{b:Bool} {l:Addr} {us:Array Value},SrcSq b s.heap l us->l≠s.heap.objs.size:=λ{b l us} q=>by
  cases b with
  |true=>obtain⟨o,e,_⟩:=(show s.heap.IsList l us from q);exact j _ _ e
  |false=>obtain⟨o,e,_⟩:=(show s.heap.IsTuple l us from q);exact j _ _ e
 refine wpAny_bind (e_ (s:={ s with heap:=f,toks:=n }) (x:=xs[0]) (y:=ys[0]) D O1 O2 (up1 _ _ hz) (up1 _ _ hTI) (up1 _ _ hTO) (h1.keep λo e=>up1 _ o e) (h2.keep λo e=>up1 _ o e) (hl1.keep λo e=>up1 _ o e) (hl2.keep λo e=>up1 _ o e) (by simp[hz0]) (by simp[P]) λm a1 a2 a3 a4 a5 a6 G=>?_)
 have hTy:({ s with heap:=m,toks:=n }:Shared).TypeIs (.ref f.objs.size) "tuple":=⟨_,a5,rfl⟩;refine wpAny_bind (wpAny_holding<|wpAny_bind<|wpAny_tryCatch ?_);unfold P4;refine wpAny_bind (wpAny_typeOf hTy ?_);rw[if_pos (by decide)]
 refine wpAny_bind (wpAny_seqItems (s:={ s with heap:=m,toks:=n }) a5 rfl<|wpAny_pure ?_);have hks:0<ks.length:=by rw[OC hk];exact hz0
 have R:knd.is ks[0] xs[0]=true:=by
  cases hk with
  |nil=>exact absurd hz0 (Ou _)
  |cons r _=>exact r
 have hd2:m.DictOf knd s.heap.objs.size []:=by
  obtain⟨o,W,ep,O,r⟩:=U;exact⟨o,W,ep,G _ o M S H u O,r⟩
 show wpAny _ _ (holding [xs[0],ys[0]]<|dictSet s.heap.objs.size xs[0] ys[0]) _ _ _;refine wpAny_holding (wpAny_dictSet_pairs (s:={ s with heap:=m,toks:=n }) R hd2 (λJ hd3 g=>?_)<|N5 _);refine wpAny_pure ⟨plainId_quiet aN _,?_⟩;have T1:∀c o,f.get? c=some o->f.objs.size≠c:=λc o e=>Pj (Nc e);have N:s.heap.objs.size<f.objs.size:=by obtain⟨o,W,ep,O,r⟩:=U;exact Nc O
 have Y:∀c o,c≠z->c≠TO->c≠i1->c≠i2->c≠s.heap.objs.size->s.heap.get? c=some o->J.get? c=some o:=λc o Z c2 c3 c4 c5 e=>g.extBut c o c5 (G c o Z c2 c3 c4<|up1 c o e);have hst:(stored ([]:List (K×Value)) ks[0] ys[0]).length<=1:=by simp[stored]
 refine yQ (A:=A.in1) (T:=f.objs.size) (l1:=l1) (l2:=l2) (xs:=xs) (ys:=ys) (ks:=ks) hh D ⟨O1.1,O1.2.2.1,O1.2.2.2,X hl1⟩ ⟨O2.1,O2.2.2.1,O2.2.2.2,X hl2⟩ ⟨M,H,u,I,Np N⟩
  ⟨T1 _ _ (up1 _ _ hz),(by obtain⟨o,e,_⟩:=h1.lt;exact T1 _ _ (up1 _ _ e)),(by obtain⟨o,e,_⟩:=h2.lt;exact T1 _ _ (up1 _ _ e))⟩ hk hl hzz (xs.length-1) 1 { s with heap:=J,toks:=n+1 } false (stored [] ks[0] ys[0]) rfl hz0 hst
  (g.extBut _ _ M.symm a1) ⟨_,g.extBut _ _ (Pj N) a5⟩ (Y TI _ D.TIz D.TITO D.TIi1 D.TIi2 I.symm hTI) (a3.keep λo e=>g.extBut _ o H.symm e) (a4.keep λo e=>g.extBut _ o u.symm e)
  (hl1.keep λo e=>Y l1 o O1.1 O1.2.1 O1.2.2.1 O1.2.2.2 (X hl1) e) (hl2.keep λo e=>Y l2 o O2.1 O2.2.1 O2.2.2.1 O2.2.2.2 (X hl2) e) hd3 ?_ 1
 intro s' q1 q2 q3 q4 q5;refine⟨rfl,h s' q1 q2 q3 ?_ λc o Z c2 c3 c4 e=>q5 c o Z c3 c4 (j c o e) (Y c o Z c2 c3 c4 (j c o e) e)⟩;have ez:ks.zip ys=(ks[0],ys[0])::(ks.zip ys).drop 1:=by
  have:=Pk (l:=ks.zip ys) (i:=0) (by rw[Pp];lia)
  simpa using this
 rw[ez,Oe];exact q4
end
theorem iD:fillsNumberSlot (.type "tuple") "mul"=pure false:=
 PySem.fillsNumberSlot_seq (id:="tuple.__mul__") (r:=some (.builtin "tuple.__rmul__")) OY.lookup (by decide +kernel) Rm.lookup (by decide +kernel)
theorem o7:seqRepeat? (.type "tuple")=pure (some<|.builtin "tuple.__mul__"):=by
 unfold seqRepeat?;rw[PySem.seqSlot_of (T:="tuple") (name:="__mul__") (id:="tuple.__mul__") OY.lookup (by decide +kernel),PySem.seqSlot_of (T:="tuple") (name:="__rmul__") (id:="tuple.__rmul__") Rm.lookup (by decide +kernel)]
 rfl
theorem lw(a:Int)(t:Tok)(l:Addr)(items:Array Value)(n:Nat)(dd:Option Addr)(sl:Array (Option Value)):
  Meets (Builtin.«int.__rmul__» ⟨[.int a t,.ref l],[]⟩) (λ_ R s=>s.heap.get? l=some { cls:=.type "tuple",dict:=dd,data:=.seq items n,slots:=sl }/\R (.ok<|.ret Value.notImplemented) s):=
 .of_wp λb w A R s h=>by obtain⟨e,g,d,c,f⟩:=s;obtain⟨i,h⟩:=h;wp_walk;exact⟨_,rfl,h⟩
theorem lJ(l:Addr)(items:Array Value)(n:Nat)(dd:Option Addr)(sl:Array (Option Value))(x:Int)(u:Tok)(hx:1<x)(hx2:x<=1000)(hi:items.size<=1000)(h0:items.isEmpty=false):
  Meets (Builtin.«tuple.__mul__» ⟨[.ref l,.int x u],[]⟩) (λ_ R s=>s.heap.get? l=some { cls:=.type "tuple",dict:=dd,data:=.seq items n,slots:=sl }/\
   R (.ok<|.ret<|.ref s.heap.objs.size) { s with heap:=s.heap.push { cls:=.type "tuple",data:=.seq ((Nh x.toNat items).foldl (·++·) #[]) } }):=
 .of_wp λj w A R s h=>by
  obtain⟨B,g,d,r,y⟩:=s;obtain⟨c,h⟩:=h;have v:=QI;have q:=P5;have p:(decide (x < -(2 ^ 63))||decide (x>=2 ^ 63))=false:=by simp;lia
  have o:(items.isEmpty||x==1)=false:=by rw[h0];simp;lia
  have m:(decide (x<=0)||items.isEmpty)=false:=by rw[h0];simp;lia
  have hm:(items.size:Int)*x<=1000000:=by
   have z:(items.size:Int)*x<=1000*x:=Int.mul_le_mul_of_nonneg_right (by lia) (by lia)
   lia
  have f:¬((items.size:Int)*x>(2 ^ 63-1) / 8):=by lia
  have i:QB ((items.size:Int)*x)=false:=by
   unfold QB;have:(1000000:Int)<=(sizeLine:Int):=by decide
   exact decide_eq_false (by lia)
  wp_walk using wpAny_loadPart' c
  try simp only[p,Nv,if_false]
  wp_walk using wpAny_loadPart' c
  try simp only[o,Nv,if_false]
  wp_walk using wpAny_loadPart' c
  try simp only[m,Nv,if_false]
  wp_walk using wpAny_loadPart' c
  rw[if_neg f];simp only[i,Nv,if_false];unfold ON;have b:((Nh x.toNat items).foldl (·++·) #[]).toList.length<=sizeLine:=by
   have e:∀(k:Nat) (a:Array Value),((Nh k items).foldl (·++·) a).size=a.size+k*items.size:=by
    intro k
    induction k with
    |zero=>intro a;simp
    |succ k ih=>intro a;rw[NI,Oe,ih,Array.size_append,QZ];lia
   rw[Pm,e];have:x.toNat*items.size<=1000*1000:=Nat.mul_le_mul (by lia) hi
   have C:(1000*1000:Nat)<=sizeLine:=by decide
   simp only[Na,Nq]at *;lia
  refine wpAny_bind (wpAny_newTuple (wpAny_pure ⟨_,rfl,?_⟩) b);simpa using h
theorem mE(l:Addr)(items:Array Value)(n:Nat)(dd:Option Addr)(sl:Array (Option Value))(u:Tok):
  Meets (Builtin.«tuple.__mul__» ⟨[.ref l,.int 1 u],[]⟩) (λ_ R s=>s.heap.get? l=some { cls:=.type "tuple",dict:=dd,data:=.seq items n,slots:=sl }/\R (.ok<|.ret<|.ref l) s):=
 .of_wp λb w A R s h=>by
  obtain⟨j,g,d,f,m⟩:=s;obtain⟨a,h⟩:=h;have o:=QI;have i:=P5;have c:(decide ((1:Int) < -(2 ^ 63))||decide ((1:Int)>=2 ^ 63))=false:=by decide
  have e:(items.isEmpty||(1:Int)==1)=true:=by simp
  wp_walk using wpAny_loadPart' a
  try simp only[c,Nv,if_false]
  wp_walk using wpAny_loadPart' a
  try simp only[e,if_true]
  wp_walk using wpAny_loadPart' a
  all_goals first|exact⟨_,rfl,h⟩|skip
theorem lB(l:Addr)(items:Array Value)(n:Nat)(dd:Option Addr)(sl:Array (Option Value))(x:Int)(u:Tok)(hx:x<=0)(hx2:-1000<=x)(h0:items.isEmpty=false):
  Meets (Builtin.«tuple.__mul__» ⟨[.ref l,.int x u],[]⟩) (λ_ R s=>s.heap.get? l=some { cls:=.type "tuple",dict:=dd,data:=.seq items n,slots:=sl }/\
   R (.ok<|.ret<|.ref s.heap.objs.size) { s with heap:=s.heap.push { cls:=.type "tuple",data:=.seq #[] } }):=
 .of_wp λb w A R s h=>by
  obtain⟨m,g,d,i,o⟩:=s;obtain⟨a,h⟩:=h;have p:=QI;have j:=P5;have c:(decide (x < -(2 ^ 63))||decide (x>=2 ^ 63))=false:=by simp;lia
  have f:(items.isEmpty||x==1)=false:=by rw[h0];simp;lia
  have e:(decide (x<=0)||items.isEmpty)=true:=by simp[hx]
  wp_walk using wpAny_loadPart' a
  try simp only[c,Nv,if_false]
  wp_walk using wpAny_loadPart' a
  try simp only[f,Nv,if_false]
  wp_walk using wpAny_loadPart' a
  try simp only[e,if_true]
  all_goals exact⟨_,rfl,h⟩
section
variable {prog:Program}{w:World}{A:Around}{E:Value->Shared->Prop}{s:Shared}
theorem yR{l:Addr}{its:List Value}{k:Int}{u:Tok}{Q:Value->Shared->Prop}(ht:s.heap.IsTuple l its.toArray)(h0:its≠[])(hk0:0<=k)(hk:k<=1000)(hi:its.length<=1000)
  (h1:k=1->Q (.ref l) s) (h2:k≠1->Q (.ref s.heap.objs.size) { s with heap:=s.heap.push { cls:=.type "tuple",data:=.seq (Nh k.toNat its).flatten.toArray } }):
  wpAny (model prog w) A (binaryOp .Mult (.ref l)<|.int k u) Q E s:=by
 obtain⟨⟨cls,h,data,g⟩,e,q,n,o⟩:=ht;simp only at q o;subst q o;have j:its.toArray.isEmpty=false:=by cases its with|nil=>exact absurd rfl h0|cons a r=>rfl
 refine wpAny_binaryOp_repeat_ref (T:="tuple") (U:="int") (by decide) ⟨_,e,rfl⟩ (λz=>typeIs_int z k u) iD Sq P1 o7 Si.lookup
  (call_meets P1 (typeIs_int s k u) Sj (R8 _ _) (lw k u l its.toArray n h g) ⟨e,rfl,⟨_,e,rfl⟩,?_⟩)
 by_cases f:k=1
 .subst f
  exact call_meets OY ⟨_,e,rfl⟩ Qb (P7 _ _) (mE l its.toArray n h g u) ⟨e,h1 rfl⟩
 .have c:=h2 f
  by_cases i:k<=0
  .refine call_meets OY ⟨_,e,rfl⟩ Qb (P7 _ _) (lB l its.toArray n h g k u i (by lia) j) ⟨e,?_⟩
   have v:k.toNat=0:=by lia
   rw[v]at c;exact c
  .refine call_meets OY ⟨_,e,rfl⟩ Qb (P7 _ _) (lJ l its.toArray n h g k u (by lia) hk (by rw[Na];exact hi) j) ⟨e,?_⟩
   have x:∀(m:Nat) (b:List Value),Rt (λC B=>C++B) b.toArray (Nh m its.toArray)=(b++(Nh m its).flatten).toArray:=by
    intro m
    induction m with
    |zero=>intro b;simp
    |succ m ih=>
     intro b;have y:b.toArray++its.toArray=(b++its).toArray:=by simp
     rw[NI,Oe,y,ih,NI,OI,QU]
   have p:=x k.toNat [];rw[NG]at p;rw[p];exact c
end
section
variable {X:Cx}
theorem AS:du X (binaryOp .Add) (λx y H Q=>∃a b ys,x=.ref a/\y=.ref b/\iE X.K H a []/\iE X.K H b ys/\Q (.ref b) H):=by
 intro w s Z H x y v u Q I N C h;obtain⟨a,b,ys,rfl,rfl,G,O,q⟩:=h;cases N;cases C;obtain⟨j,L,B,_⟩:=I.tuple G;obtain⟨f,R,P,_⟩:=I.tuple O;obtain rfl:j=[]:=L.zero;obtain⟨⟨E,M,o,F⟩,p,z,n,r⟩:=id B;obtain⟨⟨A,l,i,m⟩,e,c,J,g⟩:=id P;simp only at z r c g;subst z r c g
 exact concat_meets ⟨_,p,rfl⟩ ⟨_,e,rfl⟩ noFill_tuple_add seq_tuple_add Qf Qc (P8 _ _)
  (tuple_addW0 a b #[] f.toArray n J M l F m rfl) ⟨p,e,⟨.ref b,H,I,rfl,q⟩⟩
theorem Ar{n:Nat}(hn:n.log2<2000)(hn0:0<n):du X (binaryOp .FloorDiv) (rI (λ_ j=>j=(n:Int)) λi j=>.int (i / j)):=opI λi j _ _ _ _ _ a q=>by
 subst a;refine floordiv_int (by lia) ?_ (.inl<|PyProof.noPylong_of_log2<|by simpa using R4 hn (by decide))
 rw[Int.fdiv_eq_ediv_of_nonneg _ (by lia)]
 exact q
def BW(K:Ng)(b1 b2:Bool)(t:TA):TE:=λZ H Q=>t Z H λb H1=>∃(l1 l2:Addr) (ks:List ax) (ys:List V),b=[.ref l1,.ref l2]/\nG K b1 H1 l1 (ks.map kV)/\nG K b2 H1 l2 ys/\ks.length=ys.length/\0<ks.length/\ks.length<=1000/\
 ∀d,H1 d=none->Q (.ref d) (upd H1 d<|.dK<|(ks.zip ys).foldl (λa p=>cj a p.1 p.2) [])
theorem nn{P:Program}{w:World}:∀{ks:List ax} {us:List Value},Vals (ks.map kV) us->Paired (λk v=>(aO P w).is k v=true) ks us
 |[],_,.nil=>.nil
 |_::_,_,.cons r t=>.cons (i6 r) (nn t)
theorem yk:∀{ks:List ax} {ys:List V} {us:List Value} {kvs:List (ax×V)} {vs:List (ax×Value)},Vals ys us->KV kvs vs->
  KV ((ks.zip ys).foldl (λa p=>cj a p.1 p.2) kvs) ((ks.zip us).foldl (λa p=>stored a p.1 p.2) vs)
 |[],_,_,_,_,_,r=>r
 |_::_,_,_,_,_,.nil,r=>r
 |k::ks,_,_,_,_,.cons ru t,r=>yk (ks:=ks) t (KV.put r k ru)
theorem qC:∀(ps:List (ax×V)) (kvs:List (ax×V)),(ps.foldl (λa p=>cj a p.1 p.2) kvs).length<=kvs.length+ps.length
 |[],kvs=>Ni _
 |p::ps,kvs=>by
  have b:=qC ps (cj kvs p.1 p.2);have c:=dO kvs p.1 p.2;rw[Oe,MZ];lia
theorem tj{a b:Expr}{ta:TA}{p p2 pos pos2:Pos}(b1 b2:Bool)(hc:X.calm=true)(hg:Gl X "zip")(hm:X.mg "zip"=none)(hg2:Gl X "dict")(hm2:X.mg "dict"=none)(ha:PA X [a,b] ta)
  (hs:starEach [a,b] X.env=[(false,eval a X.env),(false,eval b X.env)]:=by rfl) (hs2:starEach [b] X.env=[(false,eval b X.env)]:=by rfl)
  (hs3:starEach [RI (.Name "zip" p2) [a,b] [] pos2] X.env=[(false,eval (.Call (.Name "zip" p2) [a,b] [] pos2) X.env)]:=by rfl):
  PE X (.Call (.Name "dict" p) [.Call (.Name "zip" p2) [a,b] [] pos2] [] pos) (BW X.K b1 b2 ta):=by
 intro y s Z H Q I h;refine Call_ (dS I hg2 hm2 (by decide +kernel:bootBuiltins "dict"=some (.type "dict"))<|NX ?_ hs3 rfl)
 rw[hs3];show wpAny _ _ (spliced ((false,_)::backTo pos [])) _ _ s;refine O0 ?_;refine Call_ (dS I hg hm (by decide +kernel:bootBuiltins "zip"=some (.type "zip"))<|NX (bF (ha pos2 y s Z H _ I h) λA f ⟨vs,H1,I1,r1,R⟩=>?_) (by rw[hs,hs2])<|by rw[hs2];rfl)
 obtain⟨l1,l2,ks,ys,e,R,q2,hl,h0,hz,q⟩:=R;subst e;obtain⟨u1,u2,rfl,N,J⟩:=r1.two;cases N;cases J;obtain⟨v,n,i,z1⟩:=I1.src R;obtain⟨g,x,j,z2⟩:=I1.src q2;refine qq i j λB C E S W h2 G P=>?_;refine Pz ?_;have e1:=n.length;have e2:=x.length;rw[MW]at e1;have D:ZApart (f.heap.objs.size+4) (f.heap.objs.size+2) (f.heap.objs.size+3) f.heap.objs.size (f.heap.objs.size+1):=by constructor<;>exact(show (_:Nat)≠(_:Nat) by lia)
 have lt:∀{c:Bool} {l:Addr} {A:Array Value},SrcSq c f.heap l A->l<f.heap.objs.size:=λ{c l A} z=>by
  cases c with
  |true=>obtain⟨o,e,_⟩:=(show f.heap.IsList l A from z);exact Nc e
  |false=>obtain⟨o,e,_⟩:=(show f.heap.IsTuple l A from z);exact Nc e
 have O:∀{l:Addr},l<f.heap.objs.size->sw (f.heap.objs.size+4) (f.heap.objs.size+3) f.heap.objs.size (f.heap.objs.size+1) l:=λ{l} z=>⟨Np (Nt z<|OD _ _),Np (Nt z<|OD _ _),Np z,Np<|Nt z<|OD _ _⟩;refine mF (s:={ f with heap:=B }) (knd:=aO X.prog X.w) (ks:=ks) (xs:=v) (ys:=g) (I1.ok.hd hc) D (O<|lt i) (O<|lt j) C E ⟨_,_,S⟩ W h2 (i.keep λo e=>P _ o e) (j.keep λo e=>P _ o e) (nn n) (by lia) (by lia) (by lia) ?_
 intro M o1 Y o3 hd m;have F:M.heap.DictOf (aO X.prog X.w) B.objs.size ((ks.zip g).foldl (λa p=>stored a p.1 p.2) []):=hd;have r:=I1.big;have u:∀c o,f.heap.get? c=some o->M.heap.get? c=some o:=λc o e=>by
  have z:=Nc e;exact m c o (Np<|Nt z<|OD _ _) (Np<|Nt z<|OD _ _) (Np z) (Np<|Nt z<|OD _ _) (P c o e)
 have hn:H1 B.objs.size=none:=I1.hok.fresh (by lia)
 obtain⟨hh',T,U,t',L⟩:=M;obtain rfl:L=f.os:=o1;obtain rfl:T=f.gens:=Y;obtain rfl:U=f.drawn:=o3;refine⟨.ref B.objs.size,_,I1.laid (a:=B.objs.size) (o:=.dK ((ks.zip ys).foldl (λa p=>cj a p.1 p.2) [])) (t':=t') u (by lia) ?_,rfl,q _ hn⟩
 refine tS ?_ ?_ (yk x .nil) F
 .have:=qC (ks.zip ys) []
  rw[Pp]at this;have h3:(1000:Nat)<=sizeLine:=by decide
  simp only[Nq]at this;lia
 .exact beq_eq_false_iff_ne.mpr (Pj<|Nt r<|by rw[G];exact OD _ _)
end
end L2
namespace Tw
open PySem L2
end Tw
namespace L2
open PySem PySem.Spec PyProof.Rows
section
variable {X:Cx}
theorem lK{M:Model}{A:Around}{E:Value->Shared->Prop}{s:Shared}{β:Type}{n:Nat}(f:Nat->β->Sem (ForInStep β))(I:Nat->β->Shared->Prop)(Q:β->Shared->Prop)
  (turn:∀i b s,i<n->I i b s->wpAny M A (f i b) (λr s'=>match r with|.yield b'=>I (i+1) b' s'|.done b'=>Q b' s') E s)
  (fin:∀b s,I n b s->Q b s) (b:β) (h:I 0 b s):wpAny M A (forIn [0:n] b f) Q E s:=by
 rw[Std.Legacy.Range.forIn_eq_forIn_range'];have j:([0:n]:RK).size=n:=by simp[Std.Legacy.Range.size]
 show wpAny M A (forIn (Sb 0 ([0:n]:RK).size 1) b f) Q E s;rw[j];refine wpAny_forIn_list f (λl c s=>∃i,i<=n/\l=Sb i (n-i) 1/\I i c s) Q ?_ ?_ _ b ⟨0,N5 _,rfl,h⟩
 .rintro x p c s ⟨i,q,a,m⟩
  have g:i<n:=by
   rcases Q0 i n with h'|h'
   .exact h'
   .rw[show n-i=0 by lia]at a;simp at a
  obtain⟨k,o⟩:∃k,n-i=k+1:=⟨n-i-1,by lia⟩
  rw[o,Q6]at a;obtain⟨rfl,rfl⟩:=List.cons.inj a;refine wpAny_mono (turn x c s g m) (λr s' h'=>?_) λ_ _ e=>e;cases r with
  |done c'=>exact h'
  |yield c'=>exact⟨x+1,by lia,by congr 1;lia,h'⟩
 .rintro c s ⟨i,q,a,m⟩
  have:i=n:=by
   rcases Q0 i n with h'|h'
   .obtain⟨k,o⟩:∃k,n-i=k+1:=⟨n-i-1,by lia⟩
    rw[o,Q6]at a;cases a
   .lia
  subst this;exact fin _ _ m
theorem qB(l:Addr)(items:Array Value)(n:Nat)(dd:Option Addr)(sl:Array (Option Value))(x:Value)(e:Value->Bool)(he:∀y,y∈items->MeetsSeq.EqGives y x (e y))(j:Nat)(hj:j<items.size)(hit:e items[j]=true)
  (hno:∀m (hm:m<items.size),m<j->e items[m]=false):
  Meets (Builtin.«tuple.index» ⟨[.ref l,x],[]⟩) (λ_ R s=>s.heap.get? l=some { cls:=.type "tuple",dict:=dd,data:=.seq items n,slots:=sl }/\R (.ok<|.ret<|.int j s.toks) { s with toks:=s.toks+1 }):=
 .of_wp λc w A R s h=>by
  obtain⟨v,g,d,u,q⟩:=s;obtain⟨B,h⟩:=h
  wp_walk using AutoSeq1.wpAny_loadPart' B
  refine lK (n:=min items.size items.size) _ (λi (b:Option _×_) o=>b.1=none/\i<=j/\o=⟨v,g,d,u,q⟩) _ ?turn ?fin _ ?strt
  case turn=>
   rintro i b o C ⟨z,p,rfl⟩
   have a:i<items.size:=by lia
   have f:items[i]?=some items[i]:=by simp[a]
   simp only[f];refine wpAny_bind (he _ (Array.getElem_mem a) c w _ _ _ _ ?_)
   by_cases r:i=j
   .subst r
    rw[hit]
    wp_walk
    exact⟨_,rfl,h⟩
   .rw[hno i a (by lia)]
    wp_walk
    exact⟨rfl,by lia,rfl⟩
  case fin=>
   rintro⟨E,F⟩ o ⟨z,p,rfl⟩
   lia
  case strt=>
   exact⟨rfl,N5 _,rfl⟩
theorem Inv.tupD{pins:List (Addr×Obj)}{Z:St}{H:Hp}{s:Shared}{a:Addr}{xs:List V}(I:Inv X pins Z H s)(h:H a=some (.tup xs)):
  ∃(its:List Value) (n:Nat) (sl:Array (Option Value)),Vals xs its/\s.heap.get? a=some { cls:=.type "tuple",dict:=none,data:=.seq its.toArray n,slots:=sl }:=by
 obtain⟨z,its,r,⟨cls,f,data,slots⟩,e,⟨c,n,d⟩,b⟩:=I.hok a _ h;simp only at c d b;subst c d b;exact⟨its,n,slots,r,e⟩
theorem fP:∀{names:List Str} {us:List Value},Vals (names.map V.str) us->∀(j:Nat) (h:j<us.length),∃(y:Str) (t:Tok),names[j]?=some y/\us[j]=.str y t
 |[],us,r,j,h=>by cases r;exact absurd h (PX _)
 |x::names,us,r,j,h=>by
  rw[Nb]at r;cases r with
  |cons r1 r2=>
   cases j with
   |zero=>obtain⟨t,rfl⟩:=r1;exact⟨x,t,rfl,rfl⟩
   |succ j=>obtain⟨y,t,a,b⟩:=fP r2 j (by simpa using h);exact⟨y,t,by simpa using a,by simpa using b⟩
def KP:V->List V->Hp->VK->Prop:=λx b H Q=>∃(a:Addr) (names:List Str) (z:Str) (j:Nat),x=.ref a/\b=[.str z]/\H a=some (.tup<|names.map V.str)/\names.length<=1000/\names[j]?=some z/\(∀m,m<j->names[m]?≠some z)/\Q (.int (j:Int)) H
theorem zt:BH X "tuple.index" KP:=by
 intro C s Z H x S v R Q I N O h;obtain⟨a,b,z,j,rfl,rfl,M,P,o,w,q⟩:=h;cases N;obtain⟨u,rfl,G⟩:=O.one;obtain⟨t,rfl⟩:=G;obtain⟨c,n,L,r,e⟩:=I.tupD M;have K:=r.length;rw[MW]at K;have J:j<b.length:=by
  rcases Q0 j b.length with z'|z'
  .exact z'
  .rw[OP z']at o;cases o
 have l:j<c.toArray.size:=by rw[Na];lia
 refine call_meets Ri ⟨_,e,rfl⟩ PySem.F.entry_tuple_index (PySem.F.args_tuple_index_2 _ _)
  (qB a c.toArray n none L (.str z t) (λv=>match v with|.str y _=>y==z|_=>false) (λy E=>?_) j l ?_ λm hm p=>?_) ⟨e,?_⟩
 .obtain⟨m,hm,rfl⟩:=List.getElem_of_mem (by simpa using E:y∈c)
  obtain⟨i,A,f,g⟩:=fP r m hm;rw[g];exact eqGives_str i z A t
 .obtain⟨i,A,f,g⟩:=fP r j (by lia)
  rw[o]at f;cases f;simp[g]
 .obtain⟨i,A,f,g⟩:=fP r m (by rw[Na]at hm;exact hm)
  have B:=w m p;rw[f]at B;have ne:¬i=z:=λe=>B (by rw[e])
  simp[g,ne]
 .exact⟨.int (j:Int),H,I.tok _,⟨_,rfl⟩,q⟩
def tTM(r:V->List V->Hp->VK->Prop)(to:TE)(t:TA):TE:=λZ H Q=>to Z H λx H1=>(∃a b,x=.ref a/\H1 a=some (.tup b))/\t Z H1 λb H2=>r x b H2 Q
theorem LH{o e:Expr}{es:List Expr}{to:TE}{t:TA}{name:Str}{apos cpos:Pos}{id:String}{r:V->List V->Hp->VK->Prop}(slot:Slot "tuple" name id)(hty:typeOf (.builtin id)=pure (.type "method_descriptor"))(hm:BH X id r)(ho:PE X o to)(ha:PA X (e::es) t)
  (hbase:attributeBase o name X.env (eval o X.env)=eval o X.env:=by rfl)
  (hfew:((backTo cpos<|starEach (e::es) X.env).all (λx=>!x.1)&&(backToKw cpos<|keywordEach [] X.env).all (λx=>x.1.isSome)
   && decide ((e::es).length+([]:List Keyword).length+(if ([]:List Keyword).isEmpty then 0 else 1)<30))=true:=by rfl)
  (hline:(apos.endLine==cpos.line)=true:=by rfl) (hs:starEach (e::es) X.env=(false,eval e X.env)::starEach es X.env:=by rfl) (hplain:(backTo cpos<|starEach es X.env).any (·.1)=false:=by rfl):
  PE X (.Call (.Attribute o name apos) (e::es) [] cpos) (tTM r to t):=by
 intro c s Z H Q I h;refine wpAny_Call_method_late hbase hfew hline rfl (bF (ho c s Z H _ I h) λv i ⟨x,H1,I1,y,⟨a,E,A,l⟩,z⟩=>?_);subst A;cases y;obtain⟨m,n,C,G,g⟩:=I1.tupD l;refine⟨"tuple",id,PySem.F.plainAttrs_tuple,slot,hty,⟨_,g,rfl⟩,λb B=>by cases B;exact⟨_,g,rfl⟩,?_⟩
 have f:=ha cpos c i Z H1 _ I1 z;rw[hs]at f ⊢;refine PB (by show (false||(backTo cpos<|starEach es X.env).any (·.1))=false;rw[hplain]<;>rfl) (Pc ?_)
 exact bF f λp j ⟨u,H2,I2,w,q⟩=>hm c j Z H2 (.ref a) u _ p Q I2 rfl w q
end
theorem fD{h base:Heap}{S:List Addr}:∀{l:List Env},h.FunFrames base l->(∀b∈g8 l,b∈S)->h.FunFrames (Rf h S) l
 |[],_,_=>trivial
 |env::r,hl,hs=>by
  obtain⟨f,⟨L,o,a,m,c,e⟩,j⟩:=hl;have i:L∈S:=hs L (by unfold g8;rw[OW,a];exact P6)
  exact⟨f,⟨L,o,a,W.hideAll_none S i,c,e⟩,fD j λb g=>hs b (by unfold g8;rw[OW,a];exact Nk _ g)⟩
def rY(P:Program)(w:World)(C:Addr):pq:=λa H s E e c=>∃(ea:Addr) (H':Hp) (B:Heap) (a0:Value),e=.ref ea/\c.os=s.os/\AllBare c.gens/\Un (g8 a) [] H H' s.heap c.heap/\HOk P w H' c.heap/\
 Heap.FlyingW B a ea (.ref C) a0 c.heap/\(∀b u,H' b=some u->∃o,B.get? b=some o)/\(∀b o,s.heap.get? b=some o->b∉g8 a->∃o',B.get? b=some o')/\E (.ref C) none H'
theorem oS{P:Program}{w:World}{H:Hp}{h h' B:Heap}(hok:HOk P w H h)(k:B.StaysIn h)(k':B.StaysIn h')(sT:∀b u,H b=some u->∃o,B.get? b=some o):HOk P w H h':=λa o e=>
 (hok a o e).stay (λb u f q=>by
  obtain⟨v,c⟩:∃v,B.get? b=some v:=by
   rcases f with rfl|z
   .exact sT _ _ e
   .exact sT _ _ z
  have:=k b v c;rw[q]at this;cases this;exact k' b _ c) (λ_ q=>q) λ_ _ q=>q
theorem sW{fs:List Addr}{H H':Hp}{h h1 h2 B:Heap}(un:Un fs [] H H' h h1)(k1:B.StaysIn h1)(k2:B.StaysIn h2)(up:h1.UpToSlots h2)(sA:∀b o,h.get? b=some o->b∉fs->∃o',B.get? b=some o')
  (nf:∀b∈fs,∀o,h.get? b=some o->∀vs,o.data≠.fields vs) (fr:∀b∈fs,H b=none):Un fs [] H H' h h2 where
 keep:=λb o q n a g=>by
  have e:=un.keep b o q n a g;obtain⟨o',c⟩:=sA b o q a;have:=k1 b o' c;rw[e]at this;cases this;exact k2 b _ c
 slot:=λb o q n a g=>by
  obtain⟨j,e⟩:=un.slot b o q n a g;obtain⟨f,i⟩:=up b _ e (nf b a o q);exact⟨f,i⟩
 free:=un.free
 there:=λb o q g=>by
  by_cases a:b∈fs
  .obtain⟨j,e⟩:=un.slot b o q (fr b a) a g
   obtain⟨f,i⟩:=up b _ e (nf b a o q);exact⟨_,i⟩
  .obtain⟨o',c⟩:=sA b o q a
   exact⟨o',k2 b o' c⟩
 tups:=un.tups
 frzs:=un.frzs
 tbls:=un.tbls
section
variable {P:Program}{w:World}{K:Ng}{mg:Str->Option Value}{base:Heap}{N:List Str}{qual:Str}{scope:Scope}{f C:Addr}{cd:Value}{A:Around}{outer:List Env}{s0:Shared}{H0:Hp}{E:XK}
theorem qg{env:Env}{L:Addr}{l:List Env}(h:env.frame=some L):g8 (env::l)=L::g8 l:=by unfold g8;rw[OW,h]
theorem KE:ck (rY P w C) (dU (rY P w C) P w K mg base N qual scope f cd A outer s0 H0 E) E:=by
 intro R Z H s e s' I a;obtain⟨L,H',B,T,rfl,F,g,un,M,j,S,J,Y⟩:=a;have G:(dU (rY P w C) P w K mg base N qual scope f cd A outer s0 H0 E).stack=envOfC qual scope s0.heap.objs.size f cd::outer:=rfl;have p:(envOfC qual scope s0.heap.objs.size f cd).frame=some s0.heap.objs.size:=rfl;have r:g8 (envOfC qual scope s0.heap.objs.size f cd::outer)=s0.heap.objs.size::g8 outer:=qg p;rw[G]at un j J;show wpAny (model P w) (A.deeper<|envOfC qual scope s0.heap.objs.size f cd) (leaving (envOfC qual scope s0.heap.objs.size f cd)<|.ref L) (λ_ l=>rY P w C outer H0 s0 E (.ref L) l) (λe' l=>rY P w C outer H0 s0 E e' l) s';refine wpAny_leaves_onW I.ok.frames p j λh' h y=>?_;have i:Un (g8 outer) [] H0 H s0.heap s.heap:=I.base;have nofr:∀{b:Addr} {o:Obj},s0.heap.get? b=some o->b∉g8 outer->b∉g8 (envOfC qual scope s0.heap.objs.size f cd::outer):=λ{b o} q g z=>by
  rw[r]at z;rcases Nl.mp z with e|z
  .exact Ou _ (e▸Nc q)
  .exact g z
 have c:Un (g8 (envOfC qual scope s0.heap.objs.size f cd::outer)) [] H H' s.heap h':=by
  refine sW un j.1 h.1 y J (λb g o q vs=>?_) λb g=>?_
  .obtain⟨_,o',v,U⟩:=I.stack.mem (show b∈_ from g)
   rw[q]at v;cases v;exact U vs
  .exact I.stkFree b g
 refine⟨L,H',B,T,rfl,F.trans I.os,g,?_,oS M j.1 h.1 S,h,S,λb o q g=>?_,Y⟩
 .refine⟨λb o q n g a=>?_,λb o q n g a=>?_,λb o q n a=>?_,λb o q a=>?_,λb Q q=>c.tups b Q (i.tups b Q q),λb o u q=>c.frzs b o u (i.frzs b o u q),λb ps q=>?_⟩
  .exact c.keep b o (i.keep b o q n g a) (i.free b o q n a) (nofr q g) a
  .obtain⟨sl,m⟩:=i.slot b o q n g a
   obtain⟨O,q2⟩:=c.slot b _ m (i.free b o q n a) (by rw[r];exact Nk _ g) a
   exact⟨O,q2⟩
  .obtain⟨x,m⟩:=i.there b o q a
   exact c.free b x m (i.free b o q n a) a
  .obtain⟨x,m⟩:=i.there b o q a
   exact c.there b x m a
  .obtain⟨X,e1⟩:=i.tbls b ps q
   obtain⟨W,e2⟩:=c.tbls b _ e1;exact⟨X++W,by rw[e2,QF]⟩
 .obtain⟨x,m⟩:=i.there b o q (by simp)
  exact J b x m (nofr q g)
structure ExcAt(K:Ng)(C:Addr):Prop where
 at_:∃(nm q:Str) (Nn:Addr) (bs bm bmB:List Value) (hdct:Bool) (sn:List Str) (sub:List Value) (ab:Bool) (col:Option Bool) (dd:Option Addr) (k0 k1 k2 k3 k5:Option Value) (newId initId Bs:String) (mN:Str->Option Value),
  (∀h:Heap,K.In h->h.get? C=some (excClassObj nm q C Nn bs bm hdct sn sub ab col dd k0 k1 k2 k3 k5 newId)/\h.Ns Nn mN/\OwnTail h bmB bm)/\mN "__init__"=none/\ExcBaseFacts Bs newId initId bmB/\bmB.contains (.type Bs)=true/\bm.contains (.type "BaseException")=true
theorem ObjOk.obj{P:Program}{w:World}{H:Hp}{h:Heap}{a:Addr}{o:HO}(x:ObjOk P w H h a o):∃v,h.get? a=some v:=by
 cases o with
 |lst xs=>obtain⟨_,_,_,_,e⟩:=x;exact⟨_,e⟩
 |tup xs=>obtain⟨_,_,_,_,e,_⟩:=x;exact⟨_,e⟩
 |dK kvs=>obtain⟨_,_,_,_,o,_,_,e,_⟩:=x;exact⟨_,e⟩
 |dT kvs=>obtain⟨_,_,_,_,o,_,_,e,_⟩:=x;exact⟨_,e⟩
 |set S n=>obtain⟨o,_,_,_,e,_⟩:=x;exact⟨_,e⟩
 |ins C dx fs=>obtain⟨_,_,_,e,_⟩:=x;exact⟨_,e⟩
 |own y=>obtain⟨_,e⟩:=x;exact⟨_,e⟩
 |xd fs=>obtain⟨_,⟨_,_,_,e,_⟩,_⟩:=x;exact⟨_,e⟩
 |rng lo hi=>obtain⟨_,_,_,e⟩:=x;exact⟨_,e⟩
 |frz ob u=>obtain⟨e,_⟩:=x;exact⟨_,e⟩
 |tbl ps=>exact⟨_,(show h.get? a=some _ from x)⟩
 |met f y=>exact⟨_,(show h.get? a=some _ from x)⟩
 |ext φ=>obtain⟨_,⟨_,e⟩,_⟩:=x;exact⟨_,e⟩
theorem F5{fs:List Addr}{L:Addr}{H0 H H':Hp}{h0 h h':Heap}(u1:Un fs [] H0 H h0 h)(un2:Un (L::fs) [] H H' h h')(hL:h0.objs.size<=L):Un fs [] H0 H' h0 h':=by
 have nofr:∀{b:Addr} {o:Obj},h0.get? b=some o->b∉fs->b∉L::fs:=λ{b o} q c z=>by
  rcases Nl.mp z with e|z
  .exact Ou _ (Nt (e▸Nc q) hL)
  .exact c z
 refine⟨λb o q n c a=>un2.keep b o (u1.keep b o q n c a) (u1.free b o q n a) (nofr q c) a,λb o q n c a=>?_,λb o q n a=>?_,λb o q a=>?_,λb l q=>un2.tups b l (u1.tups b l q),λb o u q=>un2.frzs b o u (u1.frzs b o u q),λb x q=>?_⟩
 .obtain⟨y,g⟩:=u1.slot b o q n c a
  obtain⟨j,m⟩:=un2.slot b _ g (u1.free b o q n a) (Nk _ c) a;exact⟨j,m⟩
 .obtain⟨i,g⟩:=u1.there b o q a
  exact un2.free b i g (u1.free b o q n a) a
 .obtain⟨i,g⟩:=u1.there b o q a
  exact un2.there b i g a
 .obtain⟨s,p⟩:=u1.tbls b x q
  obtain⟨r,v⟩:=un2.tbls b _ p;exact⟨s++r,by rw[v,QF]⟩
def tO(E:XK)(C:Addr):TS:=λ_ _ H=>E (.ref C) none H
theorem AY{x msg:Str}{np cpos pos apos:Pos}{jj}(X:ExcAt K C)(hm:mg x=some (.ref C))(hg:Gl (dU (rY P w C) P w K mg base N qual scope f cd A outer s0 H0 E) x)
  (hd:(x==("__debug__":Str))=false:=by decide)
  (hs:starEach [.Constant (.str msg) jj apos] (dU (rY P w C) P w K mg base N qual scope f cd A outer s0 H0 E).env=[(false,eval (.Constant (.str msg) jj apos) (dU (rY P w C) P w K mg base N qual scope f cd A outer s0 H0 E).env)]:=by rfl):
  PS (dU (rY P w C) P w K mg base N qual scope f cd A outer s0 H0 E) (.Raise (some<|.Call (.Name x np) [.Constant (.str msg) jj apos] [] cpos) none pos) (tO E C):=by
 intro G s Z H D I h;obtain⟨nm,q,Nn,bs,bm,bmB,hdct,sn,sub,ab,col,dd,k0,k1,k2,k3,k5,S,O,Bs,mN,hX,U,FB,hBs,g⟩:=X.at_
 refine wpAny_Raise_call_subU (C:=C) (nm:=nm) (q:=q) (N:=Nn) (bs:=bs) (bm:=bm) (hdct:=hdct) (sn:=sn) (sub:=sub) (ab:=ab) (col:=col) (dd:=dd) (k0:=k0) (k1:=k1) (k2:=k2) (k3:=k3) (k5:=k5) FB hBs FB (mN:=mN) g (I.ok.hd rfl) (by rw[hs];rfl) U
  (gM I hg hm ⟨rfl,?_⟩ hd)
 have hA:=(vY tq Aq hs) cpos G s Z H (λxs H1=>xs.length=1/\E (.ref C) none H1) I ⟨rfl,h⟩;rw[hs]at hA ⊢;refine Pc (wpAny_mono hA (λvs a L=>?_) λ_ _ y=>y);obtain⟨vv,H1,I1,r,M,hE⟩:=L;obtain⟨hC,hN,T⟩:=hX a.heap I1.kIn;refine⟨rfl,?_,hC,hN,T,λh' e hx=>?_⟩
 .show vs.length<=sizeLine
  rw[<- r.length,M]
  decide
 have p:(envOfC qual scope s0.heap.objs.size f cd).frame=some s0.heap.objs.size:=rfl;have B:g8 (envOfC qual scope s0.heap.objs.size f cd::outer)=s0.heap.objs.size::g8 outer:=qg p;have kB:(Rf a.heap<|g8 (envOfC qual scope s0.heap.objs.size f cd::outer)).StaysIn a.heap:=λb o e=>W.of_hideAll _ e;show wpAny (model P w) (A.deeper<|envOfC qual scope s0.heap.objs.size f cd) (leaving (envOfC qual scope s0.heap.objs.size f cd)<|.ref e) (λ_ i=>rY P w C outer H0 s0 E (.ref e) i) (λe' i=>rY P w C outer H0 s0 E e' i) _;refine wpAny_leaves_madeW I1.ok.frames p kB (fD I1.stack λb c=>c) hx λF t j _ _ Q=>?_;have R:a.heap.UpToSlots F:=(Heap.UpToSlots.of_keeps hx.keeps).trans Q;have l:∀{b:Addr} {o:Obj},a.heap.get? b=some o->b∉g8 (envOfC qual scope s0.heap.objs.size f cd::outer)->(Rf a.heap<|g8 (envOfC qual scope s0.heap.objs.size f cd::outer)).get? b=some o:=λe n=>W.hideAll_get _ e n;have sT:∀b u,H1 b=some u->∃o,(Rf a.heap<|g8 (envOfC qual scope s0.heap.objs.size f cd::outer)).get? b=some o:=λb u e=>by
  obtain⟨v,hv⟩:=ObjOk.obj (I1.hok b u e);exact⟨v,l hv λz=>by rw[I1.stkFree b z]at e;cases e⟩
 have m:Un (g8 (envOfC qual scope s0.heap.objs.size f cd::outer)) [] H1 H1 a.heap F:=by
  refine sW Un.refl kB j.1 R (λb o q c=>⟨o,l q c⟩) (λb c o q vs=>?_) λb c=>I1.stkFree b c;obtain⟨_,o',J,Y⟩:=I1.stack.mem (show b∈_ from c);rw[q]at J;cases J;exact Y vs
 rw[B]at m;refine⟨e,H1,_,.ref t,rfl,I1.os,I1.bare,F5 I1.base m (Ni _),oS I1.hok kB j.1 sT,j,sT,λb o q c=>?_,hE⟩;obtain⟨o1,q1⟩:=I1.base.there b o q (λz=>absurd (show b∈([]:List Addr) from z) (by simp))
 refine⟨o1,l q1 λz=>?_⟩;rw[B]at z;rcases Nl.mp z with e'|z
 .exact Ou _ (e'▸Nc q)
 .exact c z
end
abbrev Cx.marked(X:Cx)(e:Value):Cx:={ X with A:=X.A.mark (some e),calm:=false,xe:=λ_ _=>False }
section
variable {X:Cx}{pins:List (Addr×Obj)}{Z:St}{H:Hp}{s:Shared}{e:Value}
theorem Cx.Ok.mark(ok:X.Ok)(e:Value):(X.marked e).Ok:=
 ⟨ok.mod,ok.kind,ok.glob,ok.blt,ok.above,ok.inj,ok.has,ok.cab,λz=>(Bool.noConfusion z),ok.frames,ok.stk,ok.exf,ok.bs,ok.bsz,ok.noex,ok.exfs,ok.funs,ok.frf⟩
theorem Inv.mark(I:Inv X pins Z H s)(e:Value):Inv (X.marked e) pins Z H s:=⟨I.ok.mark e,I.os,I.bare,I.base,I.loc,I.cell,I.free,I.freeC,I.pin,I.hok,I.len⟩
theorem Inv.unmark(ok:X.Ok)(I:Inv (X.marked e) pins Z H s):Inv X pins Z H s:=⟨ok,I.os,I.bare,I.base,I.loc,I.cell,I.free,I.freeC,I.pin,I.hok,I.len⟩
theorem SP.unmark{D:Ends}{f:Flow}{s':Shared}(ok:X.Ok)(h:SP (X.marked e) pins D f s'):SP X pins D f s':=by
 cases f with
 |next=>obtain⟨a,H',I,q⟩:=h;exact⟨a,H',I.unmark ok,q⟩
 |brk=>obtain⟨a,H',I,q⟩:=h;exact⟨a,H',I.unmark ok,q⟩
 |cont=>obtain⟨a,H',I,q⟩:=h;exact⟨a,H',I.unmark ok,q⟩
 |ret u=>obtain⟨v,a,H',I,r,q⟩:=h;exact⟨v,a,H',I.unmark ok,r,q⟩
def Bx(C:Addr)(sp:Sp)(dvs:List V)(ta:TA)(ts:TS):TS:=λD Z H=>ta Z H λa H1=>sp (a++dvs) H1 (λ_ H2=>D.nx Z H2) (λ_ _ H2=>ts D Z H2)
theorem ug{C f:Addr}{k:Nat}{fd:FuncData}{ps:List Str}{sp:Sp}{dvs:List V}{ds:List Value}{x cx:Str}{p cp ep np hpos pos:Pos}{e:Expr}{es:List Expr}{ta:TA}{b₀:Stmt}{suite:List Stmt}{ts:TS}
  (hst:X.stack=X.env::X.outer) (hfL:X.env.frame=some X.env.locals) (F:FnOk X.prog X.w X.K X.mg X.base (rY X.prog X.w C) k f fd ps sp) (hr:Room k X.A) (hg:Gl X x) (hm:X.mg x=some (.ref f)) (hk:Pw X.K (.ref f)=true) (hb:Binds X.K fd ps ds) (hd:Vals dvs ds)
  (ha:PA X.nox (e::es) ta) (EX:ExcAt X.K C) (hgC:Gl X cx) (hmC:X.mg cx=some (.ref C)) (hsu:∀ea:Addr,wo (X.marked<|.ref ea) (b₀::suite) ts)
  (hdb:(x==("__debug__":Str))=false:=by decide) (hdC:(cx==("__debug__":Str))=false:=by decide) (he:starEach (e::es) X.env=(false,eval e X.env)::starEach es X.env:=by rfl) (hpl:(backTo cp<|starEach es X.env).any (·.1)=false:=by rfl)
  (hsw:swapsWith (.Call (.Name x p) (e::es) [] cp) none ep.line X.env=pure false:=by rfl):
  PS X (.Try [.Expr (.Call (.Name x p) (e::es) [] cp) ep] [.ExceptHandler (some<|.Name cx np) none (b₀::suite) hpos] [] [] pos) (Bx C sp dvs ta ts):=by
 intro pins s Z H D I h;refine wpAny_Try_except (wpAny_execs_cons<|wpAny_Expr_any ?_ I.quiet hsw);refine wpAny_Call_Name_kw (gM I hg hm ?_ hdb);refine Q8 (h₀:=X.base) I.ok.mod.kin hk (wpAny_mono (ha cp pins s Z H _ (I.wish _) h) (λy N ⟨n,H1,I1',r,q⟩=>?_) λ_ _ z=>Ov z) he hpl;have I1:Inv X pins Z H1 N:=I1'.unwish;refine⟨I1.kIn,?_⟩;have r2:Vals (n++dvs) (y++ds):=r.append hd;have hl:(y++ds).length=ps.length:=by rw[<- r2.length];exact F.len _ _ _ _ q
 refine wpAny_call (codeAny_mono (F.run X.A X.stack N H1 ⟨y,[]⟩ (y++ds) (n++dvs) _ _ hr I1.env0 (hb N y I1.kIn hl) r2 q) λrr s' G=>?_);cases rr with
 |ok fl=>
  cases fl with
  |ret u=>
   obtain⟨x',H2,I2,_,q2⟩:=I1.after G;exact wpAny_execs_nil (wpAny_execs_nil ⟨Z,H2,I2,q2⟩)
  |next=>exact Ov G
  |brk=>exact Ov G
  |cont=>exact Ov G
 |error er=>
  obtain⟨ea,H',B,a0,rfl,P,i,un,R,g,sT,sA,hE⟩:=G;obtain⟨nm,qn,Nn,bs,bm,bmB,hdct,sn,sub,ab,col,dd,k0,k1,k2,k3,k5,T,O,Bs,mN,hX,hni,FB,hBs,l⟩:=EX.at_;have nf:∀b∈g8 X.stack,∀o,N.heap.get? b=some o->∀n,o.data≠.fields n:=λb m o U n=>by
   obtain⟨_,o',L,Q⟩:=I1.stack.mem (show b∈_ from m);rw[U]at L;cases L;exact Q n
  have a:∀E:Heap,B.StaysIn E->s'.heap.UpToSlots E->Inv X pins Z H' { s' with heap:=E }:=λE k up=>
   I1.call' (s':={ s' with heap:=E }) P (sW un g.1 k up sA nf λb m=>I1.stkFree b m) (oS R g.1 k sT) i λb z=>absurd (show b∈([]:List Addr) from z) (by simp)
  rw[hst]at g;have W:X.A.frames=some (X.env::X.outer):=by rw[<- hst];exact I1.ok.frames
  refine wpAny_looks_onW W hfL g λh4 j up4=>?_;refine wpAny_landsW j λh5 c v=>?_;have I5:=(a h5 c.1<|up4.trans v).mark (.ref ea);obtain⟨hC,_,_⟩:=hX h5 I5.kIn;obtain⟨ob,S,M⟩:=c.there;refine wpAny_handleBy_cons (codeAny_handlers_test<|gM I5 hgC hmC ?_ hdC) (by intro U;cases U)
  refine wpAny_excMatches_sub_self hC S M l (codeAny_handlers_suite ?_);refine lands_againW c λh6 J Y=>?_;have I6:=(a h6 J.1<|(up4.trans v).trans Y).mark (.ref ea);exact wpAny_mono (hsu ea pins _ Z H' D I6 hE) (λfl s7 q7=>q7.unmark I.ok) λ_ _ z=>Ov z
end
end L2
namespace L3
open PySem L2
inductive D where
 |non|bl (b:Bool)|int (i:Int)|str (x:Str)|ty (n:String)|ref (a:Addr)|tup (xs:List D)|lst (xs:List D)|mt (xs:List D)|ml (xs:List D)
def TpD(_:Ng)(H:Hp)(p:Addr)(vs:List V):Prop:=H p=some (.tup vs)
def TpM(K:Ng)(p:Addr)(vs:List V):Prop:=∃(o:Obj) (its:Array Value) (n:Nat),K.lookup p=some o/\o.cls=.type "tuple"/\o.data=.seq its n/\its.size<=sizeLine/\Vals vs its.toList
def FzD(K:Ng)(H:Hp)(p:Addr)(vs:List V):Prop:=
 ∃o,H p=some (.frz o<|.lst vs)
def FzK(K:Ng)(H:Hp)(p:Addr)(vs:List V):Prop:=(∃o,H p=some (.frz o<|.lst vs))\/∃(o:Obj) (its:Array Value) (n:Nat),K.lookup p=some o/\o.cls=.type "list"/\o.dict=none/\o.data=.seq its n/\its.size<=sizeLine/\Vals vs its.toList
theorem FzK.sq{K:Ng}{H:Hp}{p:Addr}{vs:List V}(h:FzK K H p vs):SqL K H p vs:=h.imp (λ⟨o,e⟩=>.inr ⟨o,e⟩) λx=>x
theorem TpD.sq{K:Ng}{H:Hp}{p:Addr}{vs:List V}(h:TpD K H p vs):iE K H p vs:=.inl (.inl h)
theorem TpM.sq{K:Ng}{H:Hp}{p:Addr}{vs:List V}(h:TpM K p vs):iE K H p vs:=.inr h
theorem FzD.sq{K:Ng}{H:Hp}{p:Addr}{vs:List V}(h:FzD K H p vs):SqL K H p vs:=by
 obtain⟨o,h⟩:=h;exact .inl (.inr ⟨o,h⟩)
mutual
def Rp(K:Ng)(H:Hp):D->V->Prop
 |.non,v=>v=.non
 |.bl b,v=>v=.bl b
 |.int i,v=>v=.int i
 |.str x,v=>v=.str x
 |.ty n,v=>v=.ty n
 |.ref a,v=>v=.ref a
 |.tup xs,v=>∃p vs,v=.ref p/\TpD K H p vs/\Rps K H xs vs
 |.lst xs,v=>∃p vs,v=.ref p/\FzD K H p vs/\Rps K H xs vs
 |.mt xs,v=>∃p vs,v=.ref p/\TpM K p vs/\Rps K H xs vs
 |.ml xs,v=>∃p vs,v=.ref p/\FzK K H p vs/\Rps K H xs vs
def Rps(K:Ng)(H:Hp):List D->List V->Prop
 |[],vs=>vs=[]
 |x::xs,vs=>∃v r,vs=v::r/\Rp K H x v/\Rps K H xs r
end
structure Imm(H H':Hp):Prop where
 tup:∀p vs,H p=some (.tup vs)->H' p=some (.tup vs)
 frz:∀p o u,H p=some (.frz o u)->H' p=some (.frz o u)
theorem Imm.refl{H:Hp}:Imm H H:=⟨λ_ _ e=>e,λ_ _ _ e=>e⟩
theorem TpD.mono{K:Ng}{H H':Hp}{p:Addr}{vs:List V}(i:Imm H H')(h:TpD K H p vs):TpD K H' p vs:=i.tup _ _ h
theorem FzK.mono{K:Ng}{H H':Hp}{p:Addr}{vs:List V}(i:Imm H H')(h:FzK K H p vs):FzK K H' p vs:=h.imp (λ⟨o,e⟩=>⟨o,i.frz _ _ _ e⟩) λx=>x
theorem FzD.mono{K:Ng}{H H':Hp}{p:Addr}{vs:List V}(i:Imm H H')(h:FzD K H p vs):FzD K H' p vs:=let ⟨o,e⟩:=h;⟨o,i.frz _ _ _ e⟩
mutual
theorem Rp.mono{K:Ng}{H H':Hp}(i:Imm H H'):∀{d:D} {v:V},Rp K H d v->Rp K H' d v
 |.non,_,h=>h
 |.bl _,_,h=>h
 |.int _,_,h=>h
 |.str _,_,h=>h
 |.ty _,_,h=>h
 |.ref _,_,h=>h
 |.tup _,_,h=>by
  obtain⟨p,a,e,t,r⟩:=h;exact⟨p,a,e,t.mono i,Rps.mono i r⟩
 |.lst _,_,h=>by
  obtain⟨p,a,e,t,r⟩:=h;exact⟨p,a,e,t.mono i,Rps.mono i r⟩
 |.mt _,_,h=>by
  obtain⟨p,a,e,t,r⟩:=h;exact⟨p,a,e,t,Rps.mono i r⟩
 |.ml _,_,h=>by
  obtain⟨p,a,e,t,r⟩:=h;exact⟨p,a,e,t.mono i,Rps.mono i r⟩
theorem Rps.mono{K:Ng}{H H':Hp}(i:Imm H H'):∀{ds:List D} {vs:List V},Rps K H ds vs->Rps K H' ds vs
 |[],_,h=>h
 |_::_,_,h=>by
  obtain⟨v,r,e,a,b⟩:=h;exact⟨v,r,e,Rp.mono i a,Rps.mono i b⟩
end
section
variable {K:Ng}{H H':Hp}
theorem Rps.nil:Rps K H [] []:=rfl
theorem Rps.cons{d:D}{v:V}{ds:List D}{vs:List V}(a:Rp K H d v)(b:Rps K H ds vs):Rps K H (d::ds) (v::vs):=⟨v,vs,rfl,a,b⟩
theorem Rps.length:∀{ds:List D} {vs:List V},Rps K H ds vs->ds.length=vs.length
 |[],_,h=>by cases h;rfl
 |_::_,_,h=>by obtain⟨v,r,rfl,_,b⟩:=h;simp[b.length]
theorem Rps.get:∀{ds:List D} {vs:List V},Rps K H ds vs->∀{i:Nat} {d:D},ds[i]?=some d->∃v,vs[i]?=some v/\Rp K H d v
 |[],_,_,i,d,e=>by simp at e
 |x::xs,_,h,i,d,e=>by
  obtain⟨v,r,rfl,a,b⟩:=h;cases i with
  |zero=>simp at e;subst e;exact⟨v,by simp,a⟩
  |succ i=>simpa using b.get (by simpa using e)
theorem Rps.append:∀{ds es:List D} {vs ws:List V},Rps K H ds vs->Rps K H es ws->Rps K H (ds++es) (vs++ws)
 |[],_,_,_,h,g=>by cases h;exact g
 |_::_,_,_,_,h,g=>by
  obtain⟨v,r,rfl,a,b⟩:=h;exact⟨v,_,rfl,a,b.append g⟩
theorem Rps.take:∀{ds:List D} {vs:List V} (n:Nat),Rps K H ds vs->Rps K H (ds.take n) (vs.take n)
 |[],_,n,h=>by cases h;simp[Rps]
 |_::_,_,0,h=>rfl
 |_::_,_,n+1,h=>by
  obtain⟨v,r,rfl,a,b⟩:=h;exact⟨v,_,rfl,a,b.take n⟩
theorem Rps.drop:∀{ds:List D} {vs:List V} (n:Nat),Rps K H ds vs->Rps K H (ds.drop n) (vs.drop n)
 |[],_,n,h=>by cases h;simp[Rps]
 |_::_,_,0,h=>h
 |_::_,_,n+1,h=>by
  obtain⟨v,r,rfl,a,b⟩:=h;exact b.drop n
theorem Rps.set{d:D}{v:V}(a:Rp K H d v):∀{ds:List D} {vs:List V} (i:Nat),Rps K H ds vs->Rps K H (ds.set i d) (vs.set i v)
 |[],_,_,h=>by cases h;rfl
 |_::_,_,0,h=>by obtain⟨w,r,rfl,_,b⟩:=h;exact⟨v,r,rfl,a,b⟩
 |_::_,_,i+1,h=>by obtain⟨w,r,rfl,c,b⟩:=h;exact⟨w,_,rfl,c,b.set a i⟩
theorem Rps.reverse:∀{ds:List D} {vs:List V},Rps K H ds vs->Rps K H ds.reverse vs.reverse
 |[],_,h=>by cases h;rfl
 |_::_,_,h=>by
  obtain⟨v,r,rfl,a,b⟩:=h;simp only[QS];exact b.reverse.append (.cons a .nil)
theorem Rps.dropLast{ds:List D}{vs:List V}(h:Rps K H ds vs):Rps K H ds.dropLast vs.dropLast:=by
 rw[R5,R5,h.length];exact h.take _
theorem Rps.eraseIdx:∀{ds:List D} {vs:List V} (i:Nat),Rps K H ds vs->Rps K H (ds.eraseIdx i) (vs.eraseIdx i)
 |[],_,_,h=>by cases h;rfl
 |_::_,_,0,h=>by obtain⟨w,r,rfl,_,b⟩:=h;exact b
 |_::_,_,i+1,h=>by obtain⟨w,r,rfl,c,b⟩:=h;exact⟨w,_,rfl,c,b.eraseIdx i⟩
theorem rS:∀{is:List Int} {vs:List V},vs=is.map V.int->Rps K H (is.map D.int) vs
 |[],_,e=>e
 |i::is,_,e=>by subst e;exact⟨_,_,rfl,rfl,rS rfl⟩
end
inductive MO where
 |lst (xs:List D)
 |dK (kvs:List (ax×D))
 |dT (kvs:List (List ax×D))
 |ins (C:Addr) (fs:List (Str×D))
abbrev Mem:=Addr->Option MO
def Mem.upd(M:Mem)(a:Addr)(o:MO):Mem:=λb=>if b=a then some o else M b
def Mem.del(M:Mem)(a:Addr):Mem:=λb=>if b=a then none else M b
def Rkv{κ:Type}(K:Ng)(H:Hp):List (κ×D)->List (κ×V)->Prop:=Paired λp q=>p.1=q.1/\Rp K H p.2 q.2
def RepO(K:Ng)(H:Hp)(a:Addr):MO->Prop
 |.lst xs=>∃vs,H a=some (.lst vs)/\Rps K H xs vs
 |.dK kvs=>∃ws,H a=some (.dK ws)/\Rkv K H kvs ws
 |.dT kvs=>∃ws,H a=some (.dT ws)/\Rkv K H kvs ws
 |.ins C fs=>∃dx ws,H a=some (.ins C dx ws)/\Rkv K H fs ws
def RepH(K:Ng)(H:Hp)(M:Mem):Prop:=∀a o,M a=some o->RepO K H a o
section
variable {K:Ng}{H H':Hp}{M:Mem}{a b:Addr}{o:MO}{u:HO}
@[simp] theorem Mem.upd_same:(M.upd a o) a=some o:=by simp[Mem.upd]
theorem ag(h:b≠a):(M.upd a o) b=M b:=by simp[Mem.upd,h]
@[simp] theorem Mem.upd_upd {o':MO}:(M.upd a o).upd a o'=M.upd a o':=by funext c;simp[Mem.upd];split<;>rfl
@[simp] theorem Mem.upd_del:(M.upd a o).del a=M.del a:=by funext c;simp[Mem.upd,Mem.del];split<;>rfl
theorem af(h:M a=none):M.del a=M:=by
 funext c;simp only[Mem.del];split
 .rename_i e;rw[e,h]
 .rfl
theorem aR{o':MO}(h:a≠b):(M.upd a o).upd b o'=(M.upd b o').upd a o:=by
 funext c;simp only[Mem.upd];split
 .rename_i e;rw[e,if_neg (N8 h)]
 .rfl
theorem Mem.ne{o:MO}(h:M a=some o)(h':M b=none):a≠b:=by intro e;subst e;rw[h]at h';cases h'
theorem Rkv.mono{κ:Type}{kvs:List (κ×D)}{ws:List (κ×V)}(i:Imm H H')(h:Rkv K H kvs ws):Rkv K H' kvs ws:=dR h λ_ _ z=>⟨z.1,z.2.mono i⟩
theorem RepO.obj(r:RepO K H a o):∃u,H a=some u:=by
 cases o with
 |lst xs=>obtain⟨c,e,_⟩:=r;exact⟨_,e⟩
 |dK xs=>obtain⟨c,e,_⟩:=r;exact⟨_,e⟩
 |dT xs=>obtain⟨c,e,_⟩:=r;exact⟨_,e⟩
 |ins C fs=>obtain⟨f,c,e,_⟩:=r;exact⟨_,e⟩
theorem RepO.keep(r:RepO K H a o)(i:Imm H H')(e:H' a=H a):RepO K H' a o:=by
 cases o with
 |lst xs=>obtain⟨c,q,z⟩:=r;exact⟨c,e.trans q,z.mono i⟩
 |dK xs=>obtain⟨c,q,z⟩:=r;exact⟨c,e.trans q,z.mono i⟩
 |dT xs=>obtain⟨c,q,z⟩:=r;exact⟨c,e.trans q,z.mono i⟩
 |ins C fs=>obtain⟨f,c,q,z⟩:=r;exact⟨f,c,e.trans q,z.mono i⟩
theorem RepH.fresh(r:RepH K H M)(h:H a=none):M a=none:=by
 cases e:M a with
 |none=>rfl
 |some o=>obtain⟨u,q⟩:=(r a o e).obj;rw[h]at q;cases q
def vE:Option HO->Prop
 |some (.tup _)=>False
 |some (.frz _ _)=>False
 |_=>True
theorem Imm.upd(h:vE (H a)):Imm H (upd H a u):=by
 refine⟨λp c e=>?_,λp o v e=>?_⟩
 .rw[aH];exact e
  rintro rfl;rw[e]at h;exact h
 .rw[aH];exact e
  rintro rfl;rw[e]at h;exact h
theorem Imm.new(h:H a=none):Imm H (L2.upd H a u):=Imm.upd (by rw[h];trivial)
theorem RepO.loose(r:RepO K H a o):vE (H a):=by
 cases o with
 |lst xs=>obtain⟨c,e,_⟩:=r;rw[e];trivial
 |dK xs=>obtain⟨c,e,_⟩:=r;rw[e];trivial
 |dT xs=>obtain⟨c,e,_⟩:=r;rw[e];trivial
 |ins C fs=>obtain⟨f,c,e,_⟩:=r;rw[e];trivial
theorem RepH.new(r:RepH K H M)(h:H a=none):RepH K (L2.upd H a u) M:=λb o e=>by
 obtain⟨v,q⟩:=(r b o e).obj;exact(r b o e).keep (Imm.new h) (aH<|bf q h)
theorem RepH.put(r:RepH K H M)(h:vE (H a))(n:RepO K (L2.upd H a u) a o):RepH K (L2.upd H a u) (M.upd a o):=λb p e=>by
 by_cases c:b=a
 .subst c;rw[Mem.upd_same]at e;cases e;exact n
 .rw[ag c]at e
  exact(r b p e).keep (Imm.upd h) (aH c)
theorem RepH.keep(r:RepH K H M)(i:Imm H H')(e:∀b o,M b=some o->H' b=H b):RepH K H' M:=λb o q=>(r b o q).keep i (e b o q)
structure Frm(M:Mem)(H:Hp)(M':Mem)(H':Hp):Prop where
 keep:∀b u,H b=some u->M b=none->H' b=some u/\M' b=none
variable {M':Mem}
theorem Frm.refl:Frm M H M H:=⟨λ_ _ e n=>⟨e,n⟩⟩
theorem Frm.trans{M1 M2:Mem}{H1 H2:Hp}(x:Frm M H M1 H1)(y:Frm M1 H1 M2 H2):Frm M H M2 H2:=⟨λb u e n=>let ⟨e1,n1⟩:=x.keep b u e n;y.keep b u e1 n1⟩
theorem Frm.imm(f:Frm M H M' H')(r:RepH K H M):Imm H H':=by
 have c:∀b u,H b=some u->¬vE (some u)->H' b=some u:=λb u e n=>(f.keep b u e (by
  cases q:M b with
  |none=>rfl
  |some o=>exact absurd (by rw[<- e];exact(r b o q).loose) n)).1
 exact⟨λp g e=>c p _ e (λz=>z),λp o u e=>c p _ e (λz=>z)⟩
theorem Frm.new(h:H a=none):Frm M H M (L2.upd H a u):=⟨λb v e n=>⟨by rw[aH (bf e h)];exact e,n⟩⟩
theorem Frm.put(h:H a=none\/∃o,M a=some o):Frm M H (M.upd a o) (L2.upd H a u):=⟨λb v e n=>by
 have c:b≠a:=by
  rintro rfl
  rcases h with h|⟨o,h⟩
  .rw[h]at e;cases e
  .rw[h]at n;cases n
 exact⟨by rw[L2.aH c];exact e,by rw[ag c];exact n⟩⟩
theorem Frm.del(h:∃o,M a=some o):Frm M H (M.del a) (L2.upd H a u):=⟨λb v e n=>by
 have c:b≠a:=by
  rintro rfl
  obtain⟨o,h⟩:=h;rw[h]at n;cases n
 refine⟨by rw[L2.aH c];exact e,?_⟩
 unfold Mem.del;rw[if_neg c];exact n⟩
theorem Rp.mf{d:D}{v:V}(x:Rp K H d v)(r:RepH K H M)(f:Frm M H M' H'):Rp K H' d v:=x.mono (f.imm r)
theorem Rps.mf{d:List D}{v:List V}(x:Rps K H d v)(r:RepH K H M)(f:Frm M H M' H'):Rps K H' d v:=x.mono (f.imm r)
end
abbrev Dl:=List (Option D)
abbrev DK:=D->Mem->Prop
abbrev bp:=Dl->Mem->DK->Prop
abbrev eG:=Dl->Mem->(Bool->Mem->Prop)->Prop
abbrev fj:=Dl->Mem->(List D->Mem->Prop)->Prop
structure RepS(K:Ng)(H:Hp)(U:Dl)(Z:St):Prop where
 len:U.length=Z.length
 get:∀(i:Nat) (d:D),U[i]?=some (some d)->∃v,Z[i]?=some (some v)/\Rp K H d v
theorem RepS.mono{K:Ng}{H H':Hp}{U:Dl}{Z:St}(r:RepS K H U Z)(i:Imm H H'):RepS K H' U Z:=
 ⟨r.len,λj d e=>by obtain⟨v,a,b⟩:=r.get j d e;exact⟨v,a,b.mono i⟩⟩
theorem RepS.set{K:Ng}{H:Hp}{U:Dl}{Z:St}{i:Nat}{d:D}{v:V}(r:RepS K H U Z)(h:Rp K H d v):RepS K H (U.set i<|some d) (Z.set i<|some v):=by
 refine⟨by simp[r.len],λj e q=>?_⟩
 rw[List.getElem?_set]at q ⊢
 by_cases a:i=j
 .rw[if_pos a]at q ⊢
  by_cases b:i<U.length
  .rw[if_pos (by rw[<- r.len];exact a▸b)]
   rw[if_pos (a▸b)]at q;cases q;exact⟨v,rfl,h⟩
  .rw[if_neg (a▸b)]at q;cases q
 .rw[if_neg a]at q ⊢
  exact r.get j e q
structure Bd where
 p:Mem->Hp->Prop
 go:∀{M M':Mem} {H H':Hp},p M H->Frm M H M' H'->p M' H'
def MT(M:Mem)(H:Hp):Bd:=⟨λM' H'=>Frm M H M' H',λa b=>a.trans b⟩
structure SR(X:Cx)(B:Bd)(U:Dl)(M:Mem)(Z:St)(H:Hp):Prop where
 i0:B.p M H
 rh:RepH X.K H M
 rs:RepS X.K H U Z
theorem SR.go{X:Cx}{B:Bd}{U:Dl}{M M':Mem}{Z:St}{H H':Hp}(s:SR X B U M Z H)(rh:RepH X.K H' M')(i:Frm M H M' H'):SR X B U M' Z H':=⟨B.go s.i0 i,rh,s.rs.mono<|i.imm s.rh⟩
def Up(K:Ng)(M:Mem)(H:Hp)(QQ:DK)(Q:VK):Prop:=∀d M',QQ d M'->∀v H',RepH K H' M'->Frm M H M' H'->Rp K H' d v->Q v H'
def UpT(K:Ng)(M:Mem)(H:Hp)(QQ:Bool->Mem->Prop)(Q:Bool->Hp->Prop):Prop:=∀b M',QQ b M'->∀H',RepH K H' M'->Frm M H M' H'->Q b H'
def UpA(K:Ng)(M:Mem)(H:Hp)(QQ:List D->Mem->Prop)(Q:List V->Hp->Prop):Prop:=∀ds M',QQ ds M'->∀vs H',RepH K H' M'->Frm M H M' H'->Rps K H' ds vs->Q vs H'
theorem Up.go{K:Ng}{M M1:Mem}{H H1:Hp}{QQ:DK}{Q:VK}(u:Up K M H QQ Q)(i:Frm M H M1 H1):Up K M1 H1 QQ Q:=λd M' q v H' a b c=>u d M' q v H' a (i.trans b) c
theorem UpT.go{K:Ng}{M M1:Mem}{H H1:Hp}{QQ:Bool->Mem->Prop}{Q:Bool->Hp->Prop}(u:UpT K M H QQ Q)(i:Frm M H M1 H1):UpT K M1 H1 QQ Q:=λd M' q H' a b=>u d M' q H' a (i.trans b)
inductive liftE(X:Cx)(B:Bd)(T:bp)(Z:St)(H:Hp)(Q:VK):Prop
 |mk (U:Dl) (M:Mem) (QQ:DK) (s:SR X B U M Z H) (h:T U M QQ) (u:Up X.K M H QQ Q):liftE X B T Z H Q
inductive liftT(X:Cx)(B:Bd)(T:eG)(Z:St)(H:Hp)(Q:Bool->Hp->Prop):Prop
 |mk (U:Dl) (M:Mem) (QQ:Bool->Mem->Prop) (s:SR X B U M Z H) (h:T U M QQ) (u:UpT X.K M H QQ Q):liftT X B T Z H Q
inductive liftA(X:Cx)(B:Bd)(T:fj)(Z:St)(H:Hp)(Q:List V->Hp->Prop):Prop
 |mk (U:Dl) (M:Mem) (QQ:List D->Mem->Prop) (s:SR X B U M Z H) (h:T U M QQ) (u:UpA X.K M H QQ Q):liftA X B T Z H Q
def DE(X:Cx)(B:Bd)(e:Expr)(T:bp):Prop:=PE X e (liftE X B T)
def DT(X:Cx)(B:Bd)(e:Expr)(T:eG):Prop:=PT X e (liftT X B T)
def DA(X:Cx)(B:Bd)(es:List Expr)(T:fj):Prop:=PA X es (liftA X B T)
theorem a_{X:Cx}{e:Expr}{t t':TE}(h:PE X e t)(w:∀Z H Q,t' Z H Q->t Z H Q):PE X e t':=λa s Z H Q I q=>h a s Z H Q I (w Z H Q q)
theorem ot{X:Cx}{e:Expr}{t t':TT}(h:PT X e t)(w:∀Z H Q,t' Z H Q->t Z H Q):PT X e t':=λa s Z H Q I q=>h a s Z H Q I (w Z H Q q)
theorem wq{X:Cx}{e:List Expr}{t t':TA}(h:PA X e t)(w:∀Z H Q,t' Z H Q->t Z H Q):PA X e t':=λb a s Z H Q I q=>h b a s Z H Q I (w Z H Q q)
theorem ci{X:Cx}{e:Stmt}{t t':TS}(h:PS X e t)(w:∀D Z H,t' D Z H->t D Z H):PS X e t':=λa s Z H D I q=>h a s Z H D I (w D Z H q)
theorem kZ{X:Cx}{e:List Stmt}{t t':TS}(h:wo X e t)(w:∀D Z H,t' D Z H->t D Z H):wo X e t':=λa s Z H D I q=>h a s Z H D I (w D Z H q)
def ac(i:Nat):bp:=λU M Q=>match U[i]? with
 |some (some d)=>Q d M
 |_=>False
def dC(d:D):bp:=λ_ M Q=>Q d M
section
variable {X:Cx}{B:Bd}{a b c:Expr}{ta tb tc:bp}{pos:Pos}
theorem JN{i:Nat}{x:Str}{pos:Pos}(hN:X.N[i]?=some x)(hv:Kd X.env.scope x)(hd:(x==("__debug__":Str))=false:=by decide)(hcd:(x==("__classdict__":Str))=false:=by decide):DE X B (.Name x pos) (ac i):=by
 refine a_ (Ia hN hv hd hcd) ?_
 rintro Z H Q ⟨U,M,QQ,s,h,u⟩
 unfold ac at h
 split at h
 .rename_i d e
  obtain⟨v,f,g⟩:=s.rs.get i d e;exact⟨v,f,u d M h v H s.rh Frm.refl g⟩
 .exact h.elim
theorem Bi{e:Expr}{v:V}{d:D}(h:PE X e (tC v))(r:∀H,Rp X.K H d v):DE X B e (dC d):=by
 refine a_ h ?_
 rintro Z H Q ⟨U,M,QQ,s,h,u⟩
 exact u d M h v H s.rh Frm.refl (r H)
theorem Kb{i j pos}:DE X B (.Constant (.int i) j pos) (dC<|.int i):=Bi JU λ_=>rfl
theorem Le{i j pos}:DE X B (.Constant (.bool i) j pos) (dC<|.bl i):=Bi LJ λ_=>rfl
theorem Js{j pos}:DE X B (.Constant .none j pos) (dC .non):=Bi GY λ_=>rfl
theorem IL{i j pos}:DE X B (.Constant (.str i) j pos) (dC<|.str i):=Bi tq λ_=>rfl
abbrev g9:=D->D->Mem->DK->Prop
inductive liftR2(X:Cx)(r:g9)(x y:V)(H:Hp)(Q:VK):Prop
 |mk (d1 d2:D) (M:Mem) (QQ:DK) (rh:RepH X.K H M) (r1:Rp X.K H d1 x) (r2:Rp X.K H d2 y) (h:r d1 d2 M QQ) (u:Up X.K M H QQ Q):liftR2 X r x y H Q
def am(r:g9)(ta tb:bp):bp:=λU M Q=>ta U M λx M1=>tb U M1 λy M2=>r x y M2 Q
theorem k8{r:g9}{Z:St}{H:Hp}{Q:VK}(h:liftE X B (am r ta tb) Z H Q):Km (liftR2 X r) (liftE X B ta) (liftE X B tb) Z H Q:=by
 obtain⟨U,M,QQ,s,h,u⟩:=h;refine⟨U,M,_,s,h,λx M1 i v1 H1 e i1 j=>?_⟩;refine⟨U,M1,_,s.go e i1,i,λy M2 m v2 H2 f g l=>?_⟩;exact⟨x,y,M2,QQ,f,j.mf e g,l,m,u.go<|i1.trans g⟩
theorem kP{op:Operator}{r:g9}(ho:du X (binaryOp op) (liftR2 X r))(ha:DE X B a ta)(hb:DE X B b tb):DE X B (.BinOp a op b pos) (am r ta tb):=a_ (M8 ho ha hb) λ_ _ _ h=>k8 h
theorem uj{op:CmpOp}{r:g9}(ho:du X (compareOp op) (liftR2 X r))(ha:DE X B a ta)(hb:DE X B b tb)(hm:behindInMarks op b=false):DE X B (.Compare a [op] [b] pos) (am r ta tb):=a_ (Fh ho ha hb hm) λ_ _ _ h=>k8 h
theorem LN{r:g9}(hr:IxR X (liftR2 X r))(ha:DE X B a ta)(hb:DE X B b tb)(hs:vG b):DE X B (.Subscript a b pos) (am r ta tb):=a_ (L5 hr ha hb hs) λ_ _ _ h=>k8 h
def ar(t:bp):eG:=λU M Q=>t U M λd M'=>match d with
 |.bl k=>Q k M'
 |_=>False
theorem eV{op:CmpOp}{r:g9}(ho:du X (compareOp op) (liftR2 X r))(ha:DE X B a ta)(hb:DE X B b tb)(hm:behindInMarks op b=false):DT X B (.Compare a [op] [b] pos) (ar<|am r ta tb):=by
 refine ot (EL ho ha hb hm) ?_
 rintro Z H Q ⟨U,M,QQ,s,h,u⟩
 have f:liftE X B (am r ta tb) Z H (λx H'=>∃k,x=.bl k/\Q k H'):=by
  refine⟨U,M,_,s,h,λd M' q v H' g i e=>?_⟩;cases d with
  |bl k=>exact⟨k,e,u k M' q H' g i⟩
  |_=>exact(show False from q).elim
 exact k8 f
def zH(M:Mem):D->Option Bool
 |.non=>some false
 |.bl b=>some b
 |.int i=>some (i != 0)
 |.str y=>if y.length<=sizeLine then some ((y.length:Int) != 0) else none
 |.tup xs=>some (!xs.isEmpty)
 |.lst xs=>some (!xs.isEmpty)
 |.ref a=>match M a with
  |some (.lst xs)=>some (!xs.isEmpty)
  |some (.dK xs)=>some (!xs.isEmpty)
  |_=>none
 |_=>none
def bU(t:bp):eG:=λU M Q=>t U M λd M'=>match zH M' d with
 |some k=>Q k M'
 |none=>False
theorem fF{K:Ng}{H:Hp}{ds:List D}{vs:List V}(r:Rps K H ds vs):vs.isEmpty=ds.isEmpty:=by
 have:=r.length;cases ds<;>cases vs<;>simp_all
theorem Iq{K:Ng}{H:Hp}{M:Mem}{d:D}{v:V}{k:Bool}(rh:RepH K H M)(r:Rp K H d v)(e:zH M d=some k):Hh K v H k:=by
 cases d with
 |non=>cases r;cases e;rfl
 |bl b=>cases r;cases e;rfl
 |int i=>cases r;cases e;rfl
 |str y=>
  cases r;simp only[zH]at e
  split at e
  .cases e;exact⟨by assumption,rfl⟩
  .cases e
 |ty n=>cases e
 |tup g=>
  obtain⟨p,f,rfl,t,r⟩:=r;cases e;exact .inr (.inl ⟨f,t.sq,by rw[fF r]⟩)
 |mt g=>cases e
 |ml g=>cases e
 |lst g=>
  obtain⟨p,f,rfl,t,r⟩:=r;cases e;exact .inl ⟨f,t.sq,by rw[fF r]⟩
 |ref a=>
  cases r;simp only[zH]at e
  split at e
  .rename_i g q
   obtain⟨f,h,j⟩:=rh _ _ q;cases e;exact .inl ⟨f,iV h,by rw[fF j]⟩
  .rename_i g q
   obtain⟨f,h,j⟩:=rh _ _ q;cases e;refine .inr (.inr ⟨f,h,?_⟩);cases j<;>rfl
  .cases e
theorem Hv{e:Expr}(h:DE X B e ta)(he:∀whole,isTrue e X.env whole=(do let v <- whole;standAt e.pos;holding [v] (truthy v)):=by intro _;rfl):DT X B e (bU ta):=by
 refine ot (Ac h he) ?_
 rintro Z H Q ⟨U,M,QQ,s,h,u⟩
 refine⟨U,M,_,s,h,λd M' q v H' f i g=>?_⟩
 split at q
 .rename_i k e
  exact⟨k,Iq f g e,u k M' q H' f i⟩
 .exact q.elim
def dk(t:eG):eG:=λU M Q=>t U M λc M1=>Q (!c) M1
theorem IH{tA:eG}(ha:DT X B a tA):DT X B (.UnaryOp .Not a pos) (dk tA):=by
 refine ot (Ig ha) ?_
 rintro Z H Q ⟨U,M,QQ,s,h,u⟩
 exact⟨U,M,_,s,h,λc M' q H' e i=>u _ M' q H' e i⟩
end
section
variable {X:Cx}{B:Bd}{a b c:Expr}{ta tb tc:bp}{tA tB':eG}{rest:List Expr}{pos:Pos}
def DW(X:Cx)(B:Bd)(e:Expr)(T:eG):Prop:=PW X e (liftT X B T)
theorem MP{e:Expr}{T:eG}(h:DW X B e T):DT X B e T:=MQ h
theorem uQ{X:Cx}{e:Expr}{t t':TT}(h:PW X e t)(w:∀Z H Q,t' Z H Q->t Z H Q):PW X e t':=λg f s Z H Q I q=>h g f s Z H Q I (w Z H Q q)
def jp(t u:eG):eG:=λU M Q=>t U M λc M1=>if c=true then u U M1 Q else Q false M1
def mz(t u:eG):eG:=λU M Q=>t U M λc M1=>if c=true then Q true M1 else u U M1 Q
theorem F8(ha:DT X B a tA):DW X B (.BoolOp .And [a] pos) tA:=DC ha
theorem Jq(ha:DT X B a tA):DW X B (.BoolOp .Or [a] pos) tA:=Jo ha
theorem JP(ha:DT X B a tA)(hb:DW X B (.BoolOp .And (b::rest) pos) tB'):DW X B (.BoolOp .And (a::b::rest) pos) (jp tA tB'):=by
 refine uQ (JS ha hb) ?_
 rintro Z H Q ⟨U,M,QQ,s,h,u⟩
 refine⟨U,M,_,s,h,λc M' q H' e i=>?_⟩;cases c with
 |true=>rw[if_pos rfl]at q ⊢;exact⟨U,M',QQ,s.go e i,q,u.go i⟩
 |false=>rw[if_neg NA]at q ⊢;exact u _ M' q H' e i
theorem Mx(ha:DT X B a tA)(hb:DW X B (.BoolOp .Or (b::rest) pos) tB'):DW X B (.BoolOp .Or (a::b::rest) pos) (mz tA tB'):=by
 refine uQ (Mv ha hb) ?_
 rintro Z H Q ⟨U,M,QQ,s,h,u⟩
 refine⟨U,M,_,s,h,λc M' q H' e i=>?_⟩;cases c with
 |false=>rw[if_neg NA]at q ⊢;exact⟨U,M',QQ,s.go e i,q,u.go i⟩
 |true=>rw[if_pos rfl]at q ⊢;exact u _ M' q H' e i
def iW(ta tb:bp):bp:=λU M Q=>ta U M λx M1=>match x with
 |.bl true=>tb U M1 Q
 |.bl false=>Q (.bl false) M1
 |_=>False
theorem IU{op}{t:bp}(h:DE X B a t):DE X B (.BoolOp op [a] pos) t:=I0 h
theorem GZ(ha:DE X B a ta)(hb:DE X B (.BoolOp .And (b::rest) pos) tb):DE X B (.BoolOp .And (a::b::rest) pos) (iW ta tb):=by
 refine a_ (H_ ha hb) ?_
 rintro Z H Q ⟨U,M,QQ,s,h,u⟩
 refine⟨U,M,_,s,h,λd M' q v H' e i r=>?_⟩;cases d with
 |bl c=>
  cases c with
  |true=>exact⟨true,r,by rw[if_pos rfl];exact⟨U,M',QQ,s.go e i,q,u.go i⟩⟩
  |false=>exact⟨false,r,by rw[if_neg NA];exact u _ M' q _ H' e i rfl⟩
 |_=>exact(show False from q).elim
def Ke(t:eG)(ta tb:bp):bp:=λU M Q=>t U M λc M1=>if c=true then ta U M1 Q else tb U M1 Q
theorem A0{c:Expr}(hc:DT X B c tA)(ha:DE X B a ta)(hb:DE X B b tb):DE X B (.IfExp c a b pos) (Ke tA ta tb):=by
 refine a_ (BX hc ha hb) ?_
 rintro Z H Q ⟨U,M,QQ,s,h,u⟩
 refine⟨U,M,_,s,h,λc M' q H' e i=>?_⟩;cases c with
 |true=>rw[if_pos rfl]at q ⊢;exact⟨U,M',QQ,s.go e i,q,u.go i⟩
 |false=>rw[if_neg NA]at q ⊢;exact⟨U,M',QQ,s.go e i,q,u.go i⟩
variable {e:Expr}{es:List Expr}{te:bp}{t:fj}
def ae:fj:=λ_ M Q=>Q [] M
def aa(ta:bp)(tr:fj):fj:=λU M Q=>ta U M λx M1=>tr U M1 λf M2=>Q (x::f) M2
theorem IA:DA X B [] ae:=by
 refine wq Aq ?_
 rintro Z H Q ⟨U,M,QQ,s,h,u⟩
 exact u [] M h [] H s.rh Frm.refl .nil
theorem Fv(ha:DE X B e te)(hr:DA X B es t)(hs:starEach (e::es) X.env=(false,eval e X.env)::starEach es X.env:=by rfl):DA X B (e::es) (aa te t):=by
 refine wq (vY ha hr hs) ?_
 rintro Z H Q ⟨U,M,QQ,s,h,u⟩
 refine⟨U,M,_,s,h,λx M1 l v1 H1 f j m=>?_⟩;refine⟨U,M1,_,s.go f j,l,λp M2 o v2 H2 g i n=>?_⟩;exact u _ M2 o _ H2 g (j.trans i) (.cons (m.mf f i) n)
def b9(t:fj):bp:=λU M Q=>t U M λf M1=>f.length<=sizeLine/\Q (.tup f) M1
def bn(t:fj):bp:=λU M Q=>t U M λf M1=>f.length<=sizeLine/\∀p,M1 p=none->Q (.ref p) (M1.upd p<|.lst f)
theorem Hs{x1}(h:DA X B es t):DE X B (.Tuple es x1 pos) (b9 t):=by
 refine a_ (JC h) ?_
 rintro Z H Q ⟨U,M,QQ,s,h,u⟩
 refine⟨U,M,_,s,h,λm M1 i v1 H1 f l j=>⟨by rw[<- j.length];exact i.1,λp g=>?_⟩⟩
 exact u _ M1 i.2 _ _ (f.new g) (l.trans<|Frm.new g) ⟨p,v1,rfl,upd_same,j.mono<|Imm.new g⟩
theorem Il(h:DA X B es t):DE X B (.List es pos) (bn t):=by
 refine a_ (HX h) ?_
 rintro Z H Q ⟨U,M,QQ,s,h,u⟩
 refine⟨U,M,_,s,h,λxs M1 h1 v1 H1 rh1 i1 r1=>⟨by rw[<- r1.length];exact h1.1,λp hp=>?_⟩⟩
 exact u _ _ (h1.2 p<|rh1.fresh hp) _ _ (rh1.put (by rw[hp];trivial) ⟨v1,upd_same,r1.mono<|Imm.new hp⟩) (i1.trans<|Frm.put<|.inl hp) rfl
theorem Inv.freeze{pins:List (Addr×Obj)}{Z:L2.St}{H:Hp}{s:Shared}{p:Addr}{vs:List V}(I:Inv X pins Z H s)(h:H p=some (.lst vs)):∃o,Inv X pins Z (upd H p<|.frz o<|.lst vs) s:=by
 obtain⟨i,n,r,e,z⟩:=I.lst h;have ne:∀{b:Addr} {u:Option HO},H b=u->u≠some (.lst vs)->b≠p:=λ{b u} q F z=>by subst z;rw[h]at q;exact F q.symm
 refine⟨{ cls:=.type "list",data:=.seq i.toArray n },I.ok,I.os,I.bare,⟨I.base.keep,I.base.slot,λb o q v w=>?_,I.base.there,λb j q=>?_,λb o u q=>?_,λb G q=>?_⟩,I.loc,I.cell,?_,λx c q=>?_,λA E=>?_,λb o q=>?_,I.len⟩
 .have f:=I.base.free b o q v w
  rw[aH (ne f<|by simp)];exact f
 .have f:=I.base.tups b j q
  rw[aH (ne f<|by simp)];exact f
 .have f:=I.base.frzs b o u q
  rw[aH (ne f<|by simp)];exact f
 .obtain⟨g,f⟩:=I.base.tbls b G q
  exact⟨g,by rw[aH (ne f<|by simp)];exact f⟩
 .rw[aH (ne I.free<|by simp)];exact I.free
 .have f:=I.freeC x c q
  rw[aH (ne f<|by simp)];exact f
 .obtain⟨C,m,J⟩:=I.pin A E
  exact⟨C,by rw[aH (ne m<|by simp)];exact m,J⟩
 .by_cases l:b=p
  .subst l
   rw[upd_same]at q;cases q;refine⟨e,?_⟩;exact⟨z,i,n,r,e⟩
  .rw[aH l]at q
   refine (I.hok b o q).stay (λ_ _ _ y=>y) (λc y=>?_) λc j y=>?_
   .rw[aH (ne y<|by simp)];exact y
   .rw[aH (ne y<|by simp)];exact y
def frz(d:D)(M:Mem)(Q:DK):Prop:=match d with
 |.ref a=>match M a with
  |some (.lst xs)=>Q (.lst xs) (M.del a)
  |_=>Q d M
 |_=>Q d M
def ai(t:bp):bp:=λU M Q=>t U M λd M'=>frz d M' Q
theorem RepH.freeze{K:Ng}{H:Hp}{M:Mem}{p:Addr}{vs:List V}{o:Obj}(r:RepH K H M)(h:H p=some (.lst vs)):RepH K (upd H p<|.frz o<|.lst vs) (M.del p):=λb u e=>by
 unfold Mem.del at e
 split at e
 .cases e
 .rename_i hb
  exact(r b u e).keep (Imm.upd<|by rw[h];trivial) (aH hb)
theorem GT(h:DE X B e te):DE X B e (ai te):=by
 intro g s Z H Q I m;obtain⟨U,M,QQ,p,y,u⟩:=m;refine bF (h g s Z H (λv H'=>∃d M',RepH X.K H' M'/\Frm M H M' H'/\Rp X.K H' d v/\frz d M' QQ) I ⟨U,M,_,p,y,λd M' q v H' f i r=>⟨d,M',f,i,r,q⟩⟩) ?_
 rintro w A ⟨v,H',I',l,d,M',f,i,r,q⟩
 unfold frz at q
 split at q
 .rename_i a
  split at q
  .rename_i z e
   obtain⟨n,j,x⟩:=f _ _ e;obtain⟨o,I2⟩:=Inv.freeze I' j;refine⟨v,_,I2,l,u _ _ q v _ (f.freeze j) (i.trans<|Frm.del ⟨_,e⟩) ?_⟩;exact⟨a,n,r,⟨o,upd_same⟩,x.mono<|Imm.upd<|by rw[j];trivial⟩
  .exact⟨v,H',I',l,u _ _ q v H' f i r⟩
 .exact⟨v,H',I',l,u _ _ q v H' f i r⟩
end
def cP(M:Mem):D->Option (List D)
 |.lst xs=>some xs
 |.ref a=>match M a with
  |some (.lst xs)=>some xs
  |_=>none
 |_=>none
def bt(M:Mem):D->Option (List D)
 |.tup xs=>some xs
 |.lst xs=>some xs
 |.mt xs=>some xs
 |.ml xs=>some xs
 |.ref a=>match M a with
  |some (.lst xs)=>some xs
  |_=>none
 |_=>none
section
variable {X:Cx}{B:Bd}{K:Ng}{H:Hp}{M:Mem}{d:D}{v:V}{xs:List D}
theorem dQ(rh:RepH K H M)(r:Rp K H d v)(e:cP M d=some xs):∃p vs,v=.ref p/\Rd H p (.lst vs)/\Rps K H xs vs:=by
 cases d with
 |lst c=>
  cases e;obtain⟨p,vs,rfl,⟨o,h⟩,r⟩:=r;exact⟨p,vs,rfl,.inr ⟨o,h⟩,r⟩
 |ref a=>
  simp only[cP]at e
  split at e
  .rename_i c q
   cases e;obtain⟨vs,b,f⟩:=rh _ _ q;exact⟨a,vs,r,.inl b,f⟩
  .cases e
 |_=>cases e
theorem gT(rh:RepH K H M)(r:Rp K H d v)(e:bt M d=some xs):∃p vs,v=.ref p/\(SqL K H p vs\/iE K H p vs)/\Rps K H xs vs:=by
 cases d with
 |tup b=>
  cases e;obtain⟨p,vs,rfl,h,r⟩:=r;exact⟨p,vs,rfl,.inr h.sq,r⟩
 |lst b=>
  cases e;obtain⟨p,vs,rfl,h,r⟩:=r;exact⟨p,vs,rfl,.inl h.sq,r⟩
 |mt b=>
  cases e;obtain⟨p,vs,rfl,h,r⟩:=r;exact⟨p,vs,rfl,.inr h.sq,r⟩
 |ml b=>
  cases e;obtain⟨p,vs,rfl,h,r⟩:=r;exact⟨p,vs,rfl,.inl h.sq,r⟩
 |ref a=>
  simp only[bt]at e
  split at e
  .rename_i b q
   cases e;obtain⟨vs,c,f⟩:=rh _ _ q;exact⟨a,vs,r,.inl (iV c),f⟩
  .cases e
 |_=>cases e
theorem CU:du X (binaryOp .Add) (λx y H Q=>∃l b xs zs,x=.ref l/\y=.ref b/\Rd H l (.lst xs)/\Rd H b (.lst zs)/\xs.length+zs.length<=sizeLine/\∀p,H p=none->Q (.ref p) (upd H p<|.lst (xs++zs))):=by
 intro f s Z H x y v u Q I w o h;obtain⟨l,b,xs,zs,rfl,rfl,m,A,E,q⟩:=h;cases w;cases o;obtain⟨z,c,n,r,e⟩:=m.ok I.hok;obtain⟨J,a,F,g,C⟩:=A.ok I.hok;have G:=r.length;have i:=g.length;refine PySem.P.add_list e C ?_ (by rw[Na,Na];lia)
 have j:c.toArray++a.toArray=(c++a).toArray:=by simp
 rw[j];exact⟨.ref _,_,I.lnew (t':=s.toks) (r.append g) (by rw[Nd];lia),rfl,q _ I.fresh⟩
def bj:g9:=λx y M Q=>match x,y with
 |.int i,.int j=>Q (.int (i+j)) M
 |.str a,.str b=>a.length+b.length<=sizeLine/\Q (.str (a++b)) M
 |.tup xs,.tup ys=>xs.length+ys.length<=sizeLine/\Q (.tup (xs++ys)) M
 |x,y=>match cP M x,cP M y with
  |some xs,some ys=>xs.length+ys.length<=sizeLine/\∀p,M p=none->Q (.ref p) (M.upd p<|.lst (xs++ys))
  |_,_=>False
theorem Ev:du X (binaryOp .Add) (liftR2 X bj):=by
 intro pins s Z H x y v u Q I rx ry h;obtain⟨d1,d2,M,QQ,rh,r1,r2,h,up⟩:=h;unfold bj at h
 split at h
 .cases r1;cases r2
  exact JL pins s Z H _ _ v u Q I rx ry ⟨_,_,rfl,rfl,up _ M h _ H rh Frm.refl rfl⟩
 .cases r1;cases r2
  exact tK pins s Z H _ _ v u Q I rx ry ⟨_,_,rfl,rfl,h.1,up _ M h.2 _ H rh Frm.refl rfl⟩
 .obtain⟨p,vs,rfl,t1,r1⟩:=r1
  obtain⟨p',vs',rfl,t2,r2⟩:=r2;have l1:=r1.length;have l2:=r2.length;have r12:=r1.append r2
  by_cases hx:vs=[]
  .subst hx
   have hu:=up _ M h.2 (.ref p') H rh Frm.refl ⟨p',vs',rfl,t2,r12⟩;exact AS pins s Z H _ _ v u Q I rx ry ⟨p,p',vs',rfl,rfl,t1.sq,t2.sq,hu⟩
  .refine Dc pins s Z H _ _ v u Q I rx ry ⟨p,p',vs,vs',rfl,rfl,t1.sq,t2.sq,hx,by lia,λe=>?_,λ_ q hq=>?_⟩
   .subst e
    rw[NT]at r12;exact up _ M h.2 (.ref p) H rh Frm.refl ⟨p,vs,rfl,t1,r12⟩
   .exact up _ M h.2 _ _ (rh.new hq) (Frm.new hq) ⟨q,_,rfl,upd_same,r12.mono<|Imm.new hq⟩
 .split at h
  .rename_i xs ys e1 e2
   obtain⟨p,vs,rfl,t1,r1⟩:=dQ rh r1 e1;obtain⟨p',vs',rfl,t2,r2⟩:=dQ rh r2 e2;have l1:=r1.length;have l2:=r2.length;refine CU pins s Z H _ _ v u Q I rx ry ⟨p,p',vs,vs',rfl,rfl,t1,t2,by lia,λq hq=>?_⟩
   exact up _ _ (h.2 q<|rh.fresh hq) _ _ (rh.put (by rw[hq];trivial) ⟨_,upd_same,(r1.append r2).mono<|Imm.new hq⟩) (Frm.put<|.inl hq) rfl
  .exact h.elim
def oI(C:Int->Int->Prop)(g:Int->Int->D):g9:=λx y M Q=>match x,y with
 |.int i,.int j=>C i j/\Q (g i j) M
 |_,_=>False
theorem Jt{f:Value->Value->Sem Value}{C:Int->Int->Prop}{g:Int->Int->V}{g':Int->Int->D}(h:du X f (rI C g))(e:∀i j K H,Rp K H (g' i j) (g i j)):du X f (liftR2 X<|oI C g'):=by
 intro b s Z H x y v u Q I o n a;obtain⟨q,r,M,QQ,p,m,l,a,c⟩:=a;unfold oI at a
 split at a
 .cases m;cases l
  exact h b s Z H _ _ v u Q I o n ⟨_,_,rfl,rfl,a.1,c _ M a.2 _ H p Frm.refl<|e _ _ _ _⟩
 .exact a.elim
def yw(g:Int->Int->D):g9:=λx y M Q=>match x,y with
 |.int i,.int j=>Q (g i j) M
 |_,_=>False
theorem wD{f:Value->Value->Sem Value}{g:Int->Int->V}{g':Int->Int->D}(h:du X f (GE g))(e:∀i j K H,Rp K H (g' i j) (g i j)):du X f (liftR2 X<|yw g'):=by
 intro b s Z H x y v u Q I o n a;obtain⟨q,r,M,QQ,p,m,l,a,c⟩:=a;unfold yw at a
 split at a
 .cases m;cases l
  exact h b s Z H _ _ v u Q I o n ⟨_,_,rfl,rfl,c _ M a _ H p Frm.refl<|e _ _ _ _⟩
 .exact a.elim
abbrev iP:g9:=yw λi j=>.int (i-j)
theorem Dn:du X (binaryOp .Sub) (liftR2 X iP):=wD Jd λ_ _ _ _=>rfl
abbrev dW:g9:=oI (λ_ j=>0<j) λi j=>.int (i % j)
theorem F6:du X (binaryOp .Mod) (liftR2 X dW):=Jt Ib λ_ _ _ _=>rfl
def Fy(_ j:Int):Prop:=0<j/\j<2 ^ 200
theorem Cj:du X (binaryOp .FloorDiv) (rI Fy λi j=>.int (i / j)):=by
 intro a s Z H x y v u Q I l g h;obtain⟨i,j,rfl,rfl,e,q⟩:=h;obtain⟨m,f⟩:=e;have c:((j.toNat:Nat):Int)=j:=by lia
 refine Ar (n:=j.toNat) ?_ (by lia) a s Z H _ _ v u Q I l g ⟨i,j,rfl,rfl,c.symm,q⟩
 have b:j.toNat<2 ^ 200:=by
  have:((j.toNat:Nat):Int)<((2 ^ 200:Nat):Int):=by rw[c,Int.natCast_pow];exact f
  exact Int.ofNat_lt.mp this
 have:=(Nat.log2_lt (n:=j.toNat) (k:=200)<|by lia).mpr b
 lia
abbrev rg:g9:=oI Fy λi j=>.int (i / j)
theorem BO:du X (binaryOp .FloorDiv) (liftR2 X rg):=Jt Cj λ_ _ _ _=>rfl
abbrev KI:g9:=oI Kp λi j=>.int (i ^ j.toNat)
theorem D8:du X (binaryOp .Pow) (liftR2 X KI):=Jt Ji λ_ _ _ _=>rfl
abbrev ub:g9:=yw λi j=>.bl (decide (i<j))
theorem C8:du X (compareOp .Lt) (liftR2 X ub):=wD LA λ_ _ _ _=>rfl
abbrev yU:g9:=yw λi j=>.bl (decide (j<i))
theorem JB:du X (compareOp .Gt) (liftR2 X yU):=wD Kl λ_ _ _ _=>rfl
abbrev oGe:g9:=yw λi j=>.bl (decide (j<=i))
theorem II:du X (compareOp .GtE) (liftR2 X oGe):=wD KU λ_ _ _ _=>rfl
theorem CB{c:Nat}:∀(k:Nat) (acc:Array Nat),(Nh k #[c]).foldl (·++·) acc=acc++Qk k c
 |0,acc=>by simp
 |k+1,acc=>by
  rw[NI,Oe,CB k (acc++#[c])];apply Array.ext';simp[NI]
theorem BI:du X (binaryOp .Mult) (λx y H Q=>∃c k,x=.str ⟨#[c]⟩/\y=.int k/\1<=k/\k<=1000/\Q (.str ⟨Qk k.toNat c⟩) H):=by
 intro e s Z H x y v u Q I l i h;obtain⟨c,k,rfl,rfl,n,o,q⟩:=h;obtain⟨t,rfl⟩:=l;obtain⟨m,rfl⟩:=i;have a:(⟨#[c]⟩:Str).length=1:=rfl;have j:sizeLine=16777216:=rfl;refine PySem.P.mul_str ?_ ?_ ?_ ?_
 .rw[decide_eq_false (by lia),decide_eq_false (by lia)];rfl
 .intro _ _ g
  rw[a]at g;have:(1:Int)<=(2 ^ 63-1) / k:=Int.le_ediv_of_mul_le (by lia) (by lia)
  lia
 .intro _ _
  rw[a];unfold PySem.Builtin.Str.tooLong;exact decide_eq_false (by lia)
 .rw[if_neg (by lia)]
  by_cases b:k=1
  .rw[if_pos (by rw[b];rfl)]
   subst b;exact⟨.str ⟨#[c]⟩,H,I,⟨_,rfl⟩,q⟩
  .rw[if_neg (by simp[a,b])]
   have f:(Nh k.toNat #[c]).foldl (·++·) #[]=Qk k.toNat c:=by rw[CB];simp
   refine⟨?_,.str ⟨(Nh k.toNat #[c]).foldl (·++·) #[]⟩,H,I.tok _,⟨_,rfl⟩,by rw[f];exact q⟩
   show ((Nh k.toNat #[c]).foldl (·++·) #[]).size<=sizeLine;rw[f];simp;lia
def i8:g9:=λx y M Q=>match x,y with
 |.int i,.int j=>CMul i j/\Q (.int (i*j)) M
 |.str z,.int k=>match z.cps.toList with
  |[c]=>1<=k/\k<=1000/\Q (.str ⟨Qk k.toNat c⟩) M
  |_=>False
 |.tup xs,.int k=>xs≠[]/\0<=k/\k<=1000/\xs.length<=1000/\Q (.tup (Nh k.toNat xs).flatten) M
 |_,_=>False
theorem Rps.rep{ds:List D}{vs:List V}(h:Rps K H ds vs):∀k:Nat,Rps K H (Nh k ds).flatten (Nh k vs).flatten
 |0=>rfl
 |k+1=>by
  rw[NI,NI,OI,OI];exact h.append (Rps.rep h k)
theorem Ek:du X (binaryOp .Mult) (liftR2 X i8):=by
 intro a s Z H x y v u Q I F A h;obtain⟨S,G,M,QQ,n,f,q,h,m⟩:=h;cases S with
 |int i=>
  cases G with
  |int j=>
   cases f;cases q;exact Hj a s Z H _ _ v u Q I F A ⟨_,_,rfl,rfl,h.1,m _ M h.2 _ H n Frm.refl rfl⟩
  |_=>exact(show False from h).elim
 |str z=>
  cases G with
  |int k=>
   cases f;cases q;simp only[i8]at h
   split at h
   .rename_i c e
    have O:z=⟨#[c]⟩:=by
     obtain⟨⟨l⟩⟩:=z;have T:l=[c]:=e;rw[T]
    subst O;exact BI a s Z H _ _ v u Q I F A ⟨_,_,rfl,rfl,h.1,h.2.1,m _ M h.2.2 _ H n Frm.refl rfl⟩
   .exact h.elim
  |_=>exact(show False from h).elim
 |tup xs=>
  cases G with
  |int k=>
   obtain⟨p,g,rfl,L,f⟩:=f;cases q;obtain⟨w,W,R,h4,N⟩:=h;have l1:=f.length;obtain⟨t,rfl⟩:=A;cases F;obtain⟨E,r,P,_⟩:=I.tuple L.sq;have hl:=r.length;refine yR P (λz=>w ?_) W R (by lia) (λe=>?_) λe=>?_
   .have J:E.length=0:=congrArg Oj z
    exact List.eq_nil_of_length_eq_zero (by lia)
   .subst e
    refine⟨.ref p,H,I,rfl,m _ M N _ H n Frm.refl ⟨p,g,rfl,L,?_⟩⟩;simpa using f
   .have C:H s.heap.objs.size=none:=I.hok.fresh (Ni _)
    have J:(Nh k.toNat g).flatten.length<=sizeLine:=by
     rw[vS];have w:k.toNat*g.length<=1000*1000:=Nat.mul_le_mul (by lia) (by lia)
     exact Ny w (by decide)
    have U:Imm H (upd H s.heap.objs.size<|.tup (Nh k.toNat g).flatten):=Imm.new C;exact⟨.ref s.heap.objs.size,_,I.laid (t':=s.toks) (o:=.tup (Nh k.toNat g).flatten) (λb Y z=>MX _ z) (Ni _) ⟨J,_,r.rep k.toNat,⟨_,Nj _ rfl,⟨rfl,_,rfl⟩,rfl⟩⟩,rfl,
     m _ M N _ _ (n.new C) (Frm.new C) ⟨_,_,rfl,upd_same,(f.rep _).mono U⟩⟩
  |_=>exact(show False from h).elim
 |_=>exact(show False from h).elim
def AW:D->Bool
 |.non=>true
 |_=>false
def Cb:g9:=λx y M Q=>match y with
 |.non=>Q (.bl<|AW x) M
 |_=>False
def AC:g9:=λx y M Q=>match y with
 |.non=>Q (.bl<|!AW x) M
 |_=>False
theorem Cd(r:Rp K H d v):decide (v=V.non)=AW d:=by
 cases d with
 |non=>cases r;rfl
 |tup xs=>obtain⟨p,a,rfl,_⟩:=r;rfl
 |lst xs=>obtain⟨p,a,rfl,_⟩:=r;rfl
 |mt xs=>obtain⟨p,a,rfl,_⟩:=r;rfl
 |ml xs=>obtain⟨p,a,rfl,_⟩:=r;rfl
 |_=>cases r;rfl
theorem Fs:du X (compareOp .Is) (liftR2 X Cb):=by
 intro a s Z H x y v u Q I g f h;obtain⟨j,l,M,QQ,i,e,c,h,b⟩:=h;unfold Cb at h
 split at h
 .cases c
  exact Hx a s Z H _ _ v u Q I g f ⟨rfl,by rw[Cd e];exact b _ M h _ H i Frm.refl rfl⟩
 .exact h.elim
theorem zX:du X (compareOp .IsNot) (liftR2 X AC):=by
 intro a s Z H x y v u Q I g f h;obtain⟨j,l,M,QQ,i,e,c,h,b⟩:=h;unfold AC at h
 split at h
 .cases c
  refine D5 a s Z H _ _ v u Q I g f ⟨rfl,b _ M h _ H i Frm.refl ?_⟩;show _=V.bl _;rw[Cd e]
 .exact h.elim
end
section
variable {κ:Type}[DecidableEq κ]
def ba(kvs:List (κ×D))(k:κ):Option D:=(kvs.find? λa=>decide (a.1=k)).map (·.2)
def bL(kvs:List (κ×D))(k:κ)(v:D):List (κ×D):=
 if (kvs.any λa=>decide (a.1=k))=true then kvs.map (λa=>if a.1=k then (a.1,v) else a) else kvs++[(k,v)]
variable {K:Ng}{H:Hp}
theorem Rkv.val{kvs:List (κ×D)}{ws:List (κ×V)}(h:Rkv K H kvs ws)(k:κ):(ba kvs k=none/\g6 ws k=none)\/∃d v,ba kvs k=some d/\g6 ws k=some v/\Rp K H d v:=by
 induction h with
 |nil=>exact .inl ⟨rfl,rfl⟩
 |@cons p q ps qs r t ih=>
  obtain⟨b,d⟩:=p;obtain⟨c,v⟩:=q;obtain⟨e,r⟩:=r;dsimp only at e r;subst e
  by_cases a:b=k
  .exact .inr ⟨d,v,by simp[ba,a],by simp[g6,a],r⟩
  .simpa [ba,g6,a] using ih
theorem Rkv.any{kvs:List (κ×D)}{ws:List (κ×V)}(h:Rkv K H kvs ws)(k:κ):(kvs.any λkv=>decide (kv.1=k))=(ws.any λkv=>decide (kv.1=k)):=by
 induction h with
 |nil=>rfl
 |cons r t ih=>rw[OU,OU,ih,r.1]
theorem Rkv.put{kvs:List (κ×D)}{ws:List (κ×V)}(h:Rkv K H kvs ws)(k:κ){d:D}{v:V}(r:Rp K H d v):Rkv K H (bL kvs k d) (cj ws k v):=by
 unfold bL cj;rw[h.any k]
 split
 .rename_i q;clear q
  induction h with
  |nil=>exact .nil
  |@cons p q ps qs rr t ih=>
   obtain⟨c,f⟩:=p;obtain⟨g,i⟩:=q;obtain⟨e,b⟩:=rr;dsimp only at e b;subst e;rw[Nb,Nb];refine .cons ?_ ih
   by_cases a:c=k
   .rw[if_pos a,if_pos a];exact⟨rfl,r⟩
   .rw[if_neg a,if_neg a];exact⟨rfl,b⟩
 .rename_i q;clear q
  induction h with
  |nil=>exact .cons ⟨rfl,r⟩ .nil
  |cons rr t ih=>exact .cons rr ih
theorem Rkv.length{kvs:List (κ×D)}{ws:List (κ×V)}(h:Rkv K H kvs ws):kvs.length=ws.length:=OC h
end
def bI:D->Option ax
 |.int i=>some (.inl i)
 |.str x=>some (.inr x)
 |_=>none
def bP:List D->Option (List ax)
 |[]=>some []
 |d::ds=>match bI d,bP ds with
  |some k,some ks=>some (k::ks)
  |_,_=>none
def mD:D->Option (List ax)
 |.tup xs=>bP xs
 |_=>none
section
variable {X:Cx}{K:Ng}{H:Hp}{M:Mem}
theorem pV{d:D}{v:V}{k:ax}(r:Rp K H d v)(e:bI d=some k):v=kV k:=by
 cases d with
 |int i=>cases e;exact r
 |str x=>cases e;exact r
 |_=>cases e
theorem kM:∀{ds:List D} {vs:List V} {ks:List ax},Rps K H ds vs->bP ds=some ks->vs=ks.map kV
 |[],vs,ks,r,e=>by cases e;exact r
 |d::ds,vs,ks,r,e=>by
  obtain⟨v,h,rfl,a,b⟩:=r;simp only[bP]at e
  split at e
  .rename_i k c g f
   cases e;rw[pV a g,kM b f];rfl
  .cases e
def mC(M:Mem)(a:Addr)(y:D):Option (Option D):=match M a with
 |some (.dK kvs)=>match bI y with
  |some k=>some (ba kvs k)
  |none=>none
 |some (.dT kvs)=>match mD y with
  |some k=>some (ba kvs k)
  |none=>none
 |_=>none
theorem kO{d:D}{v:V}{ks:List ax}(r:Rp K H d v)(e:mD d=some ks):∃b,v=.ref b/\H b=some (.tup<|ks.map kV):=by
 cases d with
 |tup xs=>
  obtain⟨p,a,rfl,t,r⟩:=r;exact⟨p,rfl,by rw[<- kM r e];exact t⟩
 |_=>cases e
theorem eR{a:Addr}{y:D}{v:V}{o:Option D}(rh:RepH K H M)(r:Rp K H y v)(e:mC M a y=some o):
  (o=none/\DGet H a v none)\/∃d w,o=some d/\DGet H a v (some w)/\Rp K H d w:=by
 unfold mC at e
 split at e
 .rename_i i hM
  obtain⟨m,g,j⟩:=rh _ _ hM
  split at e
  .rename_i k h
   cases e;have n:=pV r h;subst n;rcases j.val k with⟨f,c⟩|⟨d,w,f,c,r'⟩
   .exact .inl ⟨f,by rw[<- c];exact DGet.k g⟩
   .exact .inr ⟨d,w,f,by rw[<- c];exact DGet.k g,r'⟩
  .cases e
 .rename_i i hM
  obtain⟨m,g,j⟩:=rh _ _ hM
  split at e
  .rename_i k h
   cases e;obtain⟨b,rfl,l⟩:=kO r h;rcases j.val k with⟨f,c⟩|⟨d,w,f,c,r'⟩
   .exact .inl ⟨f,by rw[<- c];exact DGet.t g l⟩
   .exact .inr ⟨d,w,f,by rw[<- c];exact DGet.t g l,r'⟩
  .cases e
 .cases e
end
end L3
namespace HT
open PySem PyProof.Rows
section
variable {prog:Program}{w:World}{A:Around}{E:Value->Shared->Prop}{s:Shared}
theorem fY{t sl:Addr}{items:Array Value}{vl vu:Value}{lo hi:Option Int}{Q:Value->Shared->Prop}(ht:IsTup s.heap t items)(hs:s.heap.IsSliceOf sl vl vu .none)(pl:IsPart vl lo)(pu:IsPart vu hi)
  (hw:sIx items.size 0 lo=0/\sIx items.size items.size hi=items.size) (h:Q (.ref t) s):wpAny (model prog w) A (getItem (.ref t)<|.ref sl) Q E s:=by
 obtain⟨g,c,b,f⟩:=id hs;have e:s.TypeIs (.ref sl) "slice":=⟨g,c,b⟩;unfold getItem
 try with_reducible refine wpAny_holding ?_
 first|refine wpAny_bind (wpAny_pure ?_)|skip
 refine wpAny_bind (wpAny_sequenceKey ht.typeIs (by decide) ?_)
 refine wpAny_bind (wpAny_callSpecial?_slot (name:=Oh "__getitem__") ht.typeIs Of
  (wpAny_call_entry Of ht.typeIs entry_tuple_getitem ?_<|args_tuple_getitem _ _))
 show wpAny _ _ (QC (.ref t) >>= _) _ _ s;refine wpAny_bind (tupleItemsOf_ ht ?_);refine wpAny_bind (wpAny_typeOf e ?_);rw[if_pos (by decide)]
 refine wpAny_bind (eg hs pl pu ?_);have a:((((sIx items.size 0 lo:Nat):Int)==0&&(1:Int)==1&&(sIx items.size items.size hi-sIx items.size 0 lo)==items.size)=true):=by
  rw[hw.1,hw.2];simp
 show wpAny _ _ (if (((sIx items.size 0 lo:Nat):Int)==0&&(1:Int)==1&&(sIx items.size items.size hi-sIx items.size 0 lo)==items.size)=true then _ else _) _ _ s
 rw[if_pos a];refine wpAny_bind (m:=Builtin.Tuple.tupleIsExact _) (wpAny_bind<|wpAny_typeOf ht.typeIs<|wpAny_pure ?_);rw[if_pos (by decide)]
 first
  |exact wpAny_bind (wpAny_rule<|wpAny_bind<|wpAny_pure<|wpAny_pure ⟨_,rfl,wpAny_pure h⟩)
  |exact wpAny_bind (wpAny_rule<|wpAny_pure ⟨_,rfl,wpAny_pure h⟩)
  |exact wpAny_bind (wpAny_rule<|wpAny_bind<|wpAny_pure ⟨_,rfl,wpAny_pure h⟩)
  |trace_state
end
end HT
namespace L3
open PySem L2
section
variable {X:Cx}{B:Bd}{K:Ng}{H:Hp}{M:Mem}{a b c:Expr}{ta tb tc:bp}{pos:Pos}
def az:g9:=λx y M Q=>match bt M x,y with
 |some xs,.int i=>match atI xs i with
  |some d=>Q d M
  |none=>False
 |some _,_=>False
 |none,y=>match x,y with
  |.str z,.int i=>z.length<=sizeLine/\match atI z.cps.toList i with
   |some c=>Q (.str ⟨#[c]⟩) M
   |none=>False
  |.ref a,y=>match mC M a y with
   |some (some d)=>Q d M
   |_=>False
  |_,_=>False
theorem Rps.atI{ds:List D}{vs:List V}{i:Int}{d:D}(r:Rps K H ds vs)(e:atI ds i=some d):∃v,L2.atI vs i=some v/\Rp K H d v:=by
 unfold L2.atI at e ⊢;rw[<- r.length];cases q:r_ ds.length i with
 |none=>rw[q]at e;cases e
 |some j=>
  rw[q]at e;exact r.get (i:=j) e
theorem DJ(hu:X.A.units+1<cLine):IxR X (λx y H Q=>∃a v,x=.ref a/\DGet H a y (some v)/\Q v H):=by
 intro i f j s Z H x y v u Q I m l h n;obtain⟨a,w,rfl,g,q⟩:=h;cases m;exact PyProof.Rows.tail_any (qV I g) PySem.F.slot_dict_getitem.lookup (zq hu I g l λo p I3 e=>⟨w,H,I3,e,q⟩) n
theorem JV(hu:X.A.units+1<cLine):IxR X (liftR2 X az):=by
 intro f j l s Z H x y v u Q I L E h F;obtain⟨U,W,M,QQ,o,G,C,h,q⟩:=h;unfold az at h
 split at h
 .rename_i T i e
  split at h
  .rename_i d J
   cases C;obtain⟨p,N,rfl,hq,r⟩:=gT o G e;obtain⟨w,O,m⟩:=r.atI J;refine HM f j l s Z H _ _ v u Q I L E ?_ F;have n:=q _ M h _ H o Frm.refl m;rcases hq with hq|hq
   .exact .inl ⟨p,N,i,w,rfl,rfl,hq,O,n⟩
   .exact .inr (.inl ⟨p,N,i,w,rfl,rfl,hq,O,n⟩)
  .exact h.elim
 .exact h.elim
 .split at h
  .obtain⟨P,h⟩:=h
   split at h
   .rename_i R S
    cases G;cases C;exact BY f j l s Z H _ _ v u Q I L E ⟨_,_,R,rfl,rfl,P,S,q _ M h _ H o Frm.refl rfl⟩ F
   .exact h.elim
  .split at h
   .rename_i d J
    cases G;rcases eR o C J with⟨z,_⟩|⟨d',w,z,g,m⟩
    .cases z
    .cases z
     exact DJ hu f j l s Z H _ _ v u Q I L E ⟨_,w,rfl,g,q _ M h _ H o Frm.refl m⟩ F
   .exact h.elim
  .exact h.elim
abbrev F7:=Dl->Mem->(Option Int->Mem->Prop)->Prop
inductive liftO(X:Cx)(B:Bd)(T:F7)(Z:St)(H:Hp)(Q:Option Int->Hp->Prop):Prop
 |mk (U:Dl) (M:Mem) (QQ:Option Int->Mem->Prop) (s:SR X B U M Z H) (h:T U M QQ) (u:∀o M',QQ o M'->∀H',RepH X.K H' M'->Frm M H M' H'->Q o H'):liftO X B T Z H Q
def DO(X:Cx)(B:Bd)(e:Option Expr)(T:F7):Prop:=PO X e (liftO X B T)
theorem yd{X:Cx}{e:Option Expr}{t t':TO}(h:PO X e t)(w:∀Z H Q,t' Z H Q->t Z H Q):PO X e t':=λf s Z H Q I q=>h f s Z H Q I (w Z H Q q)
def aU:F7:=λ_ M Q=>Q none M
def br(t:bp):F7:=λU M Q=>t U M λx M1=>match x with
 |.int i=>Q (some i) M1
 |_=>False
theorem EO:DO X B none aU:=yd Fg λZ H Q ⟨U,M,QQ,s,h,u⟩=>u none M h H s.rh Frm.refl
theorem Db{e:Expr}{te:bp}(h:DE X B e te):DO X B (some e) (br te):=by
 refine yd (EG h) ?_
 rintro Z H Q ⟨U,M,QQ,s,h,u⟩
 refine⟨U,M,_,s,h,λd M' q v H' f i r=>?_⟩;cases d with
 |int j=>exact⟨j,r,u _ M' q H' f i⟩
 |_=>exact(show False from q).elim
def ff(xs:List D)(lo hi:Option Int):List D:=(xs.drop<|HT.sIx xs.length 0 lo).take (HT.sIx xs.length xs.length hi-HT.sIx xs.length 0 lo)
theorem Rps.cut{ds:List D}{vs:List V}(r:Rps K H ds vs)(lo hi:Option Int):Rps K H (ff ds lo hi) (jg vs lo hi):=by
 unfold ff jg;rw[<- r.length];exact(r.drop _).take _
def oSl(x:D)(lo hi:Option Int)(M:Mem)(Q:DK):Prop:=match x with
 |.tup xs=>Q (.tup<|ff xs lo hi) M
 |.ml xs=>∀p,M p=none->Q (.ref p) (M.upd p<|.lst<|ff xs lo hi)
 |x=>match cP M x with
  |some xs=>∀p,M p=none->Q (.ref p) (M.upd p<|.lst<|ff xs lo hi)
  |none=>False
inductive liftSl(X:Cx)(x:V)(lo hi:Option Int)(H:Hp)(Q:VK):Prop
 |mk (d:D) (M:Mem) (QQ:DK) (rh:RepH X.K H M) (r:Rp X.K H d x) (h:oSl d lo hi M QQ) (u:Up X.K M H QQ Q):liftSl X x lo hi H Q
theorem sI{vs:List V}{lo hi:Option Int}(h:HT.sIx vs.length 0 lo=0/\HT.sIx vs.length vs.length hi=vs.length):jg vs lo hi=vs:=by
 unfold jg;rw[h.1,h.2];simp
theorem Dx:MI X (λx lo hi H Q=>∃a xs,x=.ref a/\iE X.K H a xs/\(jg xs lo hi=xs->Q (.ref a) H)/\∀p,H p=none->Q (.ref p) (upd H p<|.tup<|jg xs lo hi)):=by
 intro e s Z H x v y w lo hi z Q I m o pl j h;obtain⟨a,xs,rfl,l,u,q⟩:=h
 by_cases i:HT.sIx xs.length 0 lo=0/\HT.sIx xs.length xs.length hi=xs.length
 .cases m
  obtain⟨g,r,n,A⟩:=I.tuple l;have f:g.toArray.size=xs.length:=by rw[Na];exact r.length.symm
  refine⟨"tuple",_,Of.lookup,n.typeIs,?_⟩;exact HT.fY n o pl j (by rw[f];exact i) ⟨.ref a,H,I,rfl,u<|sI i⟩
 .exact JR e s Z H _ v y w lo hi z Q I m o pl j ⟨a,xs,rfl,l,i,q⟩
end
section
variable {X:Cx}{B:Bd}{K:Ng}{H:Hp}{M:Mem}{e:Expr}{es:List Expr}{te:bp}{lo hi:Option Expr}{tl th:F7}{pos p2 p:Pos}{t:fj}
theorem Jv:MI X (liftSl X):=by
 intro pins s Z H x v vl vu lo hi sl Q I rx hs pl pu h;obtain⟨d,M,QQ,rh,r,h,up⟩:=h;unfold oSl at h
 split at h
 .obtain⟨a,vs,rfl,ht,r⟩:=r
  refine Dx pins s Z H _ v vl vu lo hi sl Q I rx hs pl pu ⟨a,vs,rfl,ht.sq,λe=>?_,λp hp=>?_⟩
  .exact up _ M h _ H rh Frm.refl ⟨a,vs,rfl,ht,by rw[<- e];exact r.cut lo hi⟩
  .exact up _ M h _ _ (rh.new hp) (Frm.new hp) ⟨p,_,rfl,upd_same,(r.cut lo hi).mono<|Imm.new hp⟩
 .obtain⟨a,vs,rfl,hq,r⟩:=r
  refine wH pins s Z H _ v vl vu lo hi sl Q I rx hs pl pu ⟨a,vs,rfl,hq.sq,λp hp=>?_⟩;exact up _ _ (h p<|rh.fresh hp) _ _ (rh.put (by rw[hp];trivial) ⟨_,upd_same,(r.cut lo hi).mono<|Imm.new hp⟩) (Frm.put<|.inl hp) rfl
 .split at h
  .rename_i xs e
   obtain⟨a,vs,rfl,hq,r⟩:=dQ rh r e;refine wH pins s Z H _ v vl vu lo hi sl Q I rx hs pl pu ⟨a,vs,rfl,.inl hq,λp hp=>?_⟩;exact up _ _ (h p<|rh.fresh hp) _ _ (rh.put (by rw[hp];trivial) ⟨_,upd_same,(r.cut lo hi).mono<|Imm.new hp⟩) (Frm.put<|.inl hp) rfl
  .exact h.elim
def gn(te:bp)(tl th:F7):bp:=λU M Q=>te U M λx M1=>tl U M1 λl M2=>th U M2 λu M3=>oSl x l u M3 Q
theorem Bl(he:DE X B e te)(hl:DO X B lo tl)(hu:DO X B hi th):DE X B (.Subscript e (.Slice lo hi none p2) pos) (gn te tl th):=by
 refine a_ (Ay Jv he hl hu) ?_
 rintro Z H Q ⟨U,M,QQ,s,h,u⟩
 refine⟨U,M,_,s,h,λx M1 m v1 H1 a g n=>?_⟩;refine⟨U,M1,_,s.go a g,m,λl M2 o H2 c f=>?_⟩;refine⟨U,M2,_,s.go c (g.trans f),o,λw M3 j H3 b i=>?_⟩;exact⟨x,M3,QQ,b,n.mf a (f.trans i),j,u.go<|(g.trans f).trans i⟩
abbrev oH:=List D->Mem->DK->Prop
inductive liftC(X:Cx)(r:oH)(xs:List V)(H:Hp)(Q:VK):Prop
 |mk (ds:List D) (M:Mem) (QQ:DK) (rh:RepH X.K H M) (rp:Rps X.K H ds xs) (h:r ds M QQ) (u:Up X.K M H QQ Q):liftC X r xs H Q
def aQ(r:oH)(t:fj):bp:=λU M Q=>t U M λa M1=>r a M1 Q
theorem xk{r:oH}{Z:L2.St}{H:Hp}{Q:VK}(h:liftE X B (aQ r t) Z H Q):tCB (liftC X r) (liftA X B t) Z H Q:=by
 obtain⟨U,M,QQ,s,h,u⟩:=h;refine⟨U,M,_,s,h,λf M1 b i H1 a g c=>?_⟩;exact⟨f,M1,QQ,a,c,b,u.go g⟩
theorem B8{x:Str}{id:String}{r:oH}(hc:bG X (.builtin id) (liftC X r))(hg:Gl X x)(hm:X.mg x=none)(hv:bootBuiltins x=some (.builtin id))(ha:DA X B (e::es) t)(hn:x≠"__name__":=by decide)(hdb:(x==("__debug__":Str))=false:=by decide)
  (he:starEach (e::es) X.env=(false,eval e X.env)::starEach es X.env:=by rfl) (hpl:(backTo pos<|starEach es X.env).any (·.1)=false:=by rfl):DE X B (.Call (.Name x p) (e::es) [] pos) (aQ r t):=
 a_ (A1 hc hg hm hv ha hn hdb he hpl) λ_ _ _ h=>xk h
theorem yr{x:Str}{T:String}{r:oH}(hc:bG X (.type T) (liftC X r))(hg:Gl X x)(hm:X.mg x=none)(hv:bootBuiltins x=some (.type T))(ha:DA X B (e::es) t)(hn:x≠"__name__":=by decide)(hdb:(x==("__debug__":Str))=false:=by decide)
  (he:starEach (e::es) X.env=(false,eval e X.env)::starEach es X.env:=by rfl) (hpl:(backTo pos<|starEach es X.env).any (·.1)=false:=by rfl):DE X B (.Call (.Name x p) (e::es) [] pos) (aQ r t):=
 a_ (yV hc hg hm hv ha hn hdb he hpl) λ_ _ _ h=>xk h
theorem fL{ds:List D}{vs:List V}{d:D}(r:Rps K H [d] vs):∃v,vs=[v]/\Rp K H d v:=by
 obtain⟨v,w,rfl,a,b⟩:=r;cases b;exact⟨v,rfl,a⟩
theorem Da{vs:List V}{d e:D}(r:Rps K H [d,e] vs):∃v w,vs=[v,w]/\Rp K H d v/\Rp K H e w:=by
 obtain⟨v,w,rfl,a,b⟩:=r;obtain⟨f,g,rfl,c,b⟩:=b;cases b;exact⟨v,f,rfl,a,c⟩
def bh:oH:=λb M Q=>match b with
 |[d]=>match bt M d with
  |some xs=>Q (.int xs.length) M
  |none=>match d with
   |.str z=>z.length<=sizeLine/\Q (.int z.length) M
   |.ref a=>match M a with
    |some (.dK kvs)=>Q (.int kvs.length) M
    |_=>False
   |_=>False
 |_=>False
theorem yE:bG X (.builtin "len") (liftC X bh):=by
 intro a s Z H y c Q I r h;obtain⟨ds,M,QQ,b,u,h,f⟩:=h;unfold bh at h
 split at h
 .obtain⟨v,rfl,g⟩:=fL (ds:=[]) u
  split at h
  .rename_i x e
   obtain⟨q,l,rfl,i,m⟩:=gT b g e;exact pW a s Z H _ c Q I r ⟨q,l,rfl,i,by rw[<- m.length];exact f _ M h _ H b Frm.refl rfl⟩
  .split at h
   .cases g
    exact pJ a s Z H _ c Q I r ⟨_,rfl,h.1,f _ M h.2 _ H b Frm.refl rfl⟩
   .split at h
    .rename_i o e
     cases g;obtain⟨j,n,w⟩:=b _ _ e;exact yu a s Z H _ c Q I r ⟨_,j,rfl,n,by rw[<- w.length];exact f _ M h _ H b Frm.refl rfl⟩
    .exact h.elim
   .exact h.elim
 .exact h.elim
def dN:oH:=λa M Q=>match a with
 |[d]=>match bt M d with
  |some xs=>∀p,M p=none->Q (.ref p) (M.upd p<|.lst xs)
  |none=>False
 |_=>False
theorem tQ:bG X (.type "list") (liftC X dN):=by
 intro pins s Z H xs us Q I r h;obtain⟨ds,M,QQ,rh,rp,h,up⟩:=h;unfold dN at h
 split at h
 .obtain⟨v,rfl,rv⟩:=fL (ds:=[]) rp
  split at h
  .rename_i ys e
   obtain⟨q,vs,rfl,hq,rr⟩:=gT rh rv e;refine ow pins s Z H _ us Q I r ⟨q,vs,rfl,hq,λp hp=>?_⟩;exact up _ _ (h p<|rh.fresh hp) _ _ (rh.put (by rw[hp];trivial) ⟨_,upd_same,rr.mono<|Imm.new hp⟩) (Frm.put<|.inl hp) rfl
  .exact h.elim
 .exact h.elim
def aJ:oH:=λa M Q=>match a with
 |[.tup xs]=>Q (.tup xs) M
 |[d]=>match cP M d with
  |some xs=>Q (.tup xs) M
  |none=>False
 |_=>False
theorem qo:bG X (.type "tuple") (liftC X aJ):=by
 intro a s Z H w j Q I r h;obtain⟨ds,M,QQ,g,m,h,l⟩:=h;unfold aJ at h
 split at h
 .obtain⟨v,rfl,i⟩:=fL (ds:=[]) m
  obtain⟨q,b,rfl,n,c⟩:=i;exact gc a s Z H _ j Q I r ⟨q,b,rfl,.inr ⟨n.sq,l _ M h _ H g Frm.refl ⟨q,b,rfl,n,c⟩⟩⟩
 .obtain⟨v,rfl,i⟩:=fL (ds:=[]) m
  split at h
  .rename_i u e
   obtain⟨q,b,rfl,o,c⟩:=dQ g i e;refine gc a s Z H _ j Q I r ⟨q,b,rfl,.inl ⟨.inl o,λp f=>?_⟩⟩;exact l _ M h _ _ (g.new f) (Frm.new f) ⟨p,_,rfl,upd_same,c.mono<|Imm.new f⟩
  .exact h.elim
 .exact h.elim
def cK(M:Mem):D->Option String
 |.non=>some "NoneType"
 |.bl _=>some "bool"
 |.int _=>some "int"
 |.str _=>some "str"
 |.tup _=>some "tuple"
 |.lst _=>some "list"
 |.ref a=>match M a with
  |some (.lst _)=>some "list"
  |some (.dK _)=>some "dict"
  |some (.dT _)=>some "dict"
  |_=>none
 |_=>none
def bJ(t T:String):Bool:=t==T||(t=="bool"&&T=="int")
def eN(T:String):Bool:=T=="bool"||T=="int"||T=="str"||T=="tuple"||T=="list"||T=="dict"
theorem Ew:(∀K:Ng,∀t∈["NoneType","bool","int","str","tuple","list","dict"],∀T∈["bool","int","str","tuple","list","dict"],W.kitOne K (.type t) (.type T)=some (bJ t T)):=by
 intro K t a T b;simp only[Nl,NK,or_false]at a b;rcases a with rfl|rfl|rfl|rfl|rfl|rfl|rfl<;>rcases b with rfl|rfl|rfl|rfl|rfl|rfl<;>kernel_rfl
theorem D7{d:D}{v:V}{t:String}(rh:RepH K H M)(r:Rp K H d v)(e:cK M d=some t):TyOf K H v (.type t)/\t∈["NoneType","bool","int","str","tuple","list","dict"]:=by
 cases d with
 |non=>cases r;cases e;exact⟨.non,by simp⟩
 |bl b=>cases r;cases e;exact⟨.bl b,by simp⟩
 |int i=>cases r;cases e;exact⟨.int i,by simp⟩
 |str x=>cases r;cases e;exact⟨.str x,by simp⟩
 |ty n=>cases e
 |mt n=>cases e
 |ml n=>cases e
 |tup xs=>
  cases e;obtain⟨q,l,rfl,f,j⟩:=r;exact⟨.tup f,by simp⟩
 |lst xs=>
  cases e;obtain⟨q,l,rfl,⟨o,f⟩,j⟩:=r;exact⟨.frz f,by simp⟩
 |ref a=>
  cases r;simp only[cK]at e
  split at e
  .rename_i q;cases e;obtain⟨g,c,h⟩:=rh _ _ q;exact⟨.lst c,by simp⟩
  .rename_i q;cases e;obtain⟨g,c,h⟩:=rh _ _ q;exact⟨.dK c,by simp⟩
  .rename_i q;cases e;obtain⟨g,c,h⟩:=rh _ _ q;exact⟨.dT c,by simp⟩
  .cases e
def bZ:oH:=λa M Q=>match a with
 |[d,.ty T]=>eN T=true/\match cK M d with
  |some t=>Q (.bl<|bJ t T) M
  |none=>False
 |_=>False
theorem pQ:bG X (.builtin "isinstance") (liftC X bZ):=by
 intro a s Z H o g Q I r h;obtain⟨n,M,QQ,f,j,h,i⟩:=h;unfold bZ at h
 split at h
 .rename_i d T
  obtain⟨c,h⟩:=h;obtain⟨v,w,rfl,m,b⟩:=Da j;cases b
  split at h
  .rename_i t e
   obtain⟨ty,l⟩:=D7 f m e;refine r8 a s Z H _ g Q I r ⟨v,T,.type t,_,rfl,ty,Ew X.K t l T ?_,i _ M h _ H f Frm.refl rfl⟩;simp only[eN,Bool.or_eq_true,beq_iff_eq]at c;simp only[Nl,NK,or_false];rcases c with ((((h|h)|h)|h)|h)|h<;>simp[h]
  .exact h.elim
 .exact h.elim
def m8:List D->Option (List Bool)
 |[]=>some []
 |.bl b::ds=>match m8 ds with
  |some bs=>some (b::bs)
  |none=>none
 |_=>none
theorem iO:∀{ds:List D} {vs:List V} {bs:List Bool},Rps K H ds vs->m8 ds=some bs->vs=bs.map V.bl
 |[],vs,bs,r,e=>by cases e;exact r
 |d::ds,vs,bs,r,e=>by
  obtain⟨v,h,rfl,a,b⟩:=r;cases d with
  |bl c=>
   simp only[m8]at e
   split at e
   .rename_i g f
    cases e;cases a;rw[iO b f];rfl
   .cases e
  |_=>cases e
def tG:oH:=λa M Q=>match a with
 |[d]=>match cP M d with
  |some xs=>match m8 xs with
   |some bs=>Q (.bl<|bs.all id) M
   |none=>False
  |none=>False
 |_=>False
theorem yO(hc:X.calm=true):bG X (.builtin "all") (liftC X tG):=by
 intro a s Z H u f Q I r h;obtain⟨ds,M,QQ,b,l,h,g⟩:=h;unfold tG at h
 split at h
 .obtain⟨v,rfl,i⟩:=fL (ds:=[]) l
  split at h
  .rename_i o e
   split at h
   .rename_i bs n
    obtain⟨q,w,rfl,c,j⟩:=dQ b i e;have m:=iO j n;subst m;exact AN hc a s Z H _ f Q I r ⟨q,bs,rfl,.inl c,g _ M h _ H b Frm.refl rfl⟩
   .exact h.elim
  .exact h.elim
 .exact h.elim
def Eu:oH:=λa M Q=>match a with
 |[.int i,.int j]=>Q (.int (if j<i then j else i)) M
 |_=>False
theorem zx(hc:X.calm=true):bG X (.builtin "min") (liftC X Eu):=by
 intro a s Z H m c Q I r h;obtain⟨l,M,QQ,i,g,h,f⟩:=h;unfold Eu at h
 split at h
 .obtain⟨v,w,rfl,j,b⟩:=Da g
  cases j;cases b;exact yN hc a s Z H _ c Q I r ⟨_,_,rfl,f _ M h _ H i Frm.refl rfl⟩
 .exact h.elim
end
mutual
def aI:D->D->Bool
 |.non,.non=>true
 |.bl a,.bl b=>a==b
 |.bl a,.int b=>(if a then 1 else 0)==b
 |.int a,.bl b=>a==(if b then 1 else 0)
 |.int a,.int b=>decide (a=b)
 |.str a,.str b=>decide (a=b)
 |.tup xs,.tup ys=>fX xs ys
 |.lst xs,.lst ys=>fX xs ys
 |_,_=>false
def fX:List D->List D->Bool
 |[],[]=>true
 |x::xs,y::ys=>aI x y&&fX xs ys
 |_,_=>false
end
mutual
def bw:Nat->D->Bool
 |_,.non=>true
 |_,.bl _=>true
 |_,.int _=>true
 |_,.str _=>true
 |n+1,.tup xs=>bV n xs
 |n+1,.lst xs=>bV n xs
 |_,_=>false
def bV:Nat->List D->Bool
 |_,[]=>true
 |n,x::xs=>bw n x&&bV n xs
end
mutual
def Hr(h:Heap):D->Value->Prop
 |.non,u=>u=.none
 |.bl b,u=>u=.bool b
 |.int i,u=>∃t,u=.int i t
 |.str x,u=>∃t,u=.str x t
 |.tup xs,u=>∃p its,u=.ref p/\h.IsTuple p (List.toArray its)/\Hrs h xs its
 |.lst xs,u=>∃p its,u=.ref p/\h.IsList p (List.toArray its)/\Hrs h xs its
 |_,_=>False
def Hrs(h:Heap):List D->List Value->Prop
 |[],us=>us=[]
 |x::xs,us=>∃u r,us=u::r/\Hr h x u/\Hrs h xs r
end
section
variable {h:Heap}
theorem Hrs.length:∀{ds:List D} {us:List Value},Hrs h ds us->ds.length=us.length
 |[],_,q=>by cases q;rfl
 |_::_,_,q=>by obtain⟨v,r,rfl,_,b⟩:=q;simp[b.length]
theorem Hrs.get:∀{ds:List D} {us:List Value},Hrs h ds us->∀(i:Nat) (h1:i<ds.length) (h2:i<us.length),Hr h ds[i] us[i]
 |[],_,_,i,h1,_=>absurd h1 (PX _)
 |x::xs,_,q,i,h1,h2=>by
  obtain⟨v,r,rfl,a,b⟩:=q;cases i with
  |zero=>exact a
  |succ i=>exact b.get i (by simpa using h1) (by simpa using h2)
theorem wS{p:Addr}{a b:Array Value}(x:h.IsTuple p a)(y:h.IsTuple p b):a=b:=by
 obtain⟨o,g,_,n,i⟩:=x;obtain⟨l,f,_,j,c⟩:=y;rw[g]at f;cases f;rw[i]at c
 injection c with e _
theorem xt{p:Addr}{a b:Array Value}(x:h.IsList p a)(y:h.IsList p b):a=b:=by
 obtain⟨o,g,_,n,i⟩:=x;obtain⟨l,f,_,j,c⟩:=y;rw[g]at f;cases f;rw[i]at c
 injection c with e _
theorem L0{p:Addr}{a b:Array Value}(x:h.IsList p a)(y:h.IsTuple p b):False:=by
 obtain⟨o,i,c,_⟩:=x;obtain⟨j,f,g,_⟩:=y;rw[i]at f;cases f;rw[c]at g
 injection g with e
 exact absurd e (by decide)
mutual
theorem z_:∀{d e:D} {u:Value},Hr h d u->Hr h e u->d=e
 |.non,e,u,a,b=>by
  cases a;cases e with
  |non=>rfl
  |bl _=>cases b
  |int _=>obtain⟨t,q⟩:=b;cases q
  |str _=>obtain⟨t,q⟩:=b;cases q
  |tup _=>obtain⟨p,i,q,_⟩:=b;cases q
  |lst _=>obtain⟨p,i,q,_⟩:=b;cases q
  |_=>exact(show False from b).elim
 |.bl c,e,u,a,b=>by
  cases a;cases e with
  |non=>cases b
  |bl _=>cases b;rfl
  |int _=>obtain⟨t,q⟩:=b;cases q
  |str _=>obtain⟨t,q⟩:=b;cases q
  |tup _=>obtain⟨p,i,q,_⟩:=b;cases q
  |lst _=>obtain⟨p,i,q,_⟩:=b;cases q
  |_=>exact(show False from b).elim
 |.int c,e,u,a,b=>by
  obtain⟨t,rfl⟩:=a;cases e with
  |non=>cases b
  |bl _=>cases b
  |int _=>obtain⟨t,q⟩:=b;cases q;rfl
  |str _=>obtain⟨t,q⟩:=b;cases q
  |tup _=>obtain⟨p,i,q,_⟩:=b;cases q
  |lst _=>obtain⟨p,i,q,_⟩:=b;cases q
  |_=>exact(show False from b).elim
 |.str c,e,u,a,b=>by
  obtain⟨t,rfl⟩:=a;cases e with
  |non=>cases b
  |bl _=>cases b
  |int _=>obtain⟨t,q⟩:=b;cases q
  |str _=>obtain⟨t,q⟩:=b;cases q;rfl
  |tup _=>obtain⟨p,i,q,_⟩:=b;cases q
  |lst _=>obtain⟨p,i,q,_⟩:=b;cases q
  |_=>exact(show False from b).elim
 |.tup xs,e,u,a,b=>by
  obtain⟨p,g,rfl,m,n⟩:=a;cases e with
  |non=>cases b
  |bl _=>cases b
  |int _=>obtain⟨t,q⟩:=b;cases q
  |str _=>obtain⟨t,q⟩:=b;cases q
  |tup ys=>
   obtain⟨o,f,q,j,l⟩:=b;cases q;have e:=wS m j;have r:g=f:=by simpa using congrArg PY e
   subst r;rw[i7 n l]
  |lst ys=>obtain⟨o,f,q,j,l⟩:=b;cases q;exact(L0 j m).elim
  |_=>exact(show False from b).elim
 |.lst xs,e,u,a,b=>by
  obtain⟨p,g,rfl,m,n⟩:=a;cases e with
  |non=>cases b
  |bl _=>cases b
  |int _=>obtain⟨t,q⟩:=b;cases q
  |str _=>obtain⟨t,q⟩:=b;cases q
  |lst ys=>
   obtain⟨o,f,q,j,l⟩:=b;cases q;have e:=xt m j;have r:g=f:=by simpa using congrArg PY e
   subst r;rw[i7 n l]
  |tup ys=>obtain⟨o,f,q,j,l⟩:=b;cases q;exact(L0 m j).elim
  |_=>exact(show False from b).elim
 |.ty _,_,_,a,_=>(show False from a).elim
 |.ref _,_,_,a,_=>(show False from a).elim
 |.mt _,_,_,a,_=>(show False from a).elim
 |.ml _,_,_,a,_=>(show False from a).elim
theorem i7:∀{ds es:List D} {us:List Value},Hrs h ds us->Hrs h es us->ds=es
 |[],es,us,a,b=>by
  cases a;cases es with
  |nil=>rfl
  |cons _ _=>obtain⟨v,r,q,_⟩:=b;cases q
 |d::ds,es,us,a,b=>by
  obtain⟨v,r,rfl,i,g⟩:=a;cases es with
  |nil=>cases b
  |cons e es=>
   obtain⟨j,l,q,f,c⟩:=b;cases q;rw[z_ i f,i7 g c]
end
mutual
theorem CC:∀{n:Nat} {d:D},bw n d=true->aI d d=true
 |_,.non,_=>by simp[aI]
 |_,.bl _,_=>by simp[aI]
 |_,.int _,_=>by simp[aI]
 |_,.str _,_=>by simp[aI]
 |0,.tup _,f=>by simp[bw]at f
 |0,.lst _,f=>by simp[bw]at f
 |n+1,.tup xs,f=>by rw[aI];exact eB (n:=n) f
 |n+1,.lst xs,f=>by rw[aI];exact eB (n:=n) f
 |_,.ty _,f=>by simp[bw]at f
 |_,.ref _,f=>by simp[bw]at f
 |_,.mt _,f=>by simp[bw]at f
 |_,.ml _,f=>by simp[bw]at f
theorem eB:∀{n:Nat} {ds:List D},bV n ds=true->fX ds ds=true
 |_,[],_=>by simp[fX]
 |n,x::xs,f=>by
  rw[bV,Oo]at f;rw[fX,CC f.1,eB f.2];rfl
end
theorem dw:∀{xs ys:List D},xs.length≠ys.length->fX xs ys=false
 |[],[],h=>absurd rfl h
 |[],_::_,_=>by simp[fX]
 |_::_,[],_=>by simp[fX]
 |x::xs,y::ys,h=>by rw[fX,dw (by simpa using h),NF]
theorem gZ:∀(xs ys:List D) (f:Nat->Bool),xs.length=ys.length->(∀j (h1:j<xs.length) (h2:j<ys.length),f j=aI xs[j] ys[j])->(NL xs.length).all f=fX xs ys
 |[],[],f,_,_=>by simp[fX]
 |[],_::_,_,h,_=>by simp at h
 |_::_,[],_,h,_=>by simp at h
 |x::xs,y::ys,f,h,hf=>by
  have a:=hf 0 (by simp) (by simp)
  have b:=gZ xs ys (λj=>f (j+1)) (by simpa using h) (λj h1 h2=>hf (j+1) (by simpa using h1) (by simpa using h2))
  rw[MZ,Qi,RE,RT,fX,<- b];simp only[List.getElem_cons_zero]at a;rw[a];rfl
theorem dB:∀{n:Nat} {xs:List D},bV n xs=true->∀(j:Nat) (h1:j<xs.length),bw n xs[j]=true
 |_,[],_,j,h1=>absurd h1 (PX _)
 |n,x::xs,f,j,h1=>by
  rw[bV,Oo]at f;cases j with
  |zero=>exact f.1
  |succ j=>exact dB f.2 j (by simpa using h1)
def lZ:D->Option V
 |.non=>some .non
 |.bl b=>some (.bl b)
 |.int i=>some (.int i)
 |.str x=>some (.str x)
 |_=>none
theorem jO{d:D}{v:V}{u:Value}(e:lZ d=some v)(r:Hr h d u):RelV v u/\Ce v=true:=by
 cases d with
 |non=>cases e;exact⟨r,rfl⟩
 |bl b=>cases e;exact⟨r,rfl⟩
 |int b=>cases e;exact⟨r,rfl⟩
 |str b=>cases e;exact⟨r,rfl⟩
 |_=>cases e
theorem qm{d e:D}{v w:V}(h1:lZ d=some v)(h2:lZ e=some w):pZ v w=aI d e:=by
 cases d with
 |non=>cases h1;cases e with|non=>cases h2;simp[pZ,aI]|bl b=>cases h2;simp[pZ,aI]|int b=>cases h2;simp[pZ,aI]|str b=>cases h2;simp[pZ,aI]|_=>cases h2
 |bl a=>cases h1;cases e with|non=>cases h2;simp[pZ,aI]|bl b=>cases h2;simp[pZ,aI]|int b=>cases h2;simp[pZ,aI]|str b=>cases h2;simp[pZ,aI]|_=>cases h2
 |int a=>cases h1;cases e with|non=>cases h2;simp[pZ,aI]|bl b=>cases h2;simp[pZ,aI]|int b=>cases h2;simp[pZ,aI];rfl|str b=>cases h2;simp[pZ,aI]|_=>cases h2
 |str a=>cases h1;cases e with|non=>cases h2;simp[pZ,aI]|bl b=>cases h2;simp[pZ,aI]|int b=>cases h2;simp[pZ,aI]|str b=>cases h2;simp[pZ,aI];rfl|_=>cases h2
 |_=>cases h1
end
theorem GB:∀(n:Nat) {A:Around} {s:Shared} {d e:D} {u w:Value},Hr s.heap d u->Hr s.heap e w->bw n d=true->bw n e=true->A.units+n<cLine->Qh A s u w (aI d e):=by
 intro n
 induction n with
 |zero=>
  intro A s d e u w h g P I Z;have Q:∃v,lZ d=some v:=by cases d<;>first|exact⟨_,rfl⟩|(simp[bw]at P)
  have O:∃v,lZ e=some v:=by cases e<;>first|exact⟨_,rfl⟩|(simp[bw]at I)
  obtain⟨v1,F⟩:=Q;obtain⟨v2,L⟩:=O;obtain⟨W,S⟩:=jO F h;obtain⟨R,T⟩:=jO L g;rw[<- qm F L];exact Bv W R S T
 |succ n ih=>
  intro A s d e u w h g P I Z;have a:A.units<cLine:=by lia
  have J:A.in1.units+n<cLine:=by show A.units+1+n<cLine;lia
  by_cases Q:∃v,lZ d=some v
  .obtain⟨v1,F⟩:=Q
   obtain⟨W,S⟩:=jO F h
   by_cases O:∃v,lZ e=some v
   .obtain⟨v2,L⟩:=O
    obtain⟨R,T⟩:=jO L g;rw[<- qm F L];exact Bv W R S T
   .cases e with
    |tup ys=>
     obtain⟨p,f,rfl,t,_⟩:=g;cases d with
     |non=>cases h;simp only[aI];exact .none_tuple t a
     |bl b=>cases h;simp only[aI];exact .bool_tuple b t a
     |int b=>obtain⟨l,rfl⟩:=h;simp only[aI];exact .int_tuple b l t a
     |str b=>obtain⟨l,rfl⟩:=h;simp only[aI];exact .str_tuple b l t a
     |_=>cases F
    |lst ys=>
     obtain⟨p,f,rfl,t,_⟩:=g;cases d with
     |non=>cases h;simp only[aI];exact .none_list t a
     |bl b=>cases h;simp only[aI];exact .bool_list b t a
     |int b=>obtain⟨l,rfl⟩:=h;simp only[aI];exact .int_list b l t a
     |str b=>obtain⟨l,rfl⟩:=h;simp only[aI];exact .str_list b l t a
     |_=>cases F
    |ty _=>exact(show False from g).elim
    |ref _=>exact(show False from g).elim
    |mt _=>exact(show False from g).elim
    |ml _=>exact(show False from g).elim
    |_=>exact absurd ⟨_,rfl⟩ O
  .cases d with
   |tup xs=>
    obtain⟨p,f,rfl,i,G⟩:=h;cases e with
    |non=>cases g;simp only[aI];exact .tuple_none i a
    |bl b=>cases g;simp only[aI];exact .tuple_bool b i a
    |int b=>obtain⟨l,rfl⟩:=g;simp only[aI];exact .tuple_int b l i a
    |str b=>obtain⟨l,rfl⟩:=g;simp only[aI];exact .tuple_str b l i a
    |tup ys=>
     obtain⟨M,c,rfl,z,B⟩:=g;rw[aI]
     by_cases N:p=M
     .subst N
      have X:f=c:=by simpa using congrArg PY (wS i z)
      subst X;rw[i7 G B,eB (n:=n) I];exact .same _
     .refine .of_refs N ?_
      have Y:=G.length;have U:=B.length;have C:∀j (q:j<f.toArray.size) (r:j<c.toArray.size),Qh A.in1 s f.toArray[j] c.toArray[j] (match xs[j]?,ys[j]? with|some x,some y=>aI x y|_,_=>false):=λj q r=>by
       have m:j<xs.length:=by rw[Y];simpa using q
       have o:j<ys.length:=by rw[U];simpa using r
       rw[MY m,MY o];exact ih (G.get j m<|by simpa using q) (B.get j o<|by simpa using r) (dB P j m) (dB I j o) J
      have:=RH (e:=λj=>match xs[j]?,ys[j]? with|some x,some y=>aI x y|_,_=>false) i z a C
      by_cases K:xs.length=ys.length
      .have E:f.toArray.size=c.toArray.size:=by simp;lia
       rw[E]at this;simp only[R3,beq_self_eq_true,PM]at this;have H:c.toArray.size=xs.length:=by simp;lia
       rw[H,gZ xs ys _ K (λj q r=>by rw[MY q,MY r])]at this
       exact this
      .have E:(f.toArray.size==c.toArray.size)=false:=by simp;lia
       rw[E,NF]at this;rw[dw K];exact this
    |lst ys=>obtain⟨M,c,rfl,z,B⟩:=g;simp only[aI];exact .tuple_list i z a
    |_=>exact(show False from g).elim
   |lst xs=>
    obtain⟨p,f,rfl,i,G⟩:=h;cases e with
    |non=>cases g;simp only[aI];exact .list_none i a
    |bl b=>cases g;simp only[aI];exact .list_bool b i a
    |int b=>obtain⟨l,rfl⟩:=g;simp only[aI];exact .list_int b l i a
    |str b=>obtain⟨l,rfl⟩:=g;simp only[aI];exact .list_str b l i a
    |lst ys=>
     obtain⟨M,c,rfl,z,B⟩:=g;rw[aI]
     by_cases N:p=M
     .subst N
      have X:f=c:=by simpa using congrArg PY (xt i z)
      subst X;rw[i7 G B,eB (n:=n) I];exact .same _
     .refine .of_refs N ?_
      have Y:=G.length;have U:=B.length
      by_cases K:xs.length=ys.length
      .have C:∀j (q:j<f.toArray.size) (r:j<c.toArray.size),Qh A.in1 s f.toArray[j] c.toArray[j] (match xs[j]?,ys[j]? with|some x,some y=>aI x y|_,_=>false):=λj q r=>by
        have m:j<xs.length:=by rw[Y];simpa using q
        have o:j<ys.length:=by rw[U];simpa using r
        rw[MY m,MY o];exact ih (G.get j m<|by simpa using q) (B.get j o<|by simpa using r) (dB P j m) (dB I j o) J
       have:=RM (e:=λj=>match xs[j]?,ys[j]? with|some x,some y=>aI x y|_,_=>false) i z (by simp;lia) a C
       have H:f.toArray.size=xs.length:=by simp;lia
       rw[H,gZ xs ys _ K (λj q r=>by rw[MY q,MY r])]at this
       exact this
      .rw[dw K]
       exact Q3 i z (by simp;lia) a
    |tup ys=>obtain⟨M,c,rfl,z,B⟩:=g;simp only[aI];exact .list_tuple i z a
    |_=>exact(show False from g).elim
   |ty _=>exact(show False from h).elim
   |ref _=>exact(show False from h).elim
   |mt _=>exact(show False from h).elim
   |ml _=>exact(show False from h).elim
   |_=>exact absurd ⟨_,rfl⟩ Q
theorem jI{n:Nat}{A:Around}{s:Shared}{xs ys:List D}{its its':List Value}(r1:Hrs s.heap xs its)(r2:Hrs s.heap ys its')(fd:bV n xs=true)(fe:bV n ys=true)(hu:A.units+n<cLine):
  ∀j (h1:j<its.toArray.size) (h2:j<its'.toArray.size),Qh A s its.toArray[j] its'.toArray[j] (match xs[j]?,ys[j]? with|some x,some y=>aI x y|_,_=>false):=λj h1 h2=>by
 have b:j<xs.length:=by rw[r1.length];simpa using h1
 have a:j<ys.length:=by rw[r2.length];simpa using h2
 rw[MY b,MY a];exact GB n (r1.get j b<|by simpa using h1) (r2.get j a<|by simpa using h2) (dB fd j b) (dB fe j a) hu
theorem jX{xs ys:List D}(hl:xs.length=ys.length):(NL xs.length).all (λj=>match xs[j]?,ys[j]? with|some x,some y=>aI x y|_,_=>false)=fX xs ys:=
 gZ xs ys _ hl (λj a b=>by rw[MY a,MY b])
theorem JJ{n:Nat}{A:Around}{s:Shared}{xs ys:List D}{p p':Addr}{its its':List Value}(t1:s.heap.IsTuple p its.toArray)(t2:s.heap.IsTuple p' its'.toArray)(r1:Hrs s.heap xs its)(r2:Hrs s.heap ys its')(fd:bw n (.tup xs)=true)(fe:bw n (.tup ys)=true)(hu:A.units+n<cLine):
  Sg A s (.ref p) (.ref p') (aI (.tup xs)<|.tup ys):=by
 cases n with
 |zero=>simp[bw]at fd
 |succ n=>
  have e:=r1.length;have f:=r2.length;have:=RH (A:=A) t1 t2 (by lia) (jI (n:=n) r1 r2 fd fe<|by show A.units+1+n<cLine;lia)
  rw[aI]
  by_cases c:xs.length=ys.length
  .have a:its.toArray.size=its'.toArray.size:=by simp;lia
   rw[a]at this;simp only[R3,beq_self_eq_true,PM]at this;have b:its'.toArray.size=xs.length:=by simp;lia
   rw[b,jX c]at this;exact this
  .have a:(its.toArray.size==its'.toArray.size)=false:=by simp;lia
   rw[a,NF]at this;rw[dw c];exact this
theorem Ih{n:Nat}{A:Around}{s:Shared}{xs ys:List D}{p p':Addr}{its its':List Value}(t1:s.heap.IsList p its.toArray)(t2:s.heap.IsList p' its'.toArray)(r1:Hrs s.heap xs its)(r2:Hrs s.heap ys its')(fd:bw n (.lst xs)=true)(fe:bw n (.lst ys)=true)(hu:A.units+n<cLine):
  Sg A s (.ref p) (.ref p') (aI (.lst xs)<|.lst ys):=by
 cases n with
 |zero=>simp[bw]at fd
 |succ n=>
  have c:=r1.length;have e:=r2.length;rw[aI]
  by_cases b:xs.length=ys.length
  .have:=RM (A:=A) t1 t2 (by simp;lia) (by lia) (jI (n:=n) r1 r2 fd fe<|by show A.units+1+n<cLine;lia)
   have a:its.toArray.size=xs.length:=by simp;lia
   rw[a,jX b]at this;exact this
  .rw[dw b]
   exact Q3 t1 t2 (by simp;lia) (by lia)
theorem zO{n:Nat}{A:Around}{s:Shared}{xs ys:List D}{p p':Addr}{its its':List Value}(t1:s.heap.IsTuple p its.toArray)(t2:s.heap.IsTuple p' its'.toArray)(r1:Hrs s.heap xs its)(r2:Hrs s.heap ys its')(fd:bw n (.tup xs)=true)(fe:bw n (.tup ys)=true)(hu:A.units+n<cLine):
  RG A s (.ref p) (.ref p') (!aI (.tup xs) (.tup ys)):=by
 cases n with
 |zero=>simp[bw]at fd
 |succ n=>
  have e:=r1.length;have f:=r2.length;have:=SeqAt.RcNeAt.tuples (A:=A) t1 t2 (by lia) (jI (n:=n) r1 r2 fd fe<|by show A.units+1+n<cLine;lia)
  rw[aI]
  by_cases c:xs.length=ys.length
  .have a:its.toArray.size=its'.toArray.size:=by simp;lia
   rw[a]at this;simp only[R3,beq_self_eq_true,PM]at this;have b:its'.toArray.size=xs.length:=by simp;lia
   rw[b,jX c]at this;exact this
  .have a:(its.toArray.size==its'.toArray.size)=false:=by simp;lia
   rw[a,NF]at this;rw[dw c];exact this
theorem BL{n:Nat}{A:Around}{s:Shared}{xs ys:List D}{p p':Addr}{its its':List Value}(t1:s.heap.IsList p its.toArray)(t2:s.heap.IsList p' its'.toArray)(r1:Hrs s.heap xs its)(r2:Hrs s.heap ys its')(fd:bw n (.lst xs)=true)(fe:bw n (.lst ys)=true)(hu:A.units+n<cLine):
  RG A s (.ref p) (.ref p') (!aI (.lst xs) (.lst ys)):=by
 cases n with
 |zero=>simp[bw]at fd
 |succ n=>
  have c:=r1.length;have e:=r2.length;rw[aI]
  by_cases b:xs.length=ys.length
  .have:=SeqAt.RcNeAt.lists (A:=A) t1 t2 (by simp;lia) (by lia) (jI (n:=n) r1 r2 fd fe<|by show A.units+1+n<cLine;lia)
   have a:its.toArray.size=xs.length:=by simp;lia
   rw[a,jX b]at this;exact this
  .rw[dw b]
   exact SeqAt.RcNeAt.lists_lengths t1 t2 (by simp;lia) (by lia)
theorem MG{n:Nat}{A:Around}{s:Shared}{d e:D}{u w:Value}(rd:Hr s.heap d u)(re:Hr s.heap e w)(fd:bw n d=true)(fe:bw n e=true)(hu:A.units+n<cLine):Sg A s u w (aI d e):=by
 have b:A.units<cLine:=by lia
 cases d with
 |non=>
  cases rd;cases e with
  |non=>
   cases re;simpa [aI,NR] using SeqAt.RcAt.none_none
  |bl y=>
   cases re;simpa [aI] using SeqAt.RcAt.none_bool y
  |int y=>
   obtain⟨a,rfl⟩:=re;simpa [aI] using SeqAt.RcAt.none_int y a
  |str y=>
   obtain⟨a,rfl⟩:=re;simpa [aI] using SeqAt.RcAt.none_str y a
  |tup y=>
   obtain⟨i,c,rfl,ty,g⟩:=re;simpa [aI] using SeqAt.RcAt.none_tuple ty b
  |lst y=>
   obtain⟨i,c,rfl,ty,g⟩:=re;simpa [aI] using SeqAt.RcAt.none_list ty b
  |_=>exact(show False from re).elim
 |bl x=>
  cases rd;cases e with
  |non=>
   cases re;simpa [aI] using SeqAt.RcAt.bool_none x
  |bl y=>
   cases re;simpa [aI,NR] using SeqAt.RcAt.bool_bool x y
  |int y=>
   obtain⟨a,rfl⟩:=re;simpa [aI,NR] using SeqAt.RcAt.bool_int x y a
  |str y=>
   obtain⟨a,rfl⟩:=re;simpa [aI] using SeqAt.RcAt.bool_str x y a
  |tup y=>
   obtain⟨i,c,rfl,ty,g⟩:=re;simpa [aI] using SeqAt.RcAt.bool_tuple x ty b
  |lst y=>
   obtain⟨i,c,rfl,ty,g⟩:=re;simpa [aI] using SeqAt.RcAt.bool_list x ty b
  |_=>exact(show False from re).elim
 |int x=>
  obtain⟨f,rfl⟩:=rd;cases e with
  |non=>
   cases re;simpa [aI] using SeqAt.RcAt.int_none x f
  |bl y=>
   cases re;simpa [aI,NR] using SeqAt.RcAt.int_bool x f y
  |int y=>
   obtain⟨a,rfl⟩:=re;simpa [aI,NR] using SeqAt.RcAt.int_int x f y a
  |str y=>
   obtain⟨a,rfl⟩:=re;simpa [aI] using SeqAt.RcAt.int_str x f y a
  |tup y=>
   obtain⟨i,c,rfl,ty,g⟩:=re;simpa [aI] using SeqAt.RcAt.int_tuple x f ty b
  |lst y=>
   obtain⟨i,c,rfl,ty,g⟩:=re;simpa [aI] using SeqAt.RcAt.int_list x f ty b
  |_=>exact(show False from re).elim
 |str x=>
  obtain⟨f,rfl⟩:=rd;cases e with
  |non=>
   cases re;simpa [aI] using SeqAt.RcAt.str_none x f
  |bl y=>
   cases re;simpa [aI] using SeqAt.RcAt.str_bool x f y
  |int y=>
   obtain⟨a,rfl⟩:=re;simpa [aI] using SeqAt.RcAt.str_int x f y a
  |str y=>
   obtain⟨a,rfl⟩:=re;simpa [aI,NR] using SeqAt.RcAt.str_str x f y a
  |tup y=>
   obtain⟨i,c,rfl,ty,g⟩:=re;simpa [aI] using SeqAt.RcAt.str_tuple x f ty b
  |lst y=>
   obtain⟨i,c,rfl,ty,g⟩:=re;simpa [aI] using SeqAt.RcAt.str_list x f ty b
  |_=>exact(show False from re).elim
 |tup x=>
  obtain⟨m,j,rfl,h,l⟩:=rd;cases e with
  |non=>
   cases re;simpa [aI] using SeqAt.RcAt.tuple_none h b
  |bl y=>
   cases re;simpa [aI] using SeqAt.RcAt.tuple_bool y h b
  |int y=>
   obtain⟨a,rfl⟩:=re;simpa [aI] using SeqAt.RcAt.tuple_int y a h b
  |str y=>
   obtain⟨a,rfl⟩:=re;simpa [aI] using SeqAt.RcAt.tuple_str y a h b
  |tup y=>
   obtain⟨i,c,rfl,ty,g⟩:=re;exact JJ h ty l g fd fe hu
  |lst y=>
   obtain⟨i,c,rfl,ty,g⟩:=re;simpa [aI] using SeqAt.RcAt.tuple_list h ty b
  |_=>exact(show False from re).elim
 |lst x=>
  obtain⟨m,j,rfl,h,l⟩:=rd;cases e with
  |non=>
   cases re;simpa [aI] using SeqAt.RcAt.list_none h b
  |bl y=>
   cases re;simpa [aI] using SeqAt.RcAt.list_bool y h b
  |int y=>
   obtain⟨a,rfl⟩:=re;simpa [aI] using SeqAt.RcAt.list_int y a h b
  |str y=>
   obtain⟨a,rfl⟩:=re;simpa [aI] using SeqAt.RcAt.list_str y a h b
  |tup y=>
   obtain⟨i,c,rfl,ty,g⟩:=re;simpa [aI] using SeqAt.RcAt.list_tuple h ty b
  |lst y=>
   obtain⟨i,c,rfl,ty,g⟩:=re;exact Ih h ty l g fd fe hu
  |_=>exact(show False from re).elim
 |_=>exact(show False from rd).elim
theorem Eg{n:Nat}{A:Around}{s:Shared}{d e:D}{u w:Value}(rd:Hr s.heap d u)(re:Hr s.heap e w)(fd:bw n d=true)(fe:bw n e=true)(hu:A.units+n<cLine):RG A s u w (!aI d e):=by
 have b:A.units<cLine:=by lia
 cases d with
 |non=>
  cases rd;cases e with
  |non=>
   cases re;simpa [aI,NR] using SeqAt.RcNeAt.none_none
  |bl y=>
   cases re;simpa [aI] using SeqAt.RcNeAt.none_bool y
  |int y=>
   obtain⟨a,rfl⟩:=re;simpa [aI] using SeqAt.RcNeAt.none_int y a
  |str y=>
   obtain⟨a,rfl⟩:=re;simpa [aI] using SeqAt.RcNeAt.none_str y a
  |tup y=>
   obtain⟨i,c,rfl,ty,g⟩:=re;simpa [aI] using SeqAt.RcNeAt.none_tuple ty b
  |lst y=>
   obtain⟨i,c,rfl,ty,g⟩:=re;simpa [aI] using SeqAt.RcNeAt.none_list ty b
  |_=>exact(show False from re).elim
 |bl x=>
  cases rd;cases e with
  |non=>
   cases re;simpa [aI] using SeqAt.RcNeAt.bool_none x
  |bl y=>
   cases re;simpa [aI,NR] using SeqAt.RcNeAt.bool_bool x y
  |int y=>
   obtain⟨a,rfl⟩:=re;simpa [aI,NR] using SeqAt.RcNeAt.bool_int x y a
  |str y=>
   obtain⟨a,rfl⟩:=re;simpa [aI] using SeqAt.RcNeAt.bool_str x y a
  |tup y=>
   obtain⟨i,c,rfl,ty,g⟩:=re;simpa [aI] using SeqAt.RcNeAt.bool_tuple x ty b
  |lst y=>
   obtain⟨i,c,rfl,ty,g⟩:=re;simpa [aI] using SeqAt.RcNeAt.bool_list x ty b
  |_=>exact(show False from re).elim
 |int x=>
  obtain⟨f,rfl⟩:=rd;cases e with
  |non=>
   cases re;simpa [aI] using SeqAt.RcNeAt.int_none x f
  |bl y=>
   cases re;simpa [aI,NR] using SeqAt.RcNeAt.int_bool x f y
  |int y=>
   obtain⟨a,rfl⟩:=re;simpa [aI,NR] using SeqAt.RcNeAt.int_int x f y a
  |str y=>
   obtain⟨a,rfl⟩:=re;simpa [aI] using SeqAt.RcNeAt.int_str x f y a
  |tup y=>
   obtain⟨i,c,rfl,ty,g⟩:=re;simpa [aI] using SeqAt.RcNeAt.int_tuple x f ty b
  |lst y=>
   obtain⟨i,c,rfl,ty,g⟩:=re;simpa [aI] using SeqAt.RcNeAt.int_list x f ty b
  |_=>exact(show False from re).elim
 |str x=>
  obtain⟨f,rfl⟩:=rd;cases e with
  |non=>
   cases re;simpa [aI] using SeqAt.RcNeAt.str_none x f
  |bl y=>
   cases re;simpa [aI] using SeqAt.RcNeAt.str_bool x f y
  |int y=>
   obtain⟨a,rfl⟩:=re;simpa [aI] using SeqAt.RcNeAt.str_int x f y a
  |str y=>
   obtain⟨a,rfl⟩:=re;simpa [aI,NR] using SeqAt.RcNeAt.str_str x f y a
  |tup y=>
   obtain⟨i,c,rfl,ty,g⟩:=re;simpa [aI] using SeqAt.RcNeAt.str_tuple x f ty b
  |lst y=>
   obtain⟨i,c,rfl,ty,g⟩:=re;simpa [aI] using SeqAt.RcNeAt.str_list x f ty b
  |_=>exact(show False from re).elim
 |tup x=>
  obtain⟨m,j,rfl,h,l⟩:=rd;cases e with
  |non=>
   cases re;simpa [aI] using SeqAt.RcNeAt.tuple_none h b
  |bl y=>
   cases re;simpa [aI] using SeqAt.RcNeAt.tuple_bool y h b
  |int y=>
   obtain⟨a,rfl⟩:=re;simpa [aI] using SeqAt.RcNeAt.tuple_int y a h b
  |str y=>
   obtain⟨a,rfl⟩:=re;simpa [aI] using SeqAt.RcNeAt.tuple_str y a h b
  |tup y=>
   obtain⟨i,c,rfl,ty,g⟩:=re;exact zO h ty l g fd fe hu
  |lst y=>
   obtain⟨i,c,rfl,ty,g⟩:=re;simpa [aI] using SeqAt.RcNeAt.tuple_list h ty b
  |_=>exact(show False from re).elim
 |lst x=>
  obtain⟨m,j,rfl,h,l⟩:=rd;cases e with
  |non=>
   cases re;simpa [aI] using SeqAt.RcNeAt.list_none h b
  |bl y=>
   cases re;simpa [aI] using SeqAt.RcNeAt.list_bool y h b
  |int y=>
   obtain⟨a,rfl⟩:=re;simpa [aI] using SeqAt.RcNeAt.list_int y a h b
  |str y=>
   obtain⟨a,rfl⟩:=re;simpa [aI] using SeqAt.RcNeAt.list_str y a h b
  |tup y=>
   obtain⟨i,c,rfl,ty,g⟩:=re;simpa [aI] using SeqAt.RcNeAt.list_tuple h ty b
  |lst y=>
   obtain⟨i,c,rfl,ty,g⟩:=re;exact BL h ty l g fd fe hu
  |_=>exact(show False from re).elim
 |_=>exact(show False from rd).elim
section
variable {X:Cx}{B:Bd}{pins:List (Addr×Obj)}{Z:L2.St}{H:Hp}{s:Shared}{M:Mem}
mutual
theorem BD(I:Inv X pins Z H s):∀{n:Nat} {d:D} {v:V} {u:Value},bw n d=true->Rp X.K H d v->RelV v u->Hr s.heap d u
 |_,.non,v,u,_,r,q=>by cases r;exact q
 |_,.bl _,v,u,_,r,q=>by cases r;exact q
 |_,.int _,v,u,_,r,q=>by cases r;exact q
 |_,.str _,v,u,_,r,q=>by cases r;exact q
 |n+1,.tup xs,v,u,f,r,q=>by
  obtain⟨p,e,rfl,t,r⟩:=r;cases q;obtain⟨a,c,b,_⟩:=I.tuple t.sq;exact⟨p,a,rfl,b,fu I (n:=n) f r c⟩
 |n+1,.lst xs,v,u,f,r,q=>by
  obtain⟨p,e,rfl,t,r⟩:=r;cases q;obtain⟨a,c,b,_⟩:=I.list t.sq;exact⟨p,a,rfl,b.isList,fu I (n:=n) f r c⟩
 |0,.tup _,_,_,f,_,_=>by simp[bw]at f
 |0,.lst _,_,_,f,_,_=>by simp[bw]at f
 |_,.ty _,_,_,f,_,_=>by simp[bw]at f
 |_,.ref _,_,_,f,_,_=>by simp[bw]at f
 |_,.mt _,_,_,f,_,_=>by simp[bw]at f
 |_,.ml _,_,_,f,_,_=>by simp[bw]at f
theorem fu(I:Inv X pins Z H s):∀{n:Nat} {ds:List D} {vs:List V} {us:List Value},bV n ds=true->Rps X.K H ds vs->Vals vs us->Hrs s.heap ds us
 |_,[],vs,us,_,r,q=>by cases r;cases q;rfl
 |n,d::ds,vs,us,f,r,q=>by
  obtain⟨v,c,rfl,a,b⟩:=r;rw[bV,Oo]at f;cases q with
  |cons q1 q2=>exact⟨_,_,rfl,BD I f.1 a q1,fu I f.2 b q2⟩
end
def dv(M:Mem):D->D
 |.ref a=>match M a with
  |some (.lst xs)=>.lst xs
  |_=>.ref a
 |d=>d
theorem n6(I:Inv X pins Z H s){n:Nat}{d:D}{v:V}{u:Value}(rh:RepH X.K H M)(f:bw n (dv M d)=true)(r:Rp X.K H d v)(q:RelV v u):Hr s.heap (dv M d) u:=by
 cases d with
 |ref a=>
  cases r;simp only[dv]at f ⊢
  split at f
  .rename_i j e
   obtain⟨l,g,i⟩:=rh _ _ e;obtain⟨b,c,h,_⟩:=I.list (iV g);cases q;cases n with
   |zero=>simp[bw]at f
   |succ n=>exact⟨a,b,rfl,h.isList,fu I (n:=n) f i c⟩
  .simp[bw]at f
 |_=>exact BD I f r q
def cI:g9:=λx y M Q=>bw 60 (dv M x)=true/\bw 60 (dv M y)=true/\Q (.bl<|aI (dv M x)<|dv M y) M
def iX:g9:=λx y M Q=>bw 60 (dv M x)=true/\bw 60 (dv M y)=true/\Q (.bl<|!aI (dv M x) (dv M y)) M
theorem zR(hu:X.A.units+64<cLine):du X (compareOp .Eq) (liftR2 X cI):=by
 intro pins s Z H x y v u Q I j i h;obtain⟨l,m,M,QQ,a,g,f,⟨c,b,h⟩,e⟩:=h;exact MG (n6 I a c g j) (n6 I a b f i) c b (by lia) _ _ _ _ ⟨.bl _,H,I,rfl,e _ M h _ H a Frm.refl rfl⟩
theorem Bz(hu:X.A.units+64<cLine):du X (compareOp .NotEq) (liftR2 X iX):=by
 intro pins s Z H x y v u Q I j i h;obtain⟨l,m,M,QQ,a,g,f,⟨c,b,h⟩,e⟩:=h;exact Eg (n6 I a c g j) (n6 I a b f i) c b (by lia) _ _ _ _ ⟨.bl _,H,I,rfl,e _ M h _ H a Frm.refl rfl⟩
open Classical in
noncomputable def rX(h:Heap)(x:D)(u:Value):Bool:=if q:∃d,Hr h d u then aI q.choose x else false
theorem Bm{h:Heap}{x d:D}{u:Value}(r:Hr h d u):rX h x u=aI d x:=by
 have q:∃d,Hr h d u:=⟨d,r⟩;unfold rX;rw[dif_pos q,z_ q.choose_spec r]
theorem gE{h:Heap}{x:D}:∀{ds:List D} {us:List Value},Hrs h ds us->us.any (rX h x)=ds.any λd=>aI d x
 |[],_,r=>by cases r;rfl
 |d::ds,_,r=>by
  obtain⟨v,c,rfl,a,b⟩:=r;rw[OU,OU,Bm a,gE b]
theorem ip{A:Around}{n:Nat}{x:D}{w:Value}(rx:Hr s.heap x w)(fx:bw n x=true)(hu:A.units+n<cLine):∀{ds:List D} {us:List Value},Hrs s.heap ds us->bV n ds=true->∀u∈us,Qh A s u w (rX s.heap x u)
 |[],_,r,_,u,hu=>by cases r;cases hu
 |d::ds,_,r,f,u,h=>by
  obtain⟨v,c,rfl,a,b⟩:=r;rw[bV,Oo]at f;rcases Nl.mp h with rfl|h
  .rw[Bm a];exact GB n a rx f.1 fx hu
  .exact ip rx fx hu b f.2 u h
def qk(M:Mem)(x y:D):Option Bool:=match bt M y with
 |some xs=>if bw 60 (dv M x)=true/\bV 60 xs=true then some (xs.any λd=>aI d (dv M x)) else none
 |none=>match y with
  |.ref a=>match mC M a x with
   |some o=>some o.isSome
   |none=>none
  |_=>none
def uu:g9:=λx y M Q=>match qk M x y with
 |some k=>Q (.bl k) M
 |none=>False
def k_:g9:=λx y M Q=>match qk M x y with
 |some k=>Q (.bl<|!k) M
 |none=>False
theorem Jk(hu:X.A.units+64<cLine):du X (compareOp .In) (liftR2 X uu):=by
 intro pins s Z H x y v u Q I l q h;obtain⟨b,N,M,QQ,i,C,n,h,E⟩:=h;unfold uu at h
 split at h
 .rename_i k e
  have fin:=E _ M h _ H i Frm.refl rfl;unfold qk at e
  split at e
  .rename_i K J
   split at e
   .rename_i f
    cases e;obtain⟨p,L,rfl,hq,r⟩:=gT i n J;cases q;have z:=n6 I i f.1 C l;rcases hq with hq|hq
    .obtain⟨a,m,pl,_⟩:=I.list hq
     have c:=fu I f.2 r m;refine SeqAt.in_listAt (rX s.heap<|dv M b) pl.isList (λw j=>ip z f.1 (by show X.A.units+1+60<cLine;lia) c f.2 w (by simpa using j)) ⟨.bl _,H,I,rfl,?_⟩
     rw[show a.toArray.any (rX s.heap<|dv M b)=a.any (rX s.heap<|dv M b) by simp,gE c]
     exact fin
    .obtain⟨a,m,pl,_⟩:=I.tuple hq
     have c:=fu I f.2 r m;refine SeqAt.in_tupleAt (rX s.heap<|dv M b) pl (λw j=>ip z f.1 (by show X.A.units+1+60<cLine;lia) c f.2 w (by simpa using j)) ⟨.bl _,H,I,rfl,?_⟩
     rw[show a.toArray.any (rX s.heap<|dv M b)=a.any (rX s.heap<|dv M b) by simp,gE c]
     exact fin
   .cases e
  .split at e
   .split at e
    .rename_i o F
     cases e;cases n;cases q;rcases eR i C F with⟨rfl,g⟩|⟨d,w,rfl,g,_⟩
     .exact Kn (by lia) I g l λG I'=>⟨.bl _,H,I',rfl,fin⟩
     .exact Kn (by lia) I g l λG I'=>⟨.bl _,H,I',rfl,fin⟩
    .cases e
   .cases e
 .exact h.elim
theorem zC(hu:X.A.units+64<cLine):du X (compareOp .NotIn) (liftR2 X k_):=by
 intro pins s Z H x y v u Q I l q h;obtain⟨b,N,M,QQ,i,C,n,h,E⟩:=h;unfold k_ at h
 split at h
 .rename_i k e
  have fin:=E _ M h _ H i Frm.refl rfl;unfold qk at e
  split at e
  .rename_i K J
   split at e
   .rename_i f
    cases e;obtain⟨p,L,rfl,hq,r⟩:=gT i n J;cases q;have z:=n6 I i f.1 C l;rcases hq with hq|hq
    .obtain⟨a,m,pl,_⟩:=I.list hq
     have c:=fu I f.2 r m;refine SeqAt.notIn_listAt (rX s.heap<|dv M b) pl.isList (λw j=>ip z f.1 (by show X.A.units+1+60<cLine;lia) c f.2 w (by simpa using j)) ⟨.bl _,H,I,rfl,?_⟩
     rw[show a.toArray.any (rX s.heap<|dv M b)=a.any (rX s.heap<|dv M b) by simp,gE c]
     exact fin
    .obtain⟨a,m,pl,_⟩:=I.tuple hq
     have c:=fu I f.2 r m;refine SeqAt.notIn_tupleAt (rX s.heap<|dv M b) pl (λw j=>ip z f.1 (by show X.A.units+1+60<cLine;lia) c f.2 w (by simpa using j)) ⟨.bl _,H,I,rfl,?_⟩
     rw[show a.toArray.any (rX s.heap<|dv M b)=a.any (rX s.heap<|dv M b) by simp,gE c]
     exact fin
   .cases e
  .split at e
   .split at e
    .rename_i o F
     cases e;cases n;cases q;rcases eR i C F with⟨rfl,g⟩|⟨d,w,rfl,g,_⟩
     .exact wL (by lia) I g l λG I'=>⟨.bl _,H,I',rfl,fin⟩
     .exact wL (by lia) I g l λG I'=>⟨.bl _,H,I',rfl,fin⟩
    .cases e
   .cases e
 .exact h.elim
end
structure DEnds where
 nx:Dl->Mem->Prop
 rt:DK
 bk:Dl->Mem->Prop:=λ_ _=>False
 ct:Dl->Mem->Prop:=λ_ _=>False
abbrev au:=DEnds->Dl->Mem->Prop
def UpN(X:Cx)(B:Bd)(M:Mem)(H:Hp)(QQ:Dl->Mem->Prop)(Q:L2.St->Hp->Prop):Prop:=∀U M',QQ U M'->∀Z H',Frm M H M' H'->SR X B U M' Z H'->Q Z H'
theorem UpN.go{X:Cx}{B:Bd}{M M1:Mem}{H H1:Hp}{QQ:Dl->Mem->Prop}{Q:L2.St->Hp->Prop}(u:UpN X B M H QQ Q)(i:Frm M H M1 H1):UpN X B M1 H1 QQ Q:=λU M q Z H' a b=>u U M q Z H' (i.trans a) b
structure UpD(X:Cx)(B:Bd)(M:Mem)(H:Hp)(DD:DEnds)(D:Ends):Prop where
 nx:UpN X B M H DD.nx D.nx
 rt:Up X.K M H DD.rt D.rt
 bk:UpN X B M H DD.bk D.bk
 ct:UpN X B M H DD.ct D.ct
theorem UpD.go{X:Cx}{B:Bd}{M M1:Mem}{H H1:Hp}{DD:DEnds}{D:Ends}(u:UpD X B M H DD D)(i:Frm M H M1 H1):UpD X B M1 H1 DD D:=⟨u.nx.go i,u.rt.go i,u.bk.go i,u.ct.go i⟩
inductive liftS(X:Cx)(B:Bd)(T:au)(D:Ends)(Z:St)(H:Hp):Prop
 |mk (U:Dl) (M:Mem) (DD:DEnds) (s:SR X B U M Z H) (h:T DD U M) (u:UpD X B M H DD D):liftS X B T D Z H
def DS(X:Cx)(B:Bd)(st:Stmt)(T:au):Prop:=PS X st (liftS X B T)
def zF(X:Cx)(B:Bd)(st:List Stmt)(T:au):Prop:=wo X st (liftS X B T)
section
variable {X:Cx}{B:Bd}{st:Stmt}{rest:List Stmt}{t u:au}{e:Expr}{te:bp}{pos:Pos}
def aE:au:=λD U M=>D.nx U M
def ao(t u:au):au:=λD U M=>t { D with nx:=u D } U M
theorem EY:zF X B [] aE:=kZ De λD Z H ⟨U,M,DD,s,h,a⟩=>a.nx U M h Z H Frm.refl s
theorem gs(h1:DS X B st t)(h2:zF X B rest u):zF X B (st::rest) (ao t u):=by
 refine kZ (Cw h1 h2) ?_
 rintro D Z H ⟨U,M,DD,s,h,a⟩
 exact⟨U,M,{ DD with nx:=u DD },s,h,⟨λb M' q f H' i c=>⟨b,M',DD,c,q,a.go i⟩,a.rt,a.bk,a.ct⟩⟩
theorem jS(h1:DS X B st t):zF X B [st] t:=Fq h1
def cb(te:bp):au:=λD U M=>te U M λ_ M1=>D.nx U M1
theorem EJ(he:DE X B e te)(hs:swapsWith e none pos.line X.env=pure false:=by rfl):DS X B (.Expr e pos) (cb te):=by
 refine ci (Du he hs) ?_
 rintro D Z H ⟨U,M,DD,s,h,b⟩
 exact⟨U,M,_,s,h,λd M' q v H' a i r=>b.nx U M' q Z H' i (s.go a i)⟩
def aC(te:bp):au:=λD U M=>te U M D.rt
theorem Jh(he:DE X B e te):DS X B (.Return (some e) pos) (aC te):=by
 refine ci (Hi he) ?_
 rintro D Z H ⟨U,M,DD,s,h,a⟩
 exact⟨U,M,_,s,h,a.rt⟩
def aL(c:eG)(t u:au):au:=λD U M=>c U M λb M1=>if b=true then t D U M1 else u D U M1
theorem L9{c:Expr}{a b:List Stmt}{tc:eG}(hc:DT X B c tc)(ha:zF X B a t)(hb:zF X B b u):DS X B (.If c a b pos) (aL tc t u):=by
 refine ci (K_ hc ha hb) ?_
 rintro D Z H ⟨U,M,DD,s,h,g⟩
 refine⟨U,M,_,s,h,λc M' q H' f i=>?_⟩;cases c with
 |true=>rw[if_pos rfl]at q ⊢;exact⟨U,M',DD,s.go f i,q,g.go i⟩
 |false=>rw[if_neg NA]at q ⊢;exact⟨U,M',DD,s.go f i,q,g.go i⟩
abbrev jn:=D->Dl->Mem->(Dl->Mem->Prop)->Prop
abbrev mG:=List D->Dl->Mem->(Dl->Mem->Prop)->Prop
inductive liftG(X:Cx)(B:Bd)(g:jn)(v:V)(Z:St)(H:Hp)(Q:St->Hp->Prop):Prop
 |mk (d:L3.D) (U:Dl) (M:Mem) (QQ:Dl->Mem->Prop) (s:SR X B U M Z H) (r:Rp X.K H d v) (h:g d U M QQ) (u:UpN X B M H QQ Q):liftG X B g v Z H Q
inductive liftGs(X:Cx)(B:Bd)(g:mG)(vs:List V)(Z:St)(H:Hp)(Q:St->Hp->Prop):Prop
 |mk (ds:List L3.D) (U:Dl) (M:Mem) (QQ:Dl->Mem->Prop) (s:SR X B U M Z H) (r:Rps X.K H ds vs) (h:g ds U M QQ) (u:UpN X B M H QQ Q):liftGs X B g vs Z H Q
def DG(X:Cx)(B:Bd)(tg:Expr)(g:jn):Prop:=PG X tg (liftG X B g)
def LR(X:Cx)(B:Bd)(tgs:List Expr)(g:mG):Prop:=JK X tgs (liftGs X B g)
theorem kr{tg:Expr}{t t':TG}(h:PG X tg t)(w:∀v Z H Q,t' v Z H Q->t v Z H Q):PG X tg t':=λa s Z H v u Q I r q=>h a s Z H v u Q I r (w v Z H Q q)
theorem r9{tg:List Expr}{t t':GA}(h:JK X tg t)(w:∀v Z H Q,t' v Z H Q->t v Z H Q):JK X tg t':=λa s Z H v u Q I r q=>h a s Z H v u Q I r (w v Z H Q q)
theorem SR.set{U:Dl}{M:Mem}{Z:L2.St}{H:Hp}{i:Nat}{d:D}{v:V}(s:SR X B U M Z H)(r:Rp X.K H d v):SR X B (U.set i<|some d) M (Z.set i<|some v) H:=⟨s.i0,s.rh,s.rs.set r⟩
def ah(i:Nat):jn:=λd U M Q=>Q (U.set i<|some d) M
theorem Fk{i:Nat}{x:Str}(hN:X.N.Nodup)(hi:X.N[i]?=some x)(hx:zG X.env.scope x)(hf:X.fn x=true\/X.env.scope.names.lookup x=some .local:=by first|exact .inl rfl|exact .inr rfl|assumption):DG X B (.Name x pos) (ah i):=by
 refine kr (Ef hN hi hx hf) ?_
 rintro v Z H Q ⟨d,U,M,QQ,s,r,h,u⟩
 exact u _ M h _ H Frm.refl (s.set r)
def cD:mG:=λa U M Q=>match a with
 |[]=>Q U M
 |_=>False
def aP(t:jn)(u:mG):mG:=λb U M Q=>match b with
 |d::r=>t d U M λa M'=>u r a M' Q
 |[]=>False
theorem CQ:LR X B [] cD:=by
 refine r9 E1 ?_
 rintro v Z H Q ⟨a,U,M,QQ,s,r,h,u⟩
 cases a with
 |nil=>exact⟨r,u U M h Z H Frm.refl s⟩
 |cons _ _=>exact(show False from h).elim
theorem BG{e:Expr}{es:List Expr}{t:jn}{u:mG}(h1:DG X B e t)(h2:LR X B es u)
  (hs:(assignEach (e::es) X.env).map (·.2)=assign e X.env::(assignEach es X.env).map (·.2):=by rfl):LR X B (e::es) (aP t u):=by
 refine r9 (AK h1 h2 hs) ?_
 rintro v Z H Q ⟨a,U,M,QQ,s,r,h,c⟩
 cases a with
 |nil=>exact(show False from h).elim
 |cons d a=>
  obtain⟨v1,m,rfl,l,j⟩:=r;refine⟨v1,m,rfl,d,U,M,_,s,l,h,λb M' q g H' i f=>?_⟩;exact⟨a,b,M',QQ,f,j.mf s.rh i,q,c.go i⟩
def cU(n:Nat)(t:mG):jn:=λd U M Q=>match d with
 |.tup xs=>xs.length=n/\t xs U M Q
 |_=>False
theorem HJ{es:List Expr}{k:Nat}{t:mG}{n:Nat}(hc:X.calm=true)(h:LR X B es t)
  (hn:(assignEach es X.env).length=n:=by rfl) (hst:(assignEach es X.env).findIdx? (·.1)=none:=by rfl):DG X B (.Tuple es k pos) (cU n t):=by
 refine kr (HI hc h hn hst) ?_
 rintro v Z H Q ⟨d,U,M,QQ,s,r,h,a⟩
 cases d with
 |tup xs=>
  obtain⟨p,c,rfl,b,r⟩:=r;exact⟨p,c,rfl,b.sq,by rw[<- r.length];exact h.1,xs,U,M,QQ,s,r,h.2,a⟩
 |_=>exact(show False from h).elim
def av(te:bp)(g:jn):au:=λD U M=>te U M λx M1=>g x U M1 D.nx
theorem G_{tg e:Expr}{te:bp}{g:jn}(he:DE X B e te)(hg:DG X B tg g)(hs:swapsWithSole [tg] e pos.line X.env=pure false:=by rfl)(hw:swappedStores [tg] e X.env=pure none:=by rfl)
  (h1:(assignEach [tg] X.env).map (·.2)=[assign tg X.env]:=by rfl):DS X B (.Assign [tg] e pos) (av te g):=by
 refine ci (Ie he hg hs hw h1) ?_
 rintro D Z H ⟨U,M,DD,s,h,b⟩
 refine⟨U,M,_,s,h,λd M' q v H' a i r=>?_⟩;exact⟨d,U,M',DD.nx,s.go a i,r,q,b.nx.go i⟩
theorem Ho{i:Nat}{x:Str}{e:Expr}{te:bp}{pos':Pos}(hN:X.N.Nodup)(hi:X.N[i]?=some x)(hx:zG X.env.scope x)(he:DE X B e te)(hs:swapsWith e (some<|.Name x pos') pos.line X.env=pure false:=by rfl)(hf:X.fn x=true\/X.env.scope.names.lookup x=some .local:=by first|exact .inl rfl|exact .inr rfl|assumption):
  DS X B (.Assign [.Name x pos'] e pos) (av te<|ah i):=by
 refine ci (IP hN hi hx he hs hf) ?_
 rintro D Z H ⟨U,M,DD,s,h,b⟩
 refine⟨U,M,_,s,h,λd M' q v H' a i r=>?_⟩;exact b.nx _ M' q _ H' i ((s.go a i).set r)
def Ch(i:Nat)(te:bp)(r:g9):au:=λD U M=>match U[i]? with
 |some (some x)=>te U M λy M1=>r x y M1 λz M2=>D.nx (U.set i<|some z) M2
 |_=>False
theorem JG{i:Nat}{x:Str}{e:Expr}{te:bp}{op:Operator}{r:g9}{pos':Pos}(hN:X.N.Nodup)(hi:X.N[i]?=some x)(hx:zG X.env.scope x)(he:DE X B e te)(ho:Jy X op (liftR2 X r))(hf:X.fn x=true\/X.env.scope.names.lookup x=some .local:=by first|exact .inl rfl|exact .inr rfl|assumption):
  DS X B (.AugAssign (.Name x pos') op e pos) (Ch i te r):=by
 refine ci (IY hN hi hx he ho hf) ?_
 rintro D Z H ⟨U,M,DD,s,h,j⟩
 unfold Ch at h
 split at h
 .rename_i f p
  obtain⟨v,g,o⟩:=s.rs.get i f p;refine⟨v,g,U,M,_,s,h,λy M1 l w H1 b i1 m=>?_⟩;refine⟨f,y,M1,_,b,o.mf s.rh i1,m,l,λz M2 q A H2 a c n=>?_⟩;exact j.nx _ M2 q _ H2 (i1.trans c) ((s.go a<|i1.trans c).set n)
 .exact h.elim
theorem KQ{op:Operator}{g:Int->Int->Int}(h:Jy X op (ipI g)):Jy X op (liftR2 X (yw λi j=>.int (g i j))):=by
 intro b s Z H x y v u Q I n m a;obtain⟨p,q,M,QQ,o,l,f,a,c⟩:=a;unfold yw at a
 split at a
 .cases l;cases f
  exact h b s Z H _ _ v u Q I n m ⟨_,_,rfl,rfl,c _ M a _ H o Frm.refl rfl⟩
 .exact a.elim
abbrev A7:g9:=yw λi j=>.int (i+j)
theorem Dk:Jy X .Add (liftR2 X A7):=KQ HS
def C5(o i v:D)(M:Mem)(Q:Mem->Prop):Prop:=match o with
 |.ref a=>match M a,i with
  |some (.lst xs),.int k=>match r_ xs.length k with
   |some j=>Q (M.upd a<|.lst<|xs.set j v)
   |none=>False
  |some (.dK kvs),y=>match bI y with
   |some k=>kvs.length<sizeLine/\Q (M.upd a<|.dK<|bL kvs k v)
   |none=>False
  |some (.dT kvs),y=>match mD y with
   |some k=>kvs.length<sizeLine/\Q (M.upd a<|.dT<|bL kvs k v)
   |none=>False
  |_,_=>False
 |_=>False
inductive liftSet(X:Cx)(o i v:V)(H:Hp)(Q:Hp->Prop):Prop
 |mk (d1 d2 d3:L3.D) (M:Mem) (QQ:Mem->Prop) (rh:RepH X.K H M) (r1:Rp X.K H d1 o) (r2:Rp X.K H d2 i) (r3:Rp X.K H d3 v) (h:C5 d1 d2 d3 M QQ) (u:∀M',QQ M'->∀H',RepH X.K H' M'->Frm M H M' H'->Q H'):liftSet X o i v H Q
theorem Ds(hu:X.A.units+1<cLine):Hz X (liftSet X):=by
 intro pins s Z H o i v ov iv u Q I ro ri rv h;obtain⟨d1,d2,d3,M,QQ,rh,r1,r2,r3,h,up⟩:=h;unfold C5 at h
 split at h
 .rename_i a
  cases r1;cases ro
  split at h
  .rename_i xs k hM
   cases r2;obtain⟨vs,h1,h2⟩:=rh _ _ hM
   split at h
   .rename_i j ej
    refine Bn pins s Z H (.ref a) _ v _ iv u Q I rfl ri rv ⟨a,vs,k,j,rfl,rfl,h1,by rw[<- h2.length];exact ej,?_⟩
    have i2:Imm H (upd H a<|.lst<|vs.set j v):=Imm.upd (by rw[h1];trivial)
    exact up _ h _ (rh.put (by rw[h1];trivial) ⟨_,upd_same,(h2.set r3 j).mono i2⟩) (Frm.put<|.inr ⟨_,hM⟩)
   .exact h.elim
  .rename_i kvs hM
   obtain⟨ws,h1,h2⟩:=rh _ _ hM
   split at h
   .rename_i k ek
    have ev:=pV r2 ek;subst ev;have i2:Imm H (upd H a<|.dK<|cj ws k v):=Imm.upd (by rw[h1];trivial)
    refine nD hu I (DPut.k h1<|by rw[<- h2.length];exact h.1) ri rv λs' I'=>⟨_,I',?_⟩
    exact up _ h.2 _ (rh.put (by rw[h1];trivial) ⟨_,upd_same,(h2.put k r3).mono i2⟩) (Frm.put<|.inr ⟨_,hM⟩)
   .exact h.elim
  .rename_i kvs hM
   obtain⟨ws,h1,h2⟩:=rh _ _ hM
   split at h
   .rename_i k ek
    obtain⟨b,rfl,hb⟩:=kO r2 ek;have i2:Imm H (upd H a<|.dT<|cj ws k v):=Imm.upd (by rw[h1];trivial)
    refine nD hu I (DPut.t h1 hb<|by rw[<- h2.length];exact h.1) ri rv λs' I'=>⟨_,I',?_⟩
    exact up _ h.2 _ (rh.put (by rw[h1];trivial) ⟨_,upd_same,(h2.put k r3).mono i2⟩) (Frm.put<|.inr ⟨_,hM⟩)
   .exact h.elim
  .exact h.elim
 .exact h.elim
def fg(to ti:bp):jn:=λv U M Q=>to U M λo M1=>ti U M1 λi M2=>C5 o i v M2 λM3=>Q U M3
theorem J6{o i:Expr}{to ti:bp}(hu:X.A.units+1<cLine)(ho:DE X B o to)(hi:DE X B i ti)
  (ha:∀v,assign (.Subscript o i pos) X.env v=(do
   let ov <- holding [v] (eval o X.env)
   let iv <- holding [v,ov] (eval i X.env)
   standAt pos
   holding [v,ov,iv] (setItem ov iv v)
   release [v,ov,iv] []):=by intro _;rfl):DG X B (.Subscript o i pos) (fg to ti):=by
 refine kr (IS ho hi (Ds hu) ha) ?_
 rintro v Z H Q ⟨d,U,M,QQ,s,r,h,m⟩
 refine⟨U,M,_,s,h,λx M1 n v1 H1 a c p=>?_⟩;refine⟨U,M1,_,s.go a c,n,λy M2 w v2 H2 g b q=>?_⟩;exact⟨x,y,d,M2,_,g,p.mf a b,q,r.mf s.rh (c.trans b),w,λM3 l H3 f j=>m U M3 l Z H3 ((c.trans b).trans j) (s.go f<|(c.trans b).trans j)⟩
end
section
variable {X:Cx}{B:Bd}{o e value:Expr}{f:Str}{pos pos' tpos:Pos}{ta tv te:bp}{C:Addr}
def d_(f:Str)(v:D):List (Str×D)->List (Str×D)
 |[]=>[(f,v)]
 |(g,w)::r=>if g=f then (g,v)::r else (g,w)::d_ f v r
theorem Rkv.lookup{K:Ng}{H:Hp}{fs:List (Str×D)}{ws:List (Str×V)}(h:Rkv K H fs ws)(f:Str):(fs.lookup f=none/\ws.lookup f=none)\/∃d v,fs.lookup f=some d/\ws.lookup f=some v/\Rp K H d v:=by
 induction h with
 |nil=>exact .inl ⟨rfl,rfl⟩
 |@cons p q ps qs r t ih=>
  obtain⟨a,d⟩:=p;obtain⟨b,v⟩:=q;obtain⟨e,r⟩:=r;dsimp only at e r;subst e;rw[Q7,Q7];cases c:f==a with
  |true=>exact .inr ⟨d,v,rfl,rfl,r⟩
  |false=>exact ih
theorem Dh(f:Str)(v:V):∀ws:List (Str×V),dE f v ws=(match ws with|[]=>[(f,v)]|(g,w)::r=>if g=f then (g,v)::r else (g,w)::dE f v r)
 |[]=>rfl
 |(g,w)::r=>by rw[dE]
theorem rR{K:Ng}{H:Hp}{f:Str}{d:D}{v:V}(rd:Rp K H d v):∀{fs:List (Str×D)} {ws:List (Str×V)},Rkv K H fs ws->Rkv K H (d_ f d fs) (L2.dE f v ws)
 |_,_,.nil=>.cons ⟨rfl,rd⟩ .nil
 |(k1,d1)::fs,(k2,v1)::ws,.cons r t=>by
  obtain⟨e,r⟩:=r;dsimp only at e r;subst e;rw[Dh];show Rkv K H (if k1=f then (k1,d)::fs else (k1,d1)::d_ f d fs) (if k1=f then (k1,v)::ws else (k1,v1)::L2.dE f v ws)
  split
  .exact .cons ⟨rfl,rd⟩ t
  .exact .cons ⟨rfl,r⟩ (rR rd t)
def dF(C:Addr)(ta:bp)(f:Str):bp:=λU M Q=>ta U M λx M1=>match x with
 |.ref a=>match M1 a with
  |some (.ins C' fs)=>C'=C/\match fs.lookup f with
   |some d=>Q d M1
   |none=>False
  |_=>False
 |_=>False
theorem Ii(c:Cls X.K C)(n:NoAttr X.K C f)(he:DE X B e ta)(hb:attributeBase e f X.env (eval e X.env)=eval e X.env:=by rfl):DE X B (.Attribute e f pos) (dF C ta f):=by
 refine a_ (Jw he hb) ?_
 rintro Z H Q ⟨U,M,QQ,s,h,u⟩
 refine⟨U,M,_,s,h,λx M1 b v1 H1 g j p=>?_⟩
 split at b
 .rename_i a
  cases p
  split at b
  .rename_i C' fs hM
   obtain⟨rfl,b⟩:=b;obtain⟨q,l,m,r⟩:=g _ _ hM
   split at b
   .rename_i d i
    rcases r.lookup f with⟨z,_⟩|⟨d',v,z1,z2,z3⟩
    .rw[i]at z;cases z
    .rw[i]at z1;cases z1
     exact⟨a,_,q,l,v,rfl,m,c,n,z2,u _ M1 b _ H1 g j z3⟩
   .exact b.elim
  .exact b.elim
 .exact b.elim
def ia(C:Addr)(ta tv:bp)(f:Str):au:=λD U M=>tv U M λy M1=>ta U M1 λx M2=>match x with
 |.ref a=>match M2 a with
  |some (.ins C' fs)=>C'=C/\fs.length<1000/\D.nx U (M2.upd a<|.ins C<|d_ f y fs)
  |_=>False
 |_=>False
theorem I_(c:Cls X.K C)(n:NoAttr X.K C f)(ha:DE X B o ta)(hv:DE X B value tv)(hs:swapsWith value (some<|.Attribute o f pos') pos.line X.env=pure false:=by rfl):DS X B (.Assign [.Attribute o f pos'] value pos) (ia C ta tv f):=by
 refine ci (IW ha hv hs) ?_
 rintro D Z H ⟨U,M,DD,s,h,up⟩
 refine⟨U,M,_,s,h,λy M1 h1 v1 H1 rh1 i1 r1=>?_⟩;refine⟨U,M1,_,s.go rh1 i1,h1,λx M2 h2 v2 H2 rh2 i2 r2=>?_⟩
 split at h2
 .rename_i a
  cases r2
  split at h2
  .rename_i C' fs hM
   obtain⟨rfl,hl,h2⟩:=h2;obtain⟨dx,ws,e1,e2⟩:=rh2 _ _ hM;have i3:Frm M2 H2 (M2.upd a<|.ins C'<|d_ f y fs) (upd H2 a<|.ins C' dx<|L2.dE f v1 ws):=Frm.put (.inr ⟨_,hM⟩);refine⟨a,C',dx,ws,rfl,e1,c,n,by rw[<- e2.length];exact hl,up.nx _ _ h2 Z _ ((i1.trans i2).trans i3)<|s.go (rh2.put (by rw[e1];trivial) ⟨dx,_,upd_same,?_⟩)<|(i1.trans i2).trans i3⟩
   exact(rR (r1.mf rh1 i2) e2).mono (i3.imm rh2)
  .exact h2.elim
 .exact h2.elim
structure BxW(c:eG)(tb:au)(D:DEnds):Type
structure BxF(g:jn)(tb:au)(D:DEnds)(ok:Mem->Prop):Type
def bu(c:eG)(tb:au)(D:DEnds)(bx:BxW c tb D):Nat->Dl->Mem->Prop
 |0,_,_=>False
 |n+1,U,M=>c U M λb M1=>if b=true then tb { D with nx:=bu c tb D bx n,ct:=bu c tb D bx n,bk:=D.nx } U M1 else D.nx U M1
def de(c:eG)(tb:au):au:=λD U M=>∃n,bu c tb D ⟨⟩ n U M
theorem CF{c:Expr}{body:List Stmt}{tc:eG}{tb:au}(hp:PassesOwn (model X.prog X.w) X.A X.env X.xe)(hc:DT X B c tc)(hb:zF X B body tb):DS X B (.While c body [] pos) (de tc tb):=by
 refine ci (Bj hp hc hb) ?_
 rintro D Z H ⟨U,M,DD,s,⟨n,h⟩,r⟩
 refine⟨λm a H'=>∃δ' M',SR X B δ' M' a H'/\Frm M H M' H'/\bu tc tb DD ⟨⟩ m δ' M',⟨n,U,M,s,Frm.refl,h⟩,?_⟩
 rintro m v H1 ⟨j,M1,p,i1,F⟩
 cases m with
 |zero=>exact(show False from F).elim
 |succ m=>
  refine⟨j,M1,_,p,F,λb M2 q H2 l i=>?_⟩;cases b with
  |false=>rw[if_neg NA]at q ⊢;exact r.nx _ _ q v H2 (i1.trans i) (p.go l i)
  |true=>
   rw[if_pos rfl]at q ⊢;refine⟨λa H'=>∃δ' M',SR X B δ' M' a H'/\Frm M H M' H'/\bu tc tb DD ⟨⟩ m δ' M',λa H' z=>⟨m,Q9 _,z⟩,?_⟩;refine⟨j,M2,_,p.go l i,q,⟨?_,(r.go<|i1.trans i).rt,(r.go<|i1.trans i).nx,?_⟩⟩
   .exact λg M3 x y H3 u E=>⟨g,M3,E,(i1.trans i).trans u,x⟩
   .exact λg M3 x y H3 u E=>⟨g,M3,E,(i1.trans i).trans u,x⟩
structure DIt where
 items:List D
 src:List (Addr×List D)
def DIt.ok(I:DIt)(M:Mem):Prop:=∀p∈I.src,M p.1=some (.lst p.2)
abbrev zD:=Dl->Mem->(DIt->Mem->Prop)->Prop
def Lw(K:Ng)(H0:Hp)(it:DIt)(J:It):Prop:=∀(i:Nat) (H:Hp) (M:Mem),Imm H0 H->RepH K H M->it.ok M->
 (∀d,it.items[i]?=some d->J.go i H/\∀x H',J.yld i H x H'->Frm M H M H'/\RepH K H' M/\Rp K H' d x)/\(it.items.length<=i->J.stop i H)
inductive liftI(X:Cx)(B:Bd)(T:zD)(Z:St)(H:Hp)(R:It->Hp->Prop):Prop
 |mk (U:Dl) (M:Mem) (RR:DIt->Mem->Prop) (s:SR X B U M Z H) (h:T U M RR) (u:∀it M',RR it M'->∀J H',RepH X.K H' M'->Frm M H M' H'->Lw X.K H' it J->R J H'):liftI X B T Z H R
def DI(X:Cx)(B:Bd)(tg iter:Expr)(T:zD):Prop:=PI X tg iter (liftI X B T)
theorem k7{tg iter:Expr}{t t':TI}(h:PI X tg iter t)(w:∀Z H Q,t' Z H Q->t Z H Q):PI X tg iter t':=λa s Z H Q I q=>h a s Z H Q I (w Z H Q q)
def ua(g:jn)(tb:au)(DD:DEnds)(ok:Mem->Prop)(b:BxF g tb DD ok):List D->Dl->Mem->Prop
 |[],U,M=>ok M/\DD.nx U M
 |x::xs,U,M=>ok M/\g x U M λa M2=>tb { DD with nx:=ua g tb DD ok b xs,ct:=ua g tb DD ok b xs,bk:=DD.nx } a M2
def cJ(wi:zD)(g:jn)(tb:au):au:=λD U M=>wi U M λa M1=>ua g tb D a.ok ⟨⟩ a.items U M1
theorem Fo{g:jn}{tb:au}{DD:DEnds}{ok:Mem->Prop}{b:BxF g tb DD ok}{xs:List D}{U:Dl}{M:Mem}(h:ua g tb DD ok b xs U M):ok M:=by
 cases xs with
 |nil=>exact h.1
 |cons _ _=>exact h.1
theorem J3{tg iter:Expr}{body:List Stmt}{wi:zD}{g:jn}{tb:au}(hp:PassesOwn (model X.prog X.w) X.A X.env X.xe)(hc:X.calm=true)(hi:DI X B tg iter wi)(hg:DG X B tg g)(hb:zF X B body tb)
  (hs:∀x,foldedSetIterable iter X.env x=pure x:=by intro _;rfl):DS X B (.For tg iter body [] pos) (cJ wi g tb):=by
 refine ci (J0 hp hc hi hg hb hs) ?_
 rintro D Z H ⟨U,M,DD,s,h,v⟩
 refine⟨U,M,_,s,h,λc M1 T J H1 p i1 W=>?_⟩;refine⟨λi m a H'=>m=c.items.length-i/\i<=c.items.length/\∃δ' M',SR X B δ' M' a H'/\Frm M1 H1 M' H'/\ua g tb DD c.ok ⟨⟩ (c.items.drop i) δ' M',⟨_,rfl,N5 _,U,M1,s.go p i1,Frm.refl,T⟩,?_⟩
 rintro i m N H2 ⟨rfl,hi',P,M2,r,I,q⟩
 have G:=Fo q;obtain⟨K,n⟩:=W i H2 M2 (I.imm p) r.rh G
 by_cases l:i<c.items.length
 .rw[Pk l]at q
  obtain⟨go,R⟩:=K _ (MY l);refine .inr ⟨go,λa H'=>∃δ' M',SR X B δ' M' a H'/\Frm M1 H1 M' H'/\ua g tb DD c.ok ⟨⟩ (c.items.drop (i+1)) δ' M',λa H' z=>⟨c.items.length-(i+1),by omega,rfl,l,z⟩,λx H3 hx=>?_⟩
  obtain⟨Q,u,rx⟩:=R x H3 hx;refine⟨_,P,M2,_,r.go u Q,rx,q.2,λy M4 Y S H4 i4 s4=>?_⟩;have b:=(I.trans Q).trans i4;refine⟨y,M4,_,s4,Y,⟨?_,(v.go<|i1.trans b).rt,(v.go<|i1.trans b).nx,?_⟩⟩
  .exact λj M5 F O H5 E L=>⟨j,M5,L,b.trans E,F⟩
  .exact λj M5 F O H5 E L=>⟨j,M5,L,b.trans E,F⟩
 .rw[Qj (by omega)]at q
  exact .inl ⟨n (by omega),v.nx _ _ q.2 N H2 (i1.trans I) r⟩
end
end L3
namespace L2
open PySem PySem.Spec PyProof.Rows
section
variable {X:Cx}{B:Bd}{tg:Expr}
def Ll(K:Ng)(tl:TE):TI:=λZ H R=>tl Z H λx H1=>∃a b xs,x=.ref a/\nG K b H1 a xs/\R (if b=true then Itl K a else Itt K a) H1
theorem Er{l:Expr}{tl:TE}(hl:PE X l tl):PI X tg l (Ll X.K tl):=by
 intro g s Z H R I h;refine bF (hl g s Z H _ I h) λv c ⟨x,H1,I1,r,u⟩=>?_;obtain⟨a,b,m,e,j,q⟩:=u;subst e;cases r;cases b with
 |true=>
  obtain⟨f,w,p,n⟩:=I1.list (show SqL X.K H1 a m from j);refine wpAny_pyIter_list p.isList ?_;refine⟨c.heap.objs.size,[c.heap.objs.size],_,_,H1,rfl,I1.kept (t':=c.toks) λb o e=>MX _ e,z8 a _,⟨_,Nj _ rfl,rfl,rfl⟩,λb i=>?_,q⟩;have e:b=c.heap.objs.size:=by simpa using i
  subst e;exact I1.fpOk (Ni _) (I1.hok.fresh<|Ni _)
 |false=>
  obtain⟨f,w,p,n⟩:=I1.tuple (show iE X.K H1 a m from j);refine wpAny_pyIter_tuple (show c.heap.IsTuple a f.toArray from p) ?_;refine⟨c.heap.objs.size,[c.heap.objs.size],_,_,H1,rfl,I1.kept (t':=c.toks) λb o e=>MX _ e,uh a _,⟨_,Nj _ rfl,rfl,rfl⟩,λb i=>?_,q⟩;have e:b=c.heap.objs.size:=by simpa using i
  subst e;exact I1.fpOk (Ni _) (I1.hok.fresh<|Ni _)
def KG(K:Ng)(t:TA):TI:=λZ H R=>t Z H λa H1=>∃b1 b2 l1 l2 xs ys,a=[.ref l1,.ref l2]/\nG K b1 H1 l1 xs/\nG K b2 H1 l2 ys/\R (Itz K b1 b2 l1 l2) H1
theorem Fd{a b:Expr}{elts:List Expr}{x1:Nat}{tp:Pos}{ta:TA}{p pos:Pos}(hg:Gl X "zip")(hm:X.mg "zip"=none)(ha:PA X [a,b] ta)
  (hs:starEach [a,b] X.env=[(false,eval a X.env),(false,eval b X.env)]:=by rfl) (hs2:starEach [b] X.env=[(false,eval b X.env)]:=by rfl):
  PI X (.Tuple elts x1 tp) (.Call (.Name "zip" p) [a,b] [] pos) (KG X.K ta):=by
 intro f s Z H R I h;refine Call_ (dS I hg hm (by decide +kernel:bootBuiltins "zip"=some (.type "zip"))<|NX (bF (ha pos f s Z H _ I h) λW c ⟨vs,H1,I1,M,r⟩=>?_) (by rw[hs,hs2])<|by rw[hs2];rfl)
 obtain⟨A,C,P,E,T,S,e,r,L,q⟩:=r;subst e;obtain⟨U,Y,rfl,o,n⟩:=M.two;cases o;cases n;obtain⟨w,z,j,z1⟩:=I1.src r;obtain⟨x,G,m,z2⟩:=I1.src L;refine qq j m λy v l u F Q J N=>?_;have I2:Inv X f Z H1 { c with heap:=y }:=I1.kept (t':=c.toks) N;refine wpAny_pyIter_zip (s:={ c with heap:=y }) v ?_;have D:ZApart (c.heap.objs.size+4) (c.heap.objs.size+2) (c.heap.objs.size+3) c.heap.objs.size (c.heap.objs.size+1):=by constructor<;>exact(show (_:Nat)≠(_:Nat) by lia)
 refine⟨c.heap.objs.size+4,[c.heap.objs.size+4,c.heap.objs.size+2,c.heap.objs.size+3,c.heap.objs.size,c.heap.objs.size+1],_,_,H1,rfl,I2,Cu A C P E _ _ _ _ _ D,⟨v,l,⟨_,_,u⟩,F,Q⟩,λb O=>?_,q⟩;have g:c.heap.objs.size<=b:=by
  have i:b=c.heap.objs.size+4\/b=c.heap.objs.size+2\/b=c.heap.objs.size+3\/b=c.heap.objs.size\/b=c.heap.objs.size+1:=by simpa using O
  rcases i with e|e|e|e|e<;>rw[e]<;>first|exact OD _ _|exact Ni _
 exact I1.fpOk (H':=H1) g (I1.hok.fresh g)
def JY(K:Ng)(t:TA):TI:=λZ H R=>t Z H λa H1=>∃b l xs,a=[.ref l]/\nG K b H1 l xs/\R (Ite K b l) H1
theorem BS{a:Expr}{elts:List Expr}{x1:Nat}{tp:Pos}{ta:TA}{p pos:Pos}(hg:Gl X "enumerate")(hm:X.mg "enumerate"=none)(ha:PA X [a] ta)(hs:starEach [a] X.env=[(false,eval a X.env)]:=by rfl):
  PI X (.Tuple elts x1 tp) (.Call (.Name "enumerate" p) [a] [] pos) (JY X.K ta):=by
 intro g s Z H R I h;refine Call_ (dS I hg hm (by decide +kernel:bootBuiltins "enumerate"=some (.type "enumerate"))<|NX (bF (ha pos g s Z H _ I h) λC f ⟨F,H1,I1,y,n⟩=>?_) hs rfl)
 obtain⟨b,l,E,e,n,q⟩:=n;subst e;obtain⟨G,rfl,m⟩:=y.one;cases m;obtain⟨u,J,sq,z⟩:=I1.src n;refine zk sq λr o x v A=>?_;have I2:Inv X g Z H1 { f with heap:=r }:=I1.kept (t':=f.toks) A;refine wpAny_pyIter_enum (s:={ f with heap:=r }) o ?_;refine⟨f.heap.objs.size+1,[f.heap.objs.size+1,f.heap.objs.size],_,_,H1,rfl,I2,yT b l _ _ (show (_:Nat)≠(_:Nat) by lia),⟨⟨_,o⟩,x⟩,λc w=>?_,q⟩
 have i:f.heap.objs.size<=c:=by
  have j:c=f.heap.objs.size+1\/c=f.heap.objs.size:=by simpa using w
  rcases j with e|e<;>rw[e]<;>first|exact OD _ _|exact Ni _
 exact I1.fpOk (H':=H1) i (I1.hok.fresh i)
end
end L2
namespace L3
open PySem L2
section
variable {X:Cx}{B:Bd}{tg:Expr}{K:Ng}{H:Hp}{M:Mem}
def cq(d:D)(xs:List D):List (Addr×List D):=match d with
 |.ref a=>[(a,xs)]
 |_=>[]
theorem nR{d:D}{v:V}{xs:List D}(rh:RepH K H M)(r:Rp K H d v)(e:bt M d=some xs):∃p b,v=.ref p/\∀H' M',Imm H H'->RepH K H' M'->(∀q∈cq d xs,M' q.1=some (.lst q.2))->∃vs,nG K b H' p vs/\Rps K H' xs vs:=by
 cases d with
 |tup ys=>
  cases e;obtain⟨p,vs,rfl,h,r⟩:=r;exact⟨p,false,rfl,λH' M' i _ _=>⟨vs,(h.mono i).sq,r.mono i⟩⟩
 |lst ys=>
  cases e;obtain⟨p,vs,rfl,h,r⟩:=r;exact⟨p,true,rfl,λH' M' i _ _=>⟨vs,(h.mono i).sq,r.mono i⟩⟩
 |mt ys=>
  cases e;obtain⟨p,vs,rfl,h,r⟩:=r;exact⟨p,false,rfl,λH' M' i _ _=>⟨vs,h.sq,r.mono i⟩⟩
 |ml ys=>
  cases e;obtain⟨p,vs,rfl,h,r⟩:=r;exact⟨p,true,rfl,λH' M' i _ _=>⟨vs,(h.mono i).sq,r.mono i⟩⟩
 |ref a=>
  refine⟨a,true,r,λH' M' i c j=>?_⟩;obtain⟨vs,f,g⟩:=c _ _ (j (a,xs)<|by simp[cq])
  exact⟨vs,iV f,g⟩
 |_=>cases e
theorem pS{d:D}{xs:List D}(e:bt M d=some xs):∀q∈cq d xs,M q.1=some (.lst q.2):=by
 cases d with
 |ref a=>
  intro q b;have:q=(a,xs):=by simpa [cq] using b
  subst this;simp only[bt]at e
  split at e
  .rename_i c h;cases e;exact h
  .cases e
 |_=>intro q b;simp[cq]at b
def cX(te:bp):zD:=λU M R=>te U M λd M1=>match bt M1 d with
 |some xs=>R ⟨xs,cq d xs⟩ M1
 |none=>False
theorem IE{l:Expr}{tl:bp}(hl:DE X B l tl):DI X B tg l (cX tl):=by
 refine k7 (Er hl) ?_
 rintro Z H R ⟨U,M,RR,s,h,C⟩
 refine⟨U,M,_,s,h,λd M1 r v H1 n E I=>?_⟩
 split at r
 .rename_i J e
  obtain⟨p,b,rfl,f⟩:=nR n I e;obtain⟨G,A,_⟩:=f H1 M1 Imm.refl n (pS e);refine⟨p,b,G,rfl,A,C _ M1 r _ H1 n E λi H2 M2 F m q=>?_⟩;obtain⟨c,a,u⟩:=f H2 M2 F m q;have hl:=u.length;cases b with
  |true=>
   refine⟨λd y=>?_,λg=>⟨c,a,by rw[<- hl];exact g⟩⟩
   obtain⟨w,o,j⟩:=u.get y;refine⟨⟨c,w,a,o⟩,?_⟩
   rintro x H3 ⟨rfl,z⟩
   have:=z c a;rw[o]at this;cases this;exact⟨Frm.refl,m,j⟩
  |false=>
   refine⟨λd y=>?_,λg=>⟨c,a,by rw[<- hl];exact g⟩⟩
   obtain⟨w,o,j⟩:=u.get y;refine⟨⟨c,w,a,o⟩,?_⟩
   rintro x H3 ⟨rfl,z⟩
   have:=z c a;rw[o]at this;cases this;exact⟨Frm.refl,m,j⟩
 .exact r.elim
def bD(lo:Int)(n:Nat):List D:=(NL n).map λ(i:Nat)=>D.int (lo+i)
def bR(t:fj):zD:=λU M R=>t U M λa M1=>match a with
 |[.int j]=>-(2 ^ 62)<=j/\j<2 ^ 62/\R ⟨bD 0 j.toNat,[]⟩ M1
 |_=>False
theorem IZ{lo:Int}{n:Nat}:Lw K H ⟨bD lo n,[]⟩ (Itr lo n):=λi H2 M2 j e _=>by
 have a:(bD lo n).length=n:=by simp[bD]
 refine⟨λd c=>?_,λb=>by rw[a]at b;exact b⟩
 have f:i<n:=by
  rcases Q0 i n with h|h
  .exact h
  .rw[OP (by rw[a];exact h)]at c;cases c
 have g:d=.int (lo+i):=by
  simp only[bD,Nr,Sl f]at c;exact(NZ c).symm
 subst g;refine⟨f,?_⟩
 rintro x H3 ⟨rfl,rfl⟩
 exact⟨Frm.refl,e,rfl⟩
theorem yG{a:Expr}{ta:fj}{p pos:Pos}(hg:Gl X "range")(hm:X.mg "range"=none)(ha:DA X B [a] ta)(hs:starEach [a] X.env=[(false,eval a X.env)]:=by rfl):DI X B tg (.Call (.Name "range" p) [a] [] pos) (bR ta):=by
 refine k7 (yF hg hm ha hs) ?_
 rintro Z H R ⟨U,M,RR,s,h,f⟩
 refine⟨U,M,_,s,h,λds M1 b j H1 c e g=>?_⟩
 split at b
 .obtain⟨v,rfl,i⟩:=fL (ds:=[]) g
  cases i;exact⟨_,rfl,b.1,b.2.1,f _ M1 b.2.2 _ H1 c e IZ⟩
 .exact b.elim
def qD(xs:List D):List D:=(xs.zipIdx).map λp=>D.tup [.int (p.2:Nat),p.1]
theorem zr{xs:List D}{i:Nat}:(qD xs)[i]?=(xs[i]?).map λd=>D.tup [.int (i:Nat),d]:=by
 simp[qD,Nr,List.getElem?_zipIdx];cases xs[i]?<;>simp
def G5(t:fj):zD:=λU M R=>t U M λa M1=>match a with
 |[d]=>match bt M1 d with
  |some xs=>R ⟨qD xs,cq d xs⟩ M1
  |none=>False
 |_=>False
theorem EC{a:Expr}{elts:List Expr}{x1:Nat}{tp:Pos}{ta:fj}{p pos:Pos}(hg:Gl X "enumerate")(hm:X.mg "enumerate"=none)(ha:DA X B [a] ta)(hs:starEach [a] X.env=[(false,eval a X.env)]:=by rfl):
  DI X B (.Tuple elts x1 tp) (.Call (.Name "enumerate" p) [a] [] pos) (G5 ta):=by
 refine k7 (BS hg hm ha hs) ?_
 rintro Z H R ⟨U,M,RR,s,h,F⟩
 refine⟨U,M,_,s,h,λds M1 m A H1 j I N=>?_⟩
 split at m
 .obtain⟨v,rfl,P⟩:=fL (ds:=[]) N
  split at m
  .rename_i Q e
   obtain⟨p,b,rfl,c⟩:=nR j P e;obtain⟨A,E,_⟩:=c H1 M1 Imm.refl j (pS e);refine⟨b,p,A,rfl,E,F _ M1 m _ H1 j I λi H2 M2 J l q=>?_⟩;obtain⟨g,f,y⟩:=c H2 M2 J l q;have G:=y.length;refine⟨λd z=>?_,λn=>⟨g,f,by rw[<- G];simpa [qD] using n⟩⟩
   rw[zr]at z;obtain⟨S,r,rfl⟩:=OZ.mp z;obtain⟨w,C,o⟩:=y.get r;refine⟨⟨g,w,f,C⟩,?_⟩
   rintro x H3 ⟨T,W,u,rfl,rfl,L⟩
   have:=L g f;rw[C]at this;cases this;have O:Imm H2 (upd H2 T<|.tup [.int i,w]):=Imm.new u;exact⟨Frm.new u,l.new u,T,_,rfl,upd_same,.cons rfl<|.cons (o.mono O) .nil⟩
  .exact m.elim
 .exact m.elim
def iL(xs ys:List D):List D:=(xs.zip ys).map λp=>D.tup [p.1,p.2]
theorem A5{xs ys:List D}{i:Nat}{d:D}(h:(iL xs ys)[i]?=some d):∃x y,xs[i]?=some x/\ys[i]?=some y/\d=.tup [x,y]:=by
 simp only[iL,Nr,OZ]at h;obtain⟨⟨x,y⟩,a,rfl⟩:=h;rw[List.getElem?_zip_eq_some]at a;exact⟨x,y,a.1,a.2,rfl⟩
def t_(t:fj):zD:=λU M R=>t U M λa M1=>match a with
 |[d,e]=>match bt M1 d,bt M1 e with
  |some xs,some ys=>R ⟨iL xs ys,cq d xs++cq e ys⟩ M1
  |_,_=>False
 |_=>False
theorem Ic{a b:Expr}{elts:List Expr}{x1:Nat}{tp:Pos}{ta:fj}{p pos:Pos}(hg:Gl X "zip")(hm:X.mg "zip"=none)(ha:DA X B [a,b] ta)
  (hs:starEach [a,b] X.env=[(false,eval a X.env),(false,eval b X.env)]:=by rfl) (hs2:starEach [b] X.env=[(false,eval b X.env)]:=by rfl):
  DI X B (.Tuple elts x1 tp) (.Call (.Name "zip" p) [a,b] [] pos) (t_ ta):=by
 refine k7 (Fd hg hm ha hs hs2) ?_
 rintro Z H R ⟨U,M,RR,s,h,up⟩
 refine⟨U,M,_,s,h,λds M1 z vs H1 g i1 r1=>?_⟩
 split at z
 .obtain⟨v,w,rfl,rv,G⟩:=Da r1
  split at z
  .rename_i S Q e1 Y
   obtain⟨p,b,rfl,j⟩:=nR g rv e1;obtain⟨p',b',rfl,e⟩:=nR g G Y;obtain⟨vs,r,_⟩:=j H1 M1 Imm.refl g (pS e1);obtain⟨J,F,_⟩:=e H1 M1 Imm.refl g (pS Y);refine⟨b,b',p,p',vs,J,rfl,r,F,up _ M1 z _ H1 g i1 λi H2 M2 i2 l u=>?_⟩;obtain⟨n,m,W⟩:=j H2 M2 i2 l λq r=>u q (Pd _ r);obtain⟨f,c,A⟩:=e H2 M2 i2 l λq r=>u q (NC _ r);have hl:=W.length;have hl':=A.length;refine⟨λd hd=>?_,λE=>⟨n,f,m,c,?_⟩⟩
   .obtain⟨x,y,hx,hy,rfl⟩:=A5 hd
    obtain⟨w1,o,N⟩:=W.get hx;obtain⟨w2,C,P⟩:=A.get hy;refine⟨⟨n,f,w1,w2,m,c,o,C⟩,?_⟩
    rintro x H3 ⟨T,x',y',L,rfl,rfl,O,I⟩
    have q1:=O n m;have q2:=I f c;rw[o]at q1;rw[C]at q2;cases q1;cases q2;have i3:Imm H2 (upd H2 T<|.tup [w1,w2]):=Imm.new L;exact⟨Frm.new L,l.new L,T,_,rfl,upd_same,.cons (N.mono i3)<|.cons (P.mono i3) .nil⟩
   .have:(iL S Q).length=min S.length Q.length:=by simp[iL]
    rw[this]at E;lia
  .exact z.elim
 .exact z.elim
end
def tL:Bd:=⟨λ_ _=>True,λ_ _=>trivial⟩
section
variable {X:Cx}{B:Bd}{K:Ng}{H H':Hp}{M M':Mem}
inductive liftE0(K:Ng)(T:bp)(Z:L2.St)(H:Hp)(Q:VK):Prop
 |mk (U:Dl) (M:Mem) (QQ:DK) (rh:RepH K H M) (rs:RepS K H U Z) (h:T U M QQ) (u:Up K M H QQ Q):liftE0 K T Z H Q
inductive liftT0(K:Ng)(T:eG)(Z:L2.St)(H:Hp)(Q:Bool->Hp->Prop):Prop
 |mk (U:Dl) (M:Mem) (QQ:Bool->Mem->Prop) (rh:RepH K H M) (rs:RepS K H U Z) (h:T U M QQ) (u:UpT K M H QQ Q):liftT0 K T Z H Q
inductive liftG0(K:Ng)(g:jn)(v:V)(Z:L2.St)(H:Hp)(Q:L2.St->Hp->Prop):Prop
 |mk (d:D) (U:Dl) (M:Mem) (QQ:Dl->Mem->Prop) (rh:RepH K H M) (rs:RepS K H U Z) (r:Rp K H d v) (h:g d U M QQ) (u:∀δ' M',QQ δ' M'->∀σ' H',Frm M H M' H'->RepH K H' M'->RepS K H' δ' σ'->Q σ' H'):liftG0 K g v Z H Q
theorem C0{e:Expr}{T:bp}(h:DE X tL e T):PE X e (liftE0 X.K T):=a_ h λZ H Q ⟨U,M,QQ,b,a,h,u⟩=>⟨U,M,QQ,⟨trivial,b,a⟩,h,u⟩
theorem B3{e:Expr}{g:jn}(h:DG X tL e g):PG X e (liftG0 X.K g):=kr h λv Z H Q ⟨d,U,M,QQ,rh,rs,r,h,u⟩=>⟨d,U,M,QQ,⟨trivial,rh,rs⟩,r,h,λb M' q a H' f s=>u b M' q a H' f s.rh s.rs⟩
theorem RepH.add{a:Addr}{o:MO}(r:RepH K H M)(n:RepO K H a o):RepH K H (M.upd a o):=λb p e=>by
 by_cases c:b=a
 .subst c;rw[Mem.upd_same]at e;cases e;exact n
 .rw[ag c]at e;exact r b p e
def cc(ls:List Str)(js:List Nat)(U:Dl):Dl:=ls.map (λ_=>none)++js.map λj=>(U[j]?).join
theorem RepS.start{U:Dl}{Z:L2.St}(r:RepS K H U Z)(ls:List Str)(js:List Nat):RepS K H (cc ls js U) (c_ ls js Z):=by
 refine⟨by simp[cc,c_],λi d e=>?_⟩
 unfold cc at e;unfold c_
 by_cases a:i<ls.length
 .rw[OQ (by simpa using a),Nr,MY a]at e
  cases e
 .rw[Ox (by simpa using a),MW,Nr]at e
  rw[Ox (by simpa using a),MW,Nr]
  cases b:js[i-ls.length]? with
  |none=>rw[b]at e;cases e
  |some j=>
   rw[b]at e;have q:(U[j]?).join=some d:=by simpa using e
   have f:U[j]?=some (some d):=by
    cases z:U[j]? with
    |none=>rw[z]at q;cases q
    |some o=>rw[z]at q;have c:o=some d:=q;rw[c]
   obtain⟨v,g,h⟩:=r.get j d f;exact⟨v,by simp[g],h⟩
structure BxC(g:jn)(tt:eG)(te:bp)(ok:Mem->Prop)(Q:List D->Mem->Prop):Type
def cF(g:jn)(tt:eG)(te:bp)(ok:Mem->Prop)(Q:List D->Mem->Prop)(b:BxC g tt te ok Q):List D->List D->Dl->Mem->Prop
 |[],acc,_,M=>ok M/\Q acc M
 |x::xs,acc,U,M=>ok M/\g x U M λa M2=>tt a M2 λc M3=>if c=true then te a M3 λy M4=>acc.length<sizeLine/\cF g tt te ok Q b xs (acc++[y]) a M4 else cF g tt te ok Q b xs acc a M3
def aW(wi:zD)(ls:List Str)(js:List Nat)(g:jn)(tt:eG)(te:bp):bp:=λU M Q=>wi U M λb M1=>cF g tt te b.ok (λa M'=>∀p,M' p=none->Q (.ref p) (M'.upd p<|.lst a)) ⟨⟩ b.items [] (cc ls js U) M1
theorem C3{g:jn}{tt:eG}{te:bp}{ok:Mem->Prop}{xs acc:List D}{U:Dl}{Q:List D->Mem->Prop}{b:BxC g tt te ok Q}(h:cF g tt te ok Q b xs acc U M):ok M:=by
 cases xs with
 |nil=>exact h.1
 |cons _ _=>exact h.1
variable {tg iter elt:Expr}{ifs:List Expr}{scope:Scope}{cl:List (Str×Addr)}{pos:Pos}{ls fs:List Str}{js:List Nat}{wi:zD}{g:jn}{tt:eG}{te:bp}
theorem nI{Z:L2.St}{Q:VK}(h:liftE X B (aW wi ls js g tt te) Z H Q):zW (liftI X B wi) ls js (liftG0 X.K g) (liftT0 X.K tt) (liftE0 X.K te) Z H Q:=by
 obtain⟨U,M,QQ,s,h,u⟩:=h;refine⟨U,M,_,s,h,λit M1 h1 J H1 rh1 f1 hJ p hp=>?_⟩;have hMp:M1 p=none:=rh1.fresh hp
 refine⟨λi m σ' H'=>m=it.items.length-i/\i<=it.items.length/\∃δ' M' acc ys,RepH X.K H' M'/\RepS X.K H' δ' σ'/\H' p=some (.lst ys)/\Rps X.K H' acc ys/\M' p=none/\Frm M1 H1 M' H'/\
   cF g tt te it.ok (λacc M'=>∀p,M' p=none->QQ (.ref p) (M'.upd p<|.lst acc)) ⟨⟩ (it.items.drop i) acc δ' M',
  ⟨_,rfl,N5 _,cc ls js U,M1,[],[],rh1.new hp,((s.rs.mono<|f1.imm s.rh).mono<|Imm.new hp).start ls js,upd_same,.nil,hMp,Frm.new hp,h1⟩,?_⟩
 rintro i m σ2 H2 ⟨rfl,hi,δ2,M2,acc,ys,rh2,rs2,hp2,ra2,hm2,f2,h2⟩
 have hok:=C3 h2;obtain⟨hgo,hstop⟩:=hJ i H2 M2 (f2.imm rh1) rh2 hok
 by_cases hlt:i<it.items.length
 .rw[Pk hlt]at h2
  obtain⟨go,hy⟩:=hgo _ (MY hlt)
  refine .inr ⟨go,λσ' H'=>∃δ' M' acc ys,RepH X.K H' M'/\RepS X.K H' δ' σ'/\H' p=some (.lst ys)/\Rps X.K H' acc ys/\M' p=none/\Frm M1 H1 M' H'/\
   cF g tt te it.ok (λacc M'=>∀p,M' p=none->QQ (.ref p) (M'.upd p<|.lst acc)) ⟨⟩ (it.items.drop (i+1)) acc δ' M',λσ' H' z=>⟨it.items.length-(i+1),by omega,rfl,hlt,z⟩,λx H3 hx=>?_⟩
  obtain⟨f3,rh3,rx⟩:=hy x H3 hx;refine⟨_,δ2,M2,_,rh3,rs2.mono (f3.imm rh2),rx,h2.2,λδ4 M4 h4 σ4 H4 f4 rh4 rs4=>?_⟩;refine⟨δ4,M4,_,rh4,rs4,h4,λc M5 h5 H5 rh5 f5=>?_⟩;have f35:=(f3.trans f4).trans f5;obtain⟨hp5,hm5⟩:=f35.keep p _ hp2 hm2;cases c with
  |false=>
   try dsimp only
   rw[if_neg NA]at h5 ⊢;exact⟨δ4,M5,acc,ys,rh5,rs4.mono (f5.imm rh4),hp5,ra2.mf rh2 f35,hm5,f2.trans f35,h5⟩
  |true=>
   try dsimp only
   rw[if_pos rfl]at h5 ⊢;refine⟨δ4,M5,_,rh5,rs4.mono (f5.imm rh4),h5,λy M6 h6 v6 H6 rh6 f6 r6=>?_⟩;obtain⟨hp6,hm6⟩:=f6.keep p _ hp5 hm5;have f26:=f35.trans f6;have ra6:=ra2.mf rh2 f26;refine⟨ys,hp6,by rw[<- ra6.length];exact h6.1,?_⟩
   have im:Imm H6 (upd H6 p<|.lst (ys++[v6])):=Imm.upd (by rw[hp6];trivial)
   refine⟨δ4,M6,acc++[y],ys++[v6],rh6.keep im λb o hb=>aH (Mem.ne hb hm6),((rs4.mono<|f5.imm rh4).mono<|f6.imm rh5).mono im,upd_same,(ra6.append<|.cons r6 .nil).mono im,hm6,?_,h6.2⟩;refine⟨λb w e n=>?_⟩;obtain⟨e2,n2⟩:=(f2.trans f26).keep b w e n;exact⟨by rw[aH (bf e hp)];exact e2,n2⟩
 .rw[Qj (by omega)]at h2
  refine .inl ⟨hstop (by omega),u _ _ (h2.2 p hm2) _ H2 (rh2.add ⟨ys,hp2,ra2⟩) ?_ rfl⟩
  refine⟨λb w e n=>?_⟩;obtain⟨e1,n1⟩:=f1.keep b w e n;obtain⟨e2,n2⟩:=f2.keep b w e1 n1;exact⟨e2,by rw[ag (bf e1 hp)];exact n2⟩
def HP(X:Cx)(B:Bd)(ifs:List Expr)(T:eG):Prop:=IJ X ifs (liftT X B T)
def bX:eG:=λ_ M Q=>Q true M
theorem D9:HP X B [] bX:=λa s Z H Q I c=>by obtain⟨U,M,QQ,b,h,u⟩:=c;exact Dy a s Z H Q I (u true M h H b.rh Frm.refl)
theorem EU{c:Expr}{t:eG}(h:DT X B c t):HP X B [c] t:=Do h
theorem vf{es:List Expr}{T:eG}(h:HP X tL es T):IJ X es (liftT0 X.K T):=λa s Z H Q I b=>by obtain⟨U,M,QQ,f,c,e,u⟩:=b;exact h a s Z H Q I ⟨U,M,QQ,⟨trivial,f,c⟩,e,u⟩
theorem Dz(hc:X.calm=true)(co:CompOk X scope cl ls fs js)(hi:DI X B tg iter wi)
  (hY:∀(C:Addr) (s₀:Shared) (H₀:Hp) (fp:List Addr) (pl:List (Addr×Obj)),DG (bi X (ls++fs) scope cl C s₀ H₀ fp pl) tL tg g/\HP (bi X (ls++fs) scope cl C s₀ H₀ fp pl) tL ifs tt/\DE (bi X (ls++fs) scope cl C s₀ H₀ fp pl) tL elt te)
  (hs:∀x,foldedSetIterable iter X.env x=pure x:=by intro _;rfl):DE X B (.ListComp elt [⟨tg,iter,ifs,0⟩] scope pos) (aW wi ls js g tt te):=
 a_ (CP (g:=liftG0 X.K g) (tt:=liftT0 X.K tt) (te:=liftE0 X.K te) hc co hi (λC s₀ H₀ fp pl=>⟨B3 (hY C s₀ H₀ fp pl).1,vf (hY C s₀ H₀ fp pl).2.1,C0 (hY C s₀ H₀ fp pl).2.2⟩) hs) λ_ _ _ h=>nI h
def oZ(i:Nat)(t:bp):au:=λD U M=>t U M λd M1=>D.nx (U.set i<|some d) M1
theorem ET{i:Nat}{x:Str}{px spos:Pos}(hN:X.N.Nodup)(hix:X.N[i]?=some x)(hx:zG X.env.scope x)(hc:X.calm=true)(co:CompOk X scope cl ls fs js)(hi:DI X B tg iter wi)
  (hY:∀(C:Addr) (s₀:Shared) (H₀:Hp) (fp:List Addr) (pl:List (Addr×Obj)),DG (bi X (ls++fs) scope cl C s₀ H₀ fp pl) tL tg g/\HP (bi X (ls++fs) scope cl C s₀ H₀ fp pl) tL ifs tt/\DE (bi X (ls++fs) scope cl C s₀ H₀ fp pl) tL elt te)
  (hsw:swapsWith (.ListComp elt [⟨tg,iter,ifs,0⟩] scope pos) (some<|.Name x px) spos.line X.env=pure true:=by rfl)
  (hs:∀x,foldedSetIterable iter X.env x=pure x:=by intro _;rfl) (hf:X.fn x=true\/X.env.scope.names.lookup x=some .local:=by first|exact .inl rfl|exact .inr rfl|assumption):
  DS X B (.Assign [.Name x px] (.ListComp elt [⟨tg,iter,ifs,0⟩] scope pos) spos) (oZ i<|aW wi ls js g tt te):=by
 refine ci (Fp (g:=liftG0 X.K g) (tt:=liftT0 X.K tt) (te:=liftE0 X.K te) hN hix hx hc co hi (λC s₀ H₀ fp pl=>⟨B3 (hY C s₀ H₀ fp pl).1,vf (hY C s₀ H₀ fp pl).2.1,C0 (hY C s₀ H₀ fp pl).2.2⟩) hsw hs hf) ?_
 rintro D Z H ⟨U,M,DD,s,h,a⟩
 refine nI ⟨U,M,_,s,h,λd M' q v H' b f r=>?_⟩;exact a.nx _ M' q _ H' f ((s.go b f).set r)
end
abbrev DX:=Addr->Mem->Prop
abbrev Sd:=List D->Mem->DK->DX->Prop
def rW(P:Program)(w:World):pq:=λa H s E e b=>∃C,rY P w C a H s E e b
def UpX(K:Ng)(M:Mem)(H:Hp)(EE:DX)(E:XK):Prop:=∀C M',EE C M'->∀H',RepH K H' M'->Frm M H M' H'->E (.ref C) none H'
def zE(K:Ng)(B:Bd)(EE:DX)(E:XK):Prop:=∀C M',EE C M'->∀H',RepH K H' M'->B.p M' H'->E (.ref C) none H'
theorem UpX.go{K:Ng}{M M1:Mem}{H H1:Hp}{EE:DX}{E:XK}(u:UpX K M H EE E)(i:Frm M H M1 H1):UpX K M1 H1 EE E:=λC M' q H' a b=>u C M' q H' a (i.trans b)
def ce(K:Ng)(n:Nat)(T:Sd):Sp:=λa H Q E=>a.length=n/\∃ds M QQ EE,RepH K H M/\Rps K H ds a/\T ds M QQ EE/\Up K M H QQ Q/\UpX K M H EE E
def startN(N:List Str)(ds:List D):Dl:=ds.map some++Nh (N.length-ds.length) none
theorem RepS.startN{K:Ng}{H:Hp}{ds:List D}{vs:List V}(N:List Str)(r:Rps K H ds vs):RepS K H (L3.startN N ds) (L2.start N vs):=by
 have f:=r.length;refine⟨by simp[L3.startN,L2.start,f],λi d e=>?_⟩
 unfold L3.startN at e;unfold L2.start
 by_cases a:i<ds.length
 .rw[OQ (by simpa using a),Nr,MY a]at e
  have b:ds[i]=d:=by simpa using e
  obtain⟨v,c,g⟩:=r.get (i:=i) (d:=d) (by rw[MY a,b])
  refine⟨v,?_,g⟩;rw[OQ (by simp;lia),Nr,c]
  rfl
 .rw[Ox (by simpa using a),RJ]at e
  split at e<;>cases e
section
variable {P:Program}{w:World}{K:Ng}{mg:Str->Option Value}{base:Heap}{f:Addr}{fd:FuncData}
def drp(Q:DK)(d:D)(M':Mem):Prop:=∃M'',(∀b o,M'' b=some o->M' b=some o)/\Q d M''
def aw(EE:DX)(C:Addr)(M':Mem):Prop:=∃M'',(∀b o,M'' b=some o->M' b=some o)/\EE C M''
theorem aq{Q:DK}{d:D}{M':Mem}(h:Q d M'):drp Q d M':=⟨M',λ_ _ e=>e,h⟩
theorem dP{EE:DX}{C:Addr}{M':Mem}(h:EE C M'):aw EE C M':=⟨M',λ_ _ e=>e,h⟩
theorem Frm.less{M M' M'':Mem}{H H':Hp}(f:Frm M H M' H')(s:∀b o,M'' b=some o->M' b=some o):Frm M H M'' H':=⟨λb u e n=>by
 obtain⟨c,a⟩:=f.keep b u e n;refine⟨c,?_⟩;cases q:M'' b with
 |none=>rfl
 |some o=>rw[s b o q]at a;cases a⟩
theorem Up.drp{M:Mem}{H:Hp}{Q:DK}{QV:VK}(u:Up K M H Q QV):Up K M H (L3.drp Q) QV:=λd M' ⟨M'',s,q⟩ v H' a f r=>u d M'' q v H' (λb o e=>a b o (s b o e)) (f.less s) r
theorem UpX.drp{M:Mem}{H:Hp}{EE:DX}{E:XK}(u:UpX K M H EE E):UpX K M H (aw EE) E:=λC M' ⟨M'',s,q⟩ H' a f=>u C M'' q H' (λb o e=>a b o (s b o e)) (f.less s)
def aK(N:List Str)(T:DX->au):Sd:=λa M Q EE=>T (aw EE) { nx:=λ_ M'=>drp Q .non M',rt:=drp Q } (startN N a) M
theorem fnD{x qual:Str}{st:Stmt}{N ps:List Str}{k:Nat}{T:DX->au}(F:Fun K x qual st f fd)(S:FnScope N ps (bq st))
  (hb:∀(cdv:Value) (A:Around) (outer:List Env) (s:Shared) (H:Hp) (E:XK) (B:Bd) (EE:DX),Room k (A.deeper<|Rk qual (bq st) s.heap.objs.size f cdv)->zE K B EE E->
   zF (dU (rW P w) P w K mg base N qual (bq st) f cdv A outer s H E) B (cE st) (T EE)):
  FnOk P w K mg base (rW P w) (k+1) f fd ps (ce K ps.length<|aK N T):=by
 obtain⟨o,z,kV,g,n,v,cdv,p,c,rfl,lk,a⟩:=F.ex;refine KD lk a S (λj H Q E h=>h.1) λA outer s H j Q E m b=>?_;obtain⟨y,e,M,QQ,EE,rh,r,i,u,ux⟩:=b;refine⟨_,hb cdv A outer s H E (MT M H) (aw EE) m ux.drp,startN N e,M,{ nx:=λ_ M'=>drp QQ .non M',rt:=drp QQ },⟨Frm.refl,rh,.startN N r⟩,i,⟨?_,u.drp,?_,?_⟩⟩
 .exact λU M' q Z H' f l=>u.drp _ M' q _ H' l.rh f rfl
 .exact λU M' q=>(show False from q).elim
 .exact λU M' q=>(show False from q).elim
theorem eI{ps:List Str}{k n:Nat}{CX:pq}:FnOk P w K mg base CX k f fd ps (ce K n λ_ _ _ _=>False):=
 ⟨λc H Q E h=>(by obtain⟨_,_,_,_,_,_,_,h,_⟩:=h;exact h.elim),λA a s H b e c Q E _ _ _ _ h=>(by obtain⟨_,_,_,_,_,_,_,h,_⟩:=h;exact h.elim)⟩
theorem GG{N:List Str}{qual:Str}{scope:Scope}{cd:Value}{A:Around}{outer:List Env}{s0:Shared}{H0:Hp}{E:XK}:ck (rW P w) (dU (rW P w) P w K mg base N qual scope f cd A outer s0 H0 E) E:=by
 intro a Z H s e b I ⟨C,c⟩;have I':Inv (dU (rY P w C) P w K mg base N qual scope f cd A outer s0 H0 E) a Z H s:=I.wish _;have:=KE a Z H s e b I' c;exact wpAny_mono this (λ_ _ z=>⟨C,z⟩) λ_ _ z=>⟨C,z⟩
theorem AR{X:Cx}:ck (rW P w) X E0:=λa Z H s e g I ⟨C,c⟩=>by
 obtain⟨_,_,_,_,_,_,_,_,_,_,_,_,b⟩:=c;exact(show False from b).elim
end
def Sub(M1 M:Mem):Prop:=∀b o,M1 b=some o->M b=some o
def Dis(M1 M M':Mem):Prop:=∀b o,M b=some o->M1 b=none->M' b=none
def plus(M' M1 M:Mem):Mem:=λb=>match M' b with
 |some o=>some o
 |none=>match M1 b with
  |some _=>none
  |none=>M b
theorem mT{M' M:Mem}:plus M' M M=M':=by
 funext b;simp only[plus];cases h:M' b with
 |some o=>rfl
 |none=>cases a:M b<;>rfl
structure BxQ(EE:DX)(Q:DK):Type
structure calls(T:Sd)(EE:DX)(ds:List D)(M:Mem)(Q:DK)(_:BxQ EE Q):Prop where
 go:∃M1,Sub M1 M/\T ds M1 (λd M'=>Dis M1 M M'->Q d (plus M' M1 M)) (λC M'=>Dis M1 M M'->EE C (plus M' M1 M))
section
variable {X:Cx}{B:Bd}{K:Ng}{H H':Hp}{M M1 M':Mem}
theorem RepH.sub(r:RepH K H M)(s:Sub M1 M):RepH K H M1:=λb o e=>r b o (s b o e)
theorem RepH.dis(r:RepH K H M)(f:Frm M1 H M' H'):Dis M1 M M':=λb o e n=>by
 obtain⟨u,q⟩:=(r b o e).obj;exact(f.keep b u q n).2
theorem RepH.plus(r:RepH K H M)(s:Sub M1 M)(r':RepH K H' M')(f:Frm M1 H M' H'):RepH K H' (plus M' M1 M):=λb o e=>by
 simp only[L3.plus]at e
 split at e
 .rename_i c q;cases e;exact r' b _ q
 .split at e
  .cases e
  .rename_i q n
   obtain⟨u,a⟩:=(r b o e).obj;exact(r b o e).keep (f.imm<|r.sub s) ((f.keep b u a n).1.trans a.symm)
theorem Frm.plus(s:Sub M1 M)(f:Frm M1 H M' H'):Frm M H (plus M' M1 M) H':=⟨λb u e n=>by
 have a:M1 b=none:=by
  cases q:M1 b with
  |none=>rfl
  |some o=>rw[s b o q]at n;cases n
 obtain⟨c,g⟩:=f.keep b u e a;exact⟨c,by simp only[L3.plus,g,a,n]⟩⟩
theorem eO{T:Sd}{EE:DX}{ds:List D}{vs:List V}{Q:DK}{n:Nat}{QV:VK}{E:XK}{b:BxQ EE Q}(h:calls T EE ds M Q b)(rh:RepH K H M)(r:Rps K H ds vs)(hl:vs.length=n)(u:Up K M H Q QV)(ux:UpX K M H EE E):ce K n T vs H QV E:=by
 obtain⟨M1,s,h⟩:=h.go;refine⟨hl,ds,M1,_,_,rh.sub s,r,h,λd M' q v H' a f c=>?_,λC M' q H' a f=>?_⟩
 .exact u d _ (q<|rh.dis f) v H' (rh.plus s a f) (f.plus s) c
 .exact ux C _ (q<|rh.dis f) H' (rh.plus s a f) (f.plus s)
theorem aA{T:Sd}{EE:DX}{ds:List D}{Q:DK}{b:BxQ EE Q}(hm:∀Q' E',(∀d M,Q d M->Q' d M)->(∀C M,EE C M->E' C M)->T ds M Q' E'):calls T EE ds M Q b:=
 ⟨M,λ_ _ e=>e,hm _ _ (λd M' q _=>by rw[mT];exact q) λC M' q _=>by rw[mT];exact q⟩
variable {CX:pq}{k n:Nat}{f C:Addr}{fd:FuncData}{ps:List Str}{T:Sd}{EE:DX}{E:XK}{x m:Str}{p pos apos:Pos}{e o:Expr}{es:List Expr}{ta:bp}{t:fj}
def aj(T:Sd)(EE:DX)(n:Nat)(t:fj):bp:=λU M Q=>t U M λa M1=>a.length=n/\calls T EE a M1 Q ⟨⟩
theorem SR.ux{U:Dl}{Z:L2.St}(s:SR X B U M Z H)(ux:zE X.K B EE E):UpX X.K M H EE E:=λC M' q H' a b=>ux C M' q H' a (B.go s.i0 b)
theorem CO(F:FnOk X.prog X.w X.K X.mg X.base CX k f fd ps (ce X.K n T))(hr:Room k X.A)(hg:Gl X x)(hm:X.mg x=some (.ref f))(hk:Pw X.K (.ref f)=true)(hb:Binds X.K fd ps [])(hx:ck CX X E)(ux:zE X.K B EE E)
  (ha:DA X B (e::es) t) (hdb:(x==("__debug__":Str))=false:=by decide) (he:starEach (e::es) X.env=(false,eval e X.env)::starEach es X.env:=by rfl) (hpl:(backTo pos<|starEach es X.env).any (·.1)=false:=by rfl):
  DE X B (.Call (.Name x p) (e::es) [] pos) (aj T EE n t):=by
 refine a_ (ED F hr hg hm hk hb .nil hx ha hdb he hpl) ?_
 rintro Z H Q ⟨U,M,QQ,s,h,u⟩
 refine⟨U,M,_,s,h,λi M1 b j H1 a g c=>?_⟩
 try dsimp only
 rw[NT];exact eO b.2 a c (by rw[<- c.length];exact b.1) (u.go g) ((s.ux ux).go g)
def eh(C:Addr)(m:Str)(T:Sd)(EE:DX)(n:Nat)(ta:bp)(t:fj):bp:=λU M Q=>ta U M λx M1=>match x with
 |.ref a=>match M1 a with
  |some (.ins C' fs)=>C'=C/\fs.lookup m=none/\t U M1 λb M2=>b.length+1=n/\calls T EE (.ref a::b) M2 Q ⟨⟩
  |_=>False
 |_=>False
theorem Ed{pl:Sem Bool}(he:DE X B o ta)(c:Cls X.K C)(hm:Meth X.K C m f)(F:FnOk X.prog X.w X.K X.mg X.base CX k f fd ps (ce X.K n T))(hr:Room k X.A)(hb:Binds X.K fd ps [])(hx:ck CX X E)(ux:zE X.K B EE E)(ha:DA X B (e::es) t)
  (hst:starEach (e::es) X.env=(false,eval e X.env)::starEach es X.env:=by rfl) (hpl:(backTo pos<|starEach es X.env).any (·.1)=false:=by rfl)
  (ht:eval (.Call (.Attribute o m apos) (e::es) [] pos) X.env=(do
   let ov <- eval o X.env
   standAt apos.atName
   let (f,first) <- holding [ov] (getMethod ov m pl)
   callWith pos f first (backTo pos<|starEach (e::es) X.env) (backToKw pos<|keywordEach [] X.env)):=by rfl):
  DE X B (.Call (.Attribute o m apos) (e::es) [] pos) (eh C m T EE n ta t):=by
 refine a_ (Fa he c hm F hr hb .nil hx ha hst hpl ht) ?_
 rintro Z H Q ⟨U,M,QQ,s,h,u⟩
 refine⟨U,M,_,s,h,λx M1 b v H1 g i1 G=>?_⟩
 split at b
 .rename_i a
  cases G
  split at b
  .rename_i C' fs hM
   obtain⟨rfl,J,b⟩:=b;obtain⟨I,r,N,L⟩:=g _ _ hM;have j:r.lookup m=none:=by
    rcases L.lookup m with⟨_,z⟩|⟨d,v,z,_⟩
    .exact z
    .rw[J]at z;cases z
   refine⟨a,I,r,rfl,N,j,U,M1,_,s.go g i1,b,λds M2 y O H2 i q l=>?_⟩
   try dsimp only
   rw[NT];exact eO (ds:=.ref a::ds) y.2 i (.cons rfl l) (by rw[MZ,<- l.length];exact y.1) (u.go<|i1.trans q) ((s.ux ux).go<|i1.trans q)
  .exact b.elim
 .exact b.elim
def uz(C:Addr)(T:Sd)(EE:DX)(n:Nat)(t:fj):bp:=λU M Q=>t U M λb M1=>b.length+1=n/\∀a,M1 a=none->calls T EE (.ref a::b) (M1.upd a<|.ins C []) (λd M2=>match d with
 |.non=>Q (.ref a) M2
 |_=>False) ⟨⟩
theorem Dm(Mk':Mk X.K C f)(F:FnOk X.prog X.w X.K X.mg X.base CX k f fd ps (ce X.K n T))(hr:Room (k+1) X.A)(hg:Gl X x)(hm:X.mg x=some (.ref C))(hb:Binds X.K fd ps [])(hx:ck CX X E)(ux:zE X.K B EE E)
  (ha:DA X B (e::es) t) (hdb:(x==("__debug__":Str))=false:=by decide) (he:starEach (e::es) X.env=(false,eval e X.env)::starEach es X.env:=by rfl) (hpl:(backTo pos<|starEach es X.env).any (·.1)=false:=by rfl):
  DE X B (.Call (.Name x p) (e::es) [] pos) (uz C T EE n t):=by
 refine a_ (DL Mk' F hr hg hm hb .nil hx ha hdb he hpl) ?_
 rintro Z H Q ⟨U,M,QQ,s,h,u⟩
 refine⟨U,M,_,s,h,λds M1 h1 vs H1 rh1 i1 r1 a dx na ndx nex=>?_⟩;rw[NT];have nx1:upd H1 dx (.own a) a=none:=by rw[aH (N8 nex)];exact na
 have im1:Imm H1 (upd H1 dx<|.own a):=Imm.new ndx;have im2:Imm (upd H1 dx<|.own a) (upd (upd H1 dx<|.own a) a<|.ins C dx []):=Imm.new nx1;have rh2:RepH X.K (upd (upd H1 dx<|.own a) a<|.ins C dx []) (M1.upd a<|.ins C []):=(rh1.new ndx).put (by rw[nx1];trivial) ⟨dx,[],upd_same,.nil⟩
 have f2:Frm M1 H1 (M1.upd a<|.ins C []) (upd (upd H1 dx<|.own a) a<|.ins C dx []):=(Frm.new ndx).trans (Frm.put<|.inl nx1);refine eO (h1.2 a<|rh1.fresh na) rh2 (.cons rfl<|(r1.mono im1).mono im2) (by rw[MZ,<- r1.length];exact h1.1) (λd M2 h2 v H2 rh f r=>?_) ((s.ux ux).go<|i1.trans f2)
 cases d with
 |non=>exact⟨r,u _ M2 h2 _ H2 rh ((i1.trans f2).trans f) rfl⟩
 |_=>exact(show False from h2).elim
end
section
variable {X:Cx}{B:Bd}{K:Ng}{H H':Hp}{M M1 M':Mem}{o e:Expr}{es:List Expr}{to:bp}{t:fj}{name:Str}{apos cpos:Pos}{Ty id:String}
abbrev zI:=D->List D->Mem->DK->Prop
inductive liftM(X:Cx)(r:zI)(x:V)(xs:List V)(H:Hp)(Q:VK):Prop
 |mk (d:D) (ds:List D) (M:Mem) (QQ:DK) (rh:RepH X.K H M) (rx:Rp X.K H d x) (rs:Rps X.K H ds xs) (h:r d ds M QQ) (u:Up X.K M H QQ Q):liftM X r x xs H Q
def rV(Ty:String)(r:zI)(to:bp)(t:fj):bp:=λU M Q=>to U M λx M1=>cK M1 x=some Ty/\t U M1 λa M2=>r x a M2 Q
theorem GX{d:D}{v:V}(rh:RepH K H M)(r:Rp K H d v)(e:cK M d=some Ty)(h:Ty="list"\/Ty="str"\/Ty="int"\/Ty="dict"):tyV K Ty v H:=by
 cases d with
 |non=>cases e;rcases h with h|h|h|h<;>exact absurd h (by decide)
 |bl b=>cases e;rcases h with h|h|h|h<;>exact absurd h (by decide)
 |int i=>cases r;cases e;rfl
 |str x=>cases r;cases e;rfl
 |tup xs=>cases e;rcases h with h|h|h|h<;>exact absurd h (by decide)
 |lst xs=>
  cases e;obtain⟨p,l,rfl,j,r⟩:=r;exact .inl ⟨rfl,l,j.sq⟩
 |ref a=>
  cases r;simp only[cK]at e
  split at e
  .rename_i q;cases e;obtain⟨f,c,g⟩:=rh _ _ q;exact .inl ⟨rfl,f,iV c⟩
  .rename_i q;cases e;obtain⟨f,c,g⟩:=rh _ _ q;exact .inr (.inr<|.inl ⟨rfl,.inl ⟨f,c⟩⟩)
  .rename_i q;cases e;obtain⟨f,c,g⟩:=rh _ _ q;exact .inr (.inr<|.inl ⟨rfl,.inr ⟨f,c⟩⟩)
  .cases e
 |_=>cases e
theorem LY{r:zI}(hT:Ty="list"\/Ty="str"\/Ty="int"\/Ty="dict")(pa:PlainAttrs Ty)(slot:Slot Ty name id)(hty:typeOf (.builtin id)=pure (.type "method_descriptor"))(hm:BH X id (liftM X r))(ho:DE X B o to)(ha:DA X B (e::es) t)
  (hbase:attributeBase o name X.env (eval o X.env)=eval o X.env:=by rfl)
  (hfew:((backTo cpos<|starEach (e::es) X.env).all (λx=>!x.1)&&(backToKw cpos<|keywordEach [] X.env).all (λx=>x.1.isSome)
   && decide ((e::es).length+([]:List Keyword).length+(if ([]:List Keyword).isEmpty then 0 else 1)<30))=true:=by rfl)
  (hline:(apos.endLine==cpos.line)=true:=by rfl) (hs:starEach (e::es) X.env=(false,eval e X.env)::starEach es X.env:=by rfl) (hplain:(backTo cpos<|starEach es X.env).any (·.1)=false:=by rfl):
  DE X B (.Call (.Attribute o name apos) (e::es) [] cpos) (rV Ty r to t):=by
 refine a_ (L8 pa slot hty hm ho ha hbase hfew hline hs hplain) ?_
 rintro Z H Q ⟨U,M,QQ,s,h,u⟩
 refine⟨U,M,_,s,h,λx M1 f v H1 a i1 g=>⟨GX a g f.1 hT,U,M1,_,s.go a i1,f.2,λi M2 l m H2 b c j=>?_⟩⟩;exact⟨x,i,M2,QQ,b,g.mf a c,j,l,u.go<|i1.trans c⟩
def cC:zI:=λx b M Q=>match x,b with
 |.ref a,[y]=>match M a with
  |some (.lst xs)=>xs.length<sizeLine/\Q .non (M.upd a<|.lst (xs++[y]))
  |_=>False
 |_,_=>False
theorem sj:BH X "list.append" (liftM X cC):=by
 intro pins s Z H x vs v us Q I rx rv h;obtain⟨d,ds,M,QQ,rh,r,rs,h,up⟩:=h;unfold cC at h
 split at h
 .rename_i a y
  cases r;obtain⟨w,rfl,rw'⟩:=fL (ds:=[]) rs
  split at h
  .rename_i xs hM
   obtain⟨ws,h1,h2⟩:=rh _ _ hM;have im:Imm H (upd H a<|.lst (ws++[w])):=Imm.upd (by rw[h1];trivial)
   exact zj pins s Z H _ _ v us Q I rx rv ⟨a,ws,w,rfl,rfl,h1,by rw[<- h2.length];exact h.1,up _ _ h.2 _ _ (rh.put (by rw[h1];trivial) ⟨_,upd_same,(h2.append<|.cons rw' .nil).mono im⟩) (Frm.put<|.inr ⟨_,hM⟩) rfl⟩
  .exact h.elim
 .exact h.elim
def CG:V->List V->Hp->VK->Prop:=λx a H Q=>∃l b xs zs,x=.ref l/\a=[.ref b]/\H l=some (.lst xs)/\Rd H b (.lst zs)/\xs.length+zs.length<=sizeLine/\Q .non (upd H l<|.lst (xs++zs))
theorem sM:MtM X "list.extend" CG:=by
 intro j s Z H x L v J Q I C G h;obtain⟨l,b,P,R,rfl,rfl,m,E,O,q⟩:=h;cases C;obtain⟨u,rfl,y⟩:=G.one;cases y;obtain⟨z,c,n,r,S,e⟩:=I.lstM m;obtain⟨N,a,w,i,A⟩:=E.ok I.hok;have p:=i.length;have g:c.toArray.size+a.toArray.size<=sizeLine:=by rw[Na,Na];lia
 have f:¬(!c.toArray.isEmpty&&O8 (c.toArray.size+a.toArray.size))=true:=by
  rw[rK g,NF];exact NA
 refine call_meets RY ⟨_,e,rfl⟩ F.entry_list_extend (F.args_list_extend_2 _ _)
  (AutoSeq1.list_extend_list_list_0 l c.toArray n b a.toArray w f (by rw[Na];lia)<|by lia) ⟨e,A,?_⟩
 refine⟨.non,_,I.lset (its':=c++a) m e (by simp) (r.append i) ?_,rfl,q⟩
 rw[Nd];lia
def oy:zI:=λx b M Q=>match x,b with
 |.ref a,[y]=>match M a,cP M y with
  |some (.lst xs),some ys=>xs.length+ys.length<=sizeLine/\Q .non (M.upd a<|.lst (xs++ys))
  |_,_=>False
 |_,_=>False
theorem uq:BH X "list.extend" (liftM X oy):=by
 intro pins s Z H x vs v us Q I rx rv h;obtain⟨d,ds,M,QQ,rh,r,rs,h,up⟩:=h;unfold oy at h
 split at h
 .rename_i a y
  cases r;obtain⟨w,rfl,rw'⟩:=fL (ds:=[]) rs
  split at h
  .rename_i xs ys hM hy
   obtain⟨ws,h1,h2⟩:=rh _ _ hM;obtain⟨p,zs,rfl,hq,r2⟩:=dQ rh rw' hy;have l1:=h2.length;have l2:=r2.length;have im:Imm H (upd H a<|.lst (ws++zs)):=Imm.upd (by rw[h1];trivial)
   exact sM pins s Z H _ _ v us Q I rx rv ⟨a,p,ws,zs,rfl,rfl,h1,hq,by lia,up _ _ h.2 _ _ (rh.put (by rw[h1];trivial) ⟨_,upd_same,(h2.append r2).mono im⟩) (Frm.put<|.inr ⟨_,hM⟩) rfl⟩
  .exact h.elim
 .exact h.elim
def Ff:zI:=λx b M Q=>match x,b with
 |.ref a,[]=>match M a with
  |some (.lst xs)=>match xs[xs.length-1]? with
   |some y=>Q y (M.upd a<|.lst xs.dropLast)
   |none=>False
  |_=>False
 |.ref a,[.int i]=>match M a with
  |some (.lst xs)=>match r_ xs.length i with
   |some k=>match xs[k]? with
    |some y=>Q y (M.upd a<|.lst<|xs.eraseIdx k)
    |none=>False
   |none=>False
  |_=>False
 |_,_=>False
theorem E4:BH X "list.pop" (liftM X Ff):=by
 intro pins s Z H x vs v us Q I rx rv h;obtain⟨d,ds,M,QQ,rh,r,rs,h,up⟩:=h;unfold Ff at h
 split at h
 .rename_i a
  cases r;cases rs
  split at h
  .rename_i xs hM
   split at h
   .rename_i y ey
    obtain⟨ws,h1,h2⟩:=rh _ _ hM;obtain⟨w,hw,rw'⟩:=h2.get ey;have im:Imm H (upd H a<|.lst ws.dropLast):=Imm.upd (by rw[h1];trivial)
    exact J8 pins s Z H _ _ v us Q I rx rv ⟨a,ws,w,rfl,rfl,h1,by rw[<- h2.length];exact hw,up _ _ h _ _ (rh.put (by rw[h1];trivial) ⟨_,upd_same,h2.dropLast.mono im⟩) (Frm.put<|.inr ⟨_,hM⟩)<|rw'.mono im⟩
   .exact h.elim
  .exact h.elim
 .rename_i a i
  cases r;obtain⟨w0,rfl,rw0⟩:=fL (ds:=[]) rs;cases rw0
  split at h
  .rename_i xs hM
   split at h
   .rename_i k ek
    split at h
    .rename_i y ey
     obtain⟨ws,h1,h2⟩:=rh _ _ hM;obtain⟨w,hw,rw'⟩:=h2.get ey;obtain⟨j1,j2,j3,j4⟩:=pC ek;have hz:ws.length<=sizeLine:=(I.lstM h1).1;have hs:sizeLine=16777216:=rfl;have hl:=h2.length;have im:Imm H (upd H a<|.lst<|ws.eraseIdx k):=Imm.upd (by rw[h1];trivial)
     exact zK pins s Z H _ _ v us Q I rx rv ⟨a,ws,i,k,w,rfl,rfl,h1,by lia,by lia,by rw[<- hl];exact j1,hw,up _ _ h _ _ (rh.put (by rw[h1];trivial) ⟨_,upd_same,(h2.eraseIdx k).mono im⟩) (Frm.put<|.inr ⟨_,hM⟩)<|rw'.mono im⟩
    .exact h.elim
   .exact h.elim
  .exact h.elim
 .exact h.elim
def iH:List D->Option (List Str)
 |[]=>some []
 |.str x::ds=>match iH ds with
  |some xs=>some (x::xs)
  |none=>none
 |_=>none
theorem rP:∀{ds:List D} {vs:List V} {xs:List Str},Rps K H ds vs->iH ds=some xs->vs=xs.map V.str
 |[],vs,xs,r,e=>by cases e;exact r
 |d::ds,vs,xs,r,e=>by
  obtain⟨v,h,rfl,a,b⟩:=r;cases d with
  |str c=>
   simp only[iH]at e
   split at e
   .rename_i g f
    cases e;cases a;rw[rP b f];rfl
   .cases e
  |_=>cases e
def o8:zI:=λx a M Q=>match x,a with
 |.tup xs,[.str z]=>match iH xs with
  |some names=>names.length<=1000/\match names.findIdx? (λy=>decide (y=z)) with
   |some j=>Q (.int (j:Nat)) M
   |none=>False
  |none=>False
 |_,_=>False
theorem tJ:BH X "tuple.index" (liftM X o8):=by
 intro b s Z H x N v u Q I C G h;obtain⟨d,ds,M,QQ,F,r,g,h,l⟩:=h;unfold o8 at h
 split at h
 .rename_i J z
  obtain⟨p,L,rfl,E,r⟩:=r;obtain⟨w,rfl,c⟩:=fL (ds:=[]) g;cases c
  split at h
  .rename_i a y
   obtain⟨n,h⟩:=h
   split at h
   .rename_i j f
    have:=rP r y;subst this;rw[List.findIdx?_eq_some_iff_getElem]at f;obtain⟨i,A,q⟩:=f;refine zt b s Z H _ _ v u Q I C G ⟨p,a,z,j,rfl,rfl,E,n,?_,λm hm=>?_,l _ M h _ H F Frm.refl rfl⟩
    .rw[MY i];simpa using A
    .have:=q m hm
     rw[MY (by lia)]
     simpa using this
   .exact h.elim
  .exact h.elim
 .exact h.elim
def dTM(r:zI)(to:bp)(t:fj):bp:=λU M Q=>to U M λx M1=>match x with
 |.tup xs=>t U M1 λa M2=>r (.tup xs) a M2 Q
 |_=>False
theorem La{r:zI}(slot:Slot "tuple" name id)(hty:typeOf (.builtin id)=pure (.type "method_descriptor"))(hm:BH X id (liftM X r))(ho:DE X B o to)(ha:DA X B (e::es) t)
  (hbase:attributeBase o name X.env (eval o X.env)=eval o X.env:=by rfl)
  (hfew:((backTo cpos<|starEach (e::es) X.env).all (λx=>!x.1)&&(backToKw cpos<|keywordEach [] X.env).all (λx=>x.1.isSome)
   && decide ((e::es).length+([]:List Keyword).length+(if ([]:List Keyword).isEmpty then 0 else 1)<30))=true:=by rfl)
  (hline:(apos.endLine==cpos.line)=true:=by rfl) (hs:starEach (e::es) X.env=(false,eval e X.env)::starEach es X.env:=by rfl) (hplain:(backTo cpos<|starEach es X.env).any (·.1)=false:=by rfl):
  DE X B (.Call (.Attribute o name apos) (e::es) [] cpos) (dTM r to t):=by
 refine a_ (LH slot hty hm ho ha hbase hfew hline hs hplain) ?_
 rintro Z H Q ⟨U,M,QQ,s,h,u⟩
 refine⟨U,M,_,s,h,λx M1 i v H1 a i1 j=>?_⟩;cases x with
 |tup xs=>
  have b:=j;obtain⟨p,f,rfl,n,w⟩:=b;refine⟨⟨p,f,rfl,n⟩,U,M1,_,s.go a i1,i,λl M2 q f H2 c g m=>?_⟩;exact⟨_,l,M2,QQ,c,j.mf a g,m,q,u.go<|i1.trans g⟩
 |_=>exact(show False from i).elim
def qJ:bp:=λ_ M Q=>∀p,M p=none->Q (.ref p) (M.upd p<|.dT [])
theorem EF{pos:Pos}:DE X B (.Dict [] [] pos) qJ:=by
 refine a_ AA ?_
 rintro Z H Q ⟨U,M,QQ,s,h,u⟩ p hp
 exact u _ _ (h p<|s.rh.fresh hp) _ _ (s.rh.put (by rw[hp];trivial) ⟨[],upd_same,.nil⟩) (Frm.put<|.inl hp) rfl
def eY(ks:List ax)(ys:List D):List (ax×D):=(ks.zip ys).foldl (λa p=>bL a p.1 p.2) []
theorem mw:∀{ks:List ax} {ds:List D} {vs:List V} {a:List (ax×D)} {b:List (ax×V)},Rps K H ds vs->Rkv K H a b->
  Rkv K H ((ks.zip ds).foldl (λa p=>bL a p.1 p.2) a) ((ks.zip vs).foldl (λa p=>cj a p.1 p.2) b)
 |[],_,_,_,_,_,r=>r
 |_::_,[],_,_,_,h,r=>by cases h;exact r
 |k::ks,d::ds,_,_,_,h,r=>by
  obtain⟨v,vs,rfl,a,b⟩:=h;exact mw (ks:=ks) b (r.put k a)
def kJ(t:fj):bp:=λU M Q=>t U M λa M1=>match a with
 |[.tup xs,.tup ys]=>match bP xs with
  |some ks=>ks.length=ys.length/\0<ks.length/\ks.length<=1000/\∀p,M1 p=none->Q (.ref p) (M1.upd p<|.dK<|eY ks ys)
  |none=>False
 |_=>False
theorem tu{a b:Expr}{ta:fj}{p p2 pos pos2:Pos}(hc:X.calm=true)(hg:Gl X "zip")(hm:X.mg "zip"=none)(hg2:Gl X "dict")(hm2:X.mg "dict"=none)(ha:DA X B [a,b] ta)
  (hs:starEach [a,b] X.env=[(false,eval a X.env),(false,eval b X.env)]:=by rfl) (hs2:starEach [b] X.env=[(false,eval b X.env)]:=by rfl)
  (hs3:starEach [RI (.Name "zip" p2) [a,b] [] pos2] X.env=[(false,eval (.Call (.Name "zip" p2) [a,b] [] pos2) X.env)]:=by rfl):
  DE X B (.Call (.Name "dict" p) [.Call (.Name "zip" p2) [a,b] [] pos2] [] pos) (kJ ta):=by
 refine a_ (tj false false hc hg hm hg2 hm2 ha hs hs2 hs3) ?_
 rintro Z H Q ⟨U,M,QQ,s,h,u⟩
 refine⟨U,M,_,s,h,λds M1 h1 vs H1 rh1 i1 r1=>?_⟩
 split at h1
 .obtain⟨v,w,rfl,rv,rw'⟩:=Da r1
  obtain⟨l1,us,rfl,t1,ru⟩:=rv;obtain⟨l2,ws,rfl,t2,rw2⟩:=rw'
  split at h1
  .rename_i ks ek
   obtain⟨e1,e2,e3,h1⟩:=h1;have hk:=kM ru ek;subst hk;refine⟨l1,l2,ks,ws,rfl,t1.sq,t2.sq,by rw[<- rw2.length];exact e1,e2,e3,λd hd=>?_⟩
   have im:Imm H1 (upd H1 d<|.dK<|(ks.zip ws).foldl (λa p=>cj a p.1 p.2) []):=Imm.new hd;exact u _ _ (h1 d<|rh1.fresh hd) _ _ (rh1.put (by rw[hd];trivial) ⟨_,upd_same,(mw rw2 .nil).mono im⟩) (i1.trans<|Frm.put<|.inl hd) rfl
  .exact h1.elim
 .exact h1.elim
end
section
variable {P:Program}{w:World}{K:Ng}{mg:Str->Option Value}{base:Heap}{N:List Str}{qual:Str}{scope:Scope}{f C:Addr}{cd:Value}{A:Around}{outer:List Env}{s0:Shared}{H0:Hp}{E:XK}{B:Bd}
theorem EV{X:Cx}{st:Stmt}{t:TS}{E':Value->Shared->Prop}(h:PS X st t)(k:∀e s,X.xe e s->E' e s):PS (X.wish E') st t:=λb s Z H D I q=>
 wpAny_mono (h b s Z H D (I.unwish) q) (λf c z=>by
  cases f with
  |next=>obtain⟨a,H',I,q⟩:=z;exact⟨a,H',I.wish _,q⟩
  |brk=>obtain⟨a,H',I,q⟩:=z;exact⟨a,H',I.wish _,q⟩
  |cont=>obtain⟨a,H',I,q⟩:=z;exact⟨a,H',I.wish _,q⟩
  |ret u=>obtain⟨v,a,H',I,r,q⟩:=z;exact⟨v,a,H',I.wish _,r,q⟩) k
def pE(C:Addr)(EE:DX):au:=λ_ _ M=>EE C M
theorem Cg{x msg:Str}{np cpos pos apos:Pos}{jj}{EE:DX}(X:ExcAt K C)(hm:mg x=some (.ref C))(ux:zE K B EE E)(hg:Gl (dU (rW P w) P w K mg base N qual scope f cd A outer s0 H0 E) x)
  (hd:(x==("__debug__":Str))=false:=by decide)
  (hs:starEach [.Constant (.str msg) jj apos] (dU (rW P w) P w K mg base N qual scope f cd A outer s0 H0 E).env=[(false,eval (.Constant (.str msg) jj apos) (dU (rW P w) P w K mg base N qual scope f cd A outer s0 H0 E).env)]:=by rfl):
  DS (dU (rW P w) P w K mg base N qual scope f cd A outer s0 H0 E) B (.Raise (some<|.Call (.Name x np) [.Constant (.str msg) jj apos] [] cpos) none pos) (pE C EE):=by
 have a:PS (dU (rY P w C) P w K mg base N qual scope f cd A outer s0 H0 E) (.Raise (some<|.Call (.Name x np) [.Constant (.str msg) jj apos] [] cpos) none pos) (tO E C):=AY X hm hg hd hs;have b:PS (dU (rW P w) P w K mg base N qual scope f cd A outer s0 H0 E) (.Raise (some<|.Call (.Name x np) [.Constant (.str msg) jj apos] [] cpos) none pos) (tO E C):=
  EV a λe s h=>wpAny_mono h (λ_ _ z=>⟨C,z⟩) λ_ _ z=>⟨C,z⟩
 refine ci b ?_
 rintro D Z H ⟨U,M,DD,s,h,c⟩
 exact ux C M h H s.rh s.i0
end
section
variable {X:Cx}{B:Bd}
def JT(C:Addr)(T:Sd)(n:Nat)(ta:fj)(ts:au):au:=λD U M=>ta U M λa M1=>a.length=n/\calls T (λC' M2=>C'=C/\ts D U M2) a M1 (λ_ M2=>D.nx U M2) ⟨⟩
theorem SR.mark{U:Dl}{M:Mem}{Z:L2.St}{H:Hp}{e:Value}(s:SR X B U M Z H):SR (X.marked e) B U M Z H:=⟨s.i0,s.rh,s.rs⟩
theorem SR.unmark{U:Dl}{M:Mem}{Z:L2.St}{H:Hp}{e:Value}(s:SR (X.marked e) B U M Z H):SR X B U M Z H:=⟨s.i0,s.rh,s.rs⟩
theorem UpD.mark{M:Mem}{H:Hp}{DD:DEnds}{D:Ends}{e:Value}(u:UpD X B M H DD D):UpD (X.marked e) B M H DD D:=
 ⟨λU M q Z H' f s=>u.nx U M q Z H' f s.unmark,u.rt,λU M q Z H' f s=>u.bk U M q Z H' f s.unmark,λU M q Z H' f s=>u.ct U M q Z H' f s.unmark⟩
theorem ER{P:Program}{w:World}{K:Ng}{mg:Str->Option Value}{base:Heap}{k:Nat}{f C:Addr}{fd:FuncData}{ps:List Str}{sp:Sp}(F:FnOk P w K mg base (rW P w) k f fd ps sp):
  FnOk P w K mg base (rY P w C) k f fd ps (λvs H Q E=>sp vs H Q λCv a H'=>Cv=.ref C/\E Cv a H'):=
 ⟨λvs H Q E h=>F.len _ _ _ _ h,λA b s H c m vs Q E L l G i M=>codeAny_mono (F.run A b s H c m vs Q _ L l G i M) λr N h=>by
  cases r with
  |ok fl=>cases fl<;>exact h
  |error e=>
   obtain⟨C',j,H',B,p,u,I,v,J,o,y,q,x,n,g⟩:=h;have z:C'=C:=by injection n
   subst z;exact⟨j,H',B,p,u,I,v,J,o,y,q,x,g⟩⟩
theorem sy{C f:Addr}{k n:Nat}{fd:FuncData}{ps:List Str}{T:Sd}{x cx:Str}{p cp ep np hpos pos:Pos}{e:Expr}{es:List Expr}{ta:fj}{b₀:Stmt}{suite:List Stmt}{ts:au}
  (hst:X.stack=X.env::X.outer) (hfL:X.env.frame=some X.env.locals) (F:FnOk X.prog X.w X.K X.mg X.base (rW X.prog X.w) k f fd ps (ce X.K n T)) (hr:Room k X.A) (hg:Gl X x) (hm:X.mg x=some (.ref f)) (hk:Pw X.K (.ref f)=true) (hb:Binds X.K fd ps [])
  (ha:DA X.nox B (e::es) ta) (EX:ExcAt X.K C) (hgC:Gl X cx) (hmC:X.mg cx=some (.ref C)) (hsu:∀ea:Addr,zF (X.marked<|.ref ea) B (b₀::suite) ts)
  (hdb:(x==("__debug__":Str))=false:=by decide) (hdC:(cx==("__debug__":Str))=false:=by decide) (he:starEach (e::es) X.env=(false,eval e X.env)::starEach es X.env:=by rfl) (hpl:(backTo cp<|starEach es X.env).any (·.1)=false:=by rfl)
  (hsw:swapsWith (.Call (.Name x p) (e::es) [] cp) none ep.line X.env=pure false:=by rfl):
  DS X B (.Try [.Expr (.Call (.Name x p) (e::es) [] cp) ep] [.ExceptHandler (some<|.Name cx np) none (b₀::suite) hpos] [] [] pos) (JT C T n ta ts):=by
 have b:∀ea:Addr,wo (X.marked<|.ref ea) (b₀::suite) (liftS X B ts):=λea=>kZ (hsu ea) λD Z H ⟨U,M,DD,s,h,u⟩=>⟨U,M,DD,s.mark,h,u.mark⟩;refine ci (ug (C:=C) hst hfL (ER F) hr hg hm hk hb .nil ha EX hgC hmC b hdb hdC he hpl hsw) ?_
 rintro D Z H ⟨U,M,DD,s,h,j⟩
 refine⟨U,M,_,⟨s.i0,s.rh,s.rs⟩,h,λo M1 l q H1 i i1 m=>?_⟩
 try dsimp only
 rw[NT];refine eO l.2 i m (by rw[<- m.length];exact l.1) (λd M2 g v H2 a c r=>?_) λC' M2 g H2 a c=>?_
 .exact j.nx _ _ g Z H2 (i1.trans c) (s.go a<|i1.trans c)
 .obtain⟨rfl,g⟩:=g
  exact⟨rfl,U,M2,DD,s.go a (i1.trans c),g,j.go<|i1.trans c⟩
end
end L3
namespace L2
open PySem PySem.Spec PyProof.Rows
theorem fK{scope:Scope}{env:Env}{x:Str}{k:NameKind}(h:(relabel scope env).names.lookup x=some k):∃k',(x,k')∈scope.names/\(k=k'\/(k'=.free/\k=.cell)):=by
 have hm:=OK h;obtain⟨⟨n,b⟩,e,f⟩:=Nu.mp hm
 by_cases c:(b==NameKind.free&&env.scope.kind==.function&&env.kindOf n==some .cell)=true
 .have a:(n,NameKind.cell)=(x,k):=by rw[<- f];show _=(if _ then _ else _);rw[if_pos c]
  cases a;have g:b=.free:=by
   simp only[Oo]at c;exact beq_iff_eq.mp c.1.1
  exact⟨b,e,.inr ⟨g,rfl⟩⟩
 .have a:(n,b)=(x,k):=by rw[<- f];show _=(if _ then _ else _);rw[if_neg c]
  cases a;exact⟨_,e,.inl rfl⟩
theorem je{x:Str}:∀{fs:List Str} {cs:List Addr},fs.length=cs.length->x∈fs->∃c,(fs.zip cs).lookup x=some c
 |[],_,_,h=>by cases h
 |_::_,[],h,_=>by simp at h
 |y::fs,c::cs,hl,h=>by
  rw[Pr,Q7];cases e:x==y with
  |true=>exact⟨c,rfl⟩
  |false=>
   have ne:¬x=y:=λz=>by rw[z]at e;simp at e
   rcases Nl.mp h with z|z
   .exact absurd z ne
   .exact je (by simpa using hl) z
theorem Ee{X:Cx}{scope:Scope}{ls fs:List Str}{cs:List Addr}{js:List Nat}(hk:scope.kind=.function)(hn:∀y∈scope.names,y.2≠.cell/\(y.2=.free->y.1∈fs))(hl:∀x∈scope.names,x.2=.local->scope.names.lookup x.1=some .local)
  (hlen:fs.length=cs.length) (hcl:closureFor scope X.env=pure (fs.zip cs)) (hc:∀p∈fs.zip cs,X.env.cells.lookup p.1=some p.2) (hf:Frees X scope fs js):CompOk X scope (fs.zip cs) ls fs js where
 kind:=hk
 nocell:=λy c=>(hn y c).1
 locs:=hl
 clos:=hcl
 cells:=λy d h=>hc (y,d) (OK h)
 has:=λy h=>by
  have c:y∈fs:=by
   rcases h with h|h
   .obtain⟨e,b,a|⟨a,_⟩⟩:=fK h
    .exact absurd a.symm (hn _ b).1
    .exact(hn _ b).2 a
   .obtain⟨e,b,a|⟨a,_⟩⟩:=fK h
    .exact(hn _ b).2 a.symm
    .exact(hn _ b).2 a
  exact je hlen c
 frees:=hf
theorem memZ{α:Type}{C:α->Prop}:∀p∈([]:List α),C p:=λ_ h=>by cases h
theorem memC{α:Type}{C:α->Prop}{a:α}{l:List α}(ha:C a)(hl:∀p∈l,C p):∀p∈a::l,C p:=λp b=>by
 rcases Nl.mp b with rfl|z
 .exact ha
 .exact hl p z
end L2
namespace L3
open PySem L2
section
variable {X:Cx}{B:Bd}{pos:Pos}
theorem dnm(i:Nat){x:Str}{pos:Pos}(hN:X.N[i]?=some x:=by rfl)(hv:Kd X.env.scope x:=by first|exact Or.inl rfl|exact Or.inr (Or.inl rfl)|exact Or.inr (Or.inr rfl))(hd:(x==("__debug__":Str))=false:=by decide)
  (hcd:(x==("__classdict__":Str))=false:=by decide):DE X B (.Name x pos) (ac i):=JN hN hv hd hcd
def iF:DX:=λ_ _=>False
theorem uxN{K:Ng}{E:XK}:zE K B iF E:=λ_ _ z=>z.elim
theorem kS:bootBuiltins "list"=some (.type "list"):=by decide +kernel
theorem nc:bootBuiltins "tuple"=some (.type "tuple"):=by decide +kernel
theorem Eo:bootBuiltins "all"=some (.builtin "all"):=by decide +kernel
theorem lE:bootBuiltins "isinstance"=some (.builtin "isinstance"):=by decide +kernel
theorem AB:bootBuiltins "bool"=some (.type "bool"):=by decide +kernel
theorem Ei:bootBuiltins "int"=some (.type "int"):=by decide +kernel
theorem CN:bootBuiltins "str"=some (.type "str"):=by decide +kernel
theorem Bt:bootBuiltins "dict"=some (.type "dict"):=by decide +kernel
theorem E9:bootBuiltins "min"=some (.builtin "min"):=by decide +kernel
theorem xq:bootBuiltins "len"=some (.builtin "len"):=by decide +kernel
theorem Lh{x:Str}{T:String}(hg:Gl X x)(hm:X.mg x=none)(hv:bootBuiltins x=some (.type T))(hn:x≠"__name__":=by decide)(hd:(x==("__debug__":Str))=false:=by decide):DE X B (.Name x pos) (dC<|.ty T):=
 Bi (F4 (v:=.ty T) hg hm hv rfl hn hd) λ_=>rfl
def yA(t:bp):bp:=λU M Q=>t U M λx M1=>match x with
 |.int i=>Q (.int (-i)) M1
 |_=>False
theorem Iw{a:Expr}{ta:bp}(ha:DE X B a ta):DE X B (.UnaryOp .USub a pos) (yA ta):=by
 refine a_ (KS Jg ha) ?_
 rintro Z H Q ⟨U,M,QQ,s,h,u⟩
 refine⟨U,M,_,s,h,λd M' q v H' b i r=>?_⟩;cases d with
 |int j=>exact⟨j,r,u _ M' q _ H' b i rfl⟩
 |_=>exact(show False from q).elim
def frzs:List D->Mem->(List D->Mem->Prop)->Prop
 |[],M,Q=>Q [] M
 |d::ds,M,Q=>match d with
  |.ref a=>match M a with
   |some (.lst xs)=>frzs ds (M.del a) λb M'=>Q (.lst xs::b) M'
   |_=>frzs ds M λb M'=>Q (d::b) M'
  |_=>frzs ds M λb M'=>Q (d::b) M'
theorem hW{pins:List (Addr×Obj)}{Z:L2.St}{s:Shared}:∀{ds:List D} {vs:List V} {M:Mem} {H:Hp} {Q:List D->Mem->Prop},Inv X pins Z H s->RepH X.K H M->Rps X.K H ds vs->frzs ds M Q->
  ∃H' es M',Inv X pins Z H' s/\RepH X.K H' M'/\Frm M H M' H'/\Rps X.K H' es vs/\Q es M'
 |[],vs,M,H,Q,I,rh,r,h=>⟨H,[],M,I,rh,Frm.refl,r,h⟩
 |d::ds,vs,M,H,Q,I,rh,r,h=>by
  obtain⟨v,vs',rfl,a,b⟩:=r;unfold frzs at h
  split at h
  .rename_i a'
   cases a
   split at h
   .rename_i xs e
    obtain⟨ws,h1,h2⟩:=rh _ _ e;obtain⟨o,I2⟩:=Inv.freeze I h1;have im:Imm H (upd H a'<|.frz o<|.lst ws):=Imm.upd (by rw[h1];trivial)
    obtain⟨H',es,M',I',rh',f,r',q⟩:=hW I2 (rh.freeze h1) (b.mono im) h;refine⟨H',_,M',I',rh',(Frm.del ⟨_,e⟩).trans f,.cons ?_ r',q⟩;have z:Rp X.K (upd H a'<|.frz o<|.lst ws) (.lst xs) (.ref a'):=⟨a',ws,rfl,⟨o,upd_same⟩,h2.mono im⟩;exact z.mf (rh.freeze h1) f
   .obtain⟨H',es,M',I',rh',f,r',q⟩:=hW I rh b h
    exact⟨H',_,M',I',rh',f,.cons (d:=.ref a') rfl r',q⟩
  .obtain⟨H',es,M',I',rh',f,r',q⟩:=hW I rh b h
   exact⟨H',_,M',I',rh',f,.cons (a.mf rh f) r',q⟩
def qi(d:D)(M:Mem)(Q:DK):Prop:=match d with
 |.tup ds=>frzs ds M λa M'=>Q (.tup a) M'
 |d=>Q d M
def qa(t:bp):bp:=λU M Q=>t U M λd M'=>qi d M' Q
theorem F0{e:Expr}{te:bp}(h:DE X B e te):DE X B e (qa te):=by
 intro a s Z H Q I j;obtain⟨U,M,QQ,n,y,u⟩:=j;refine bF (h a s Z H (λv H'=>∃d M',RepH X.K H' M'/\Frm M H M' H'/\Rp X.K H' d v/\qi d M' QQ) I ⟨U,M,_,n,y,λd M' q v H' b i r=>⟨d,M',b,i,r,q⟩⟩) ?_
 rintro w A ⟨v,H',I',g,d,M',b,i,r,q⟩
 unfold qi at q
 split at q
 .obtain⟨p,m,rfl,x,r⟩:=r
  obtain⟨H2,z,M2,I2,c,f,o,l⟩:=hW I' b r q;exact⟨.ref p,H2,I2,g,u _ _ l _ H2 c (i.trans f) ⟨p,m,rfl,x.mono (f.imm b),o⟩⟩
 .exact⟨v,H',I',g,u _ _ q v H' b i r⟩
theorem J7{P:Program}{w:World}{K:Ng}{mg:Str->Option Value}{base:Heap}{k n:Nat}{f:Addr}{fd:FuncData}{ps:List Str}{T:Sd}(F:FnOk P w K mg base (rW P w) k f fd ps (ce K n T)):
  FnOk P w K mg base CX0 k f fd ps (λvs H Q _=>ce K n T vs H Q E0):=
 ⟨λvs H Q E h=>F.len _ _ _ _ h,λA a s H b i vs Q E m g l c o=>codeAny_mono (F.run A a s H b i vs Q E0 m g l c o) λr y h=>by
  cases r with
  |ok fl=>cases fl<;>exact h
  |error e=>
   obtain⟨C',p,H',B,u,x,I,z,J,q,G,v,C,j⟩:=h;exact(show False from j).elim⟩
theorem F9{K:Ng}{T:Sd}{H:Hp}{a:Addr}{ns:List Int}{Q:VK}(hO:Al H)(hS:SqL K H a (ns.map V.int))(h:T [.ml (ns.map D.int)] (λ_=>none) (λd _=>d=.bl true) iF)(k:∀H',Q (.bl true) H'):ce K 1 T [.ref a] H Q E0:=by
 refine⟨rfl,[.ml (ns.map D.int)],λ_=>none,_,_,λb o e=>(by cases e),.cons ⟨a,_,rfl,?_,rS rfl⟩ .nil,h,λd M' q v H' c f r=>?_,λ_ _ z=>z.elim⟩
 .rcases hS with (z|z)|z
  .rcases hO a with e|⟨o,xs,e⟩
   .rw[e]at z;cases z
   .rw[e]at z;cases z
  .exact .inl z
  .exact .inr z
 .subst q;cases r;exact k H'
end
theorem jh{K:Ng}{h h':Heap}{N:Addr}(X:K.In h)(X':K.In h')(e:W.nsOkIn K N=true):h'.nsMap N=h.nsMap N:=by
 unfold W.nsOkIn at e
 split at e
 .rename_i a
  funext x;unfold Heap.nsMap;rw[X _ _ a,X' _ _ a]
 .cases e
theorem kL{K:Ng}{h:Heap}{C:Addr}(X:K.In h)(q:W.excIn K C [.type "ValueError",.type "Exception",.type "BaseException",.type "object"] "ValueError.__new__"=true):ExcAt K C:=by
 unfold W.excIn at q
 split at q
 .rename_i A w u y
  split at q
  .rename_i C' x o j p i n g hm s
   simp only[Oo,beq_iff_eq,Bool.not_eq_true']at q;obtain⟨⟨⟨⟨⟨rfl,rfl⟩,b⟩,m⟩,a⟩,c⟩:=q;obtain⟨nm,bs,B,r,E,z,v,sub,G,e,del⟩:=w;dsimp only at hm b a c;subst hm b;have f:u=#[o,j,p,i,some (.builtin "ValueError.__new__"),g]:=by
    obtain⟨l⟩:=u;simp only at s;rw[s]
   subst f;refine⟨⟨nm,E,r,bs,x,_,z,v,sub,G,e,A,o,j,p,i,g,"ValueError.__new__","ValueError.__init__","ValueError",h.nsMap r,λH X'=>⟨X' _ _ y,?_,W.tail_of_in X' m⟩,W.nsMap_none_of_in X a c,PySem.F.excBase_ValueError,by decide,(W.tail_of_in X m).hasType<|by decide⟩⟩
   rw[<- jh X X' a];exact .of_isNs (W.isNs_of_in X' a)
  .cases q
 .cases q
end L3
namespace L2
open PySem
theorem Eh{elt:Expr}{gens:List Comprehension}{scope:Scope}{pos px:Pos}{x:Str}{line:Nat}{env:Env}(h1:env.blockKind=.function)(h2:env.scope.names.lookup x=some .local)(h3:px.line=pos.line)
  (h4:(scope.names.any λ(n,k)=>n==x&&(k==.local||k==.cell))=false):swapsWith (.ListComp elt gens scope pos) (some<|.Name x px) line env=pure true:=by
 have e:(Expr.ListComp elt gens scope pos).pos=pos:=rfl;have a:env.kindOf x=some .local:=h2;unfold swapsWith
 try dsimp only
 rw[h1,a,e,h3,h4];simp
end L2
namespace L3
open PySem L2
def zV:Expr->Bool
 |.Starred ..=>false
 |_=>true
theorem zB{e:Expr}{es:List Expr}{env:Env}(h:zV e=true):starEach (e::es) env=(false,eval e env)::starEach es env:=by
 cases e<;>first|rfl|exact Bool.noConfusion h
section
variable {X:Cx}{B:Bd}
theorem da_c{e:Expr}{es:List Expr}{te:bp}{t:fj}(ha:DE X B e te)(hr:DA X B es t)(hp:zV e=true:=by rfl):DA X B (e::es) (aa te t):=Fv ha hr (zB hp)
def qX:oH:=λa M Q=>match a with
 |[.bl b]=>Q (.int (if b=true then 1 else 0)) M
 |_=>False
theorem zb:bG X (.type "int") (liftC X qX):=by
 intro a s Z H l j Q I r h;obtain⟨ds,M,QQ,g,f,h,c⟩:=h;unfold qX at h
 split at h
 .rename_i b
  obtain⟨v,rfl,i⟩:=fL (ds:=[]) f;cases i;obtain⟨u,rfl,e⟩:=jc r;cases e;exact call_int_bool ⟨.int _,H,I.tok _,⟨_,rfl⟩,c _ M h _ H g Frm.refl rfl⟩
 .exact h.elim
end
section
variable {X:Cx}{B:Bd}
end
section
variable {X:Cx}{B:Bd}
def BC(n:Nat)(t:mG):jn:=λd U M Q=>match d with
 |.lst xs=>xs.length=n/\t xs U M Q
 |.ref a=>match M a with
  |some (.lst xs)=>xs.length=n/\t xs U M Q
  |_=>False
 |_=>False
theorem Hf{es:List Expr}{k:Nat}{t:mG}{n:Nat}{pos:Pos}(hc:X.calm=true)(h:LR X B es t)
  (hn:(assignEach es X.env).length=n:=by rfl) (hst:(assignEach es X.env).findIdx? (·.1)=none:=by rfl):DG X B (.Tuple es k pos) (BC n t):=by
 intro a s Z H v u Q I r E;obtain⟨d,U,M,QQ,w,y,hd,x⟩:=E;cases d with
 |lst j=>
  obtain⟨p,m,rfl,F,i⟩:=y;obtain⟨C,hd⟩:=hd;cases r;obtain⟨f,c,pl,z⟩:=I.list F.sq;have g:(assignEach es X.env).length=f.toArray.size:=by have:=c.length;have:=i.length;simp[hn];lia
  rw[QN];refine wpAny_bind (wpAny_standAt ?_);unfold unpack;rw[g,hst];refine wpAny_bind (wpAny_holding (W.kun_itemsOf (I.ok.hd hc) pl.isList λl q=>?_));have I1:Inv X a Z H { s with heap:=l }:=I.kept (t':=s.toks) λb o e=>q b o (Np<|Nc e) e;exact h a _ Z H m _ Q I1 (by simpa using c) ⟨j,U,M,QQ,w,i,hd,x⟩
 |ref p=>
  cases y;simp only[BC]at hd
  split at hd
  .rename_i j e
   obtain⟨m,A,i⟩:=w.rh _ _ e;obtain⟨C,hd⟩:=hd;cases r;obtain⟨f,c,pl,z⟩:=I.list (iV A);have g:(assignEach es X.env).length=f.toArray.size:=by have:=c.length;have:=i.length;simp[hn];lia
   rw[QN];refine wpAny_bind (wpAny_standAt ?_);unfold unpack;rw[g,hst];refine wpAny_bind (wpAny_holding (W.kun_itemsOf (I.ok.hd hc) pl.isList λl q=>?_));have I1:Inv X a Z H { s with heap:=l }:=I.kept (t':=s.toks) λb o e=>q b o (Np<|Nc e) e;exact h a _ Z H m _ Q I1 (by simpa using c) ⟨j,U,M,QQ,w,i,hd,x⟩
  .exact hd.elim
 |_=>exact(show False from hd).elim
end
mutual
def cr:D->PyData
 |.non=>.none
 |.bl b=>.bool b
 |.int i=>.int i
 |.str x=>.str x
 |.tup xs=>.tuple (cW xs)
 |.lst xs=>.list (cW xs)
 |_=>.none
def cW:List D->List PyData
 |[]=>[]
 |x::xs=>cr x::cW xs
end
mutual
theorem tw:∀d:D,(cr d).hasDict=false
 |.non=>by simp only[cr,OE]
 |.bl _=>by simp only[cr,OE]
 |.int _=>by simp only[cr,OE]
 |.str _=>by simp only[cr,OE]
 |.tup xs=>by simp only[cr,OE];exact oX xs
 |.lst xs=>by simp only[cr,OE];exact oX xs
 |.ty _=>by simp only[cr,OE]
 |.ref _=>by simp only[cr,OE]
 |.mt _=>by simp only[cr,OE]
 |.ml _=>by simp only[cr,OE]
theorem oX:∀xs:List D,QH (cW xs)=false
 |[]=>by simp only[cW,QH]
 |x::xs=>by simp only[cW,QH,tw x,oX xs,Bool.or_self]
end
mutual
theorem qx:∀(n:Nat) (d:D),bw n d=true->(cr d).depth<=n
 |_,.non,_=>by simp[cr,PN]
 |_,.bl _,_=>by simp[cr,PN]
 |_,.int _,_=>by simp[cr,PN]
 |_,.str _,_=>by simp[cr,PN]
 |n+1,.tup xs,f=>by have:=iG n xs f;simp only[cr,PN];lia
 |n+1,.lst xs,f=>by have:=iG n xs f;simp only[cr,PN];lia
 |0,.tup _,f=>by simp[bw]at f
 |0,.lst _,f=>by simp[bw]at f
 |_,.ty _,f=>by simp[bw]at f
 |_,.ref _,f=>by simp[bw]at f
 |_,.mt _,f=>by simp[bw]at f
 |_,.ml _,f=>by simp[bw]at f
theorem iG:∀(n:Nat) (xs:List D),bV n xs=true->Q4 (cW xs)<=n
 |_,[],_=>by simp[cW,Q4]
 |n,x::xs,f=>by
  rw[bV,Oo]at f;have:=qx n x f.1;have:=iG n xs f.2;simp only[cW,Q4];lia
end
mutual
theorem p_{h:Heap}:∀(d:D) (u:Value),Hr h d u->∃as,Reads h u (cr d) as
 |.non,u,q=>by cases q;exact⟨_,.none⟩
 |.bl _,u,q=>by cases q;exact⟨_,.bool _⟩
 |.int _,u,q=>by obtain⟨t,rfl⟩:=q;exact⟨_,.int _ _⟩
 |.str _,u,q=>by obtain⟨t,rfl⟩:=q;exact⟨_,.str _ _⟩
 |.tup xs,u,q=>by
  obtain⟨p,a,rfl,⟨o,b,c,n,f⟩,r⟩:=q;obtain⟨as,e⟩:=iM xs a r;exact⟨_,.tuple b c f e⟩
 |.lst xs,u,q=>by
  obtain⟨p,a,rfl,⟨o,b,c,n,f⟩,r⟩:=q;obtain⟨as,e⟩:=iM xs a r;exact⟨_,.list b c f e⟩
 |.ty _,_,q=>q.elim
 |.ref _,_,q=>q.elim
 |.mt _,_,q=>q.elim
 |.ml _,_,q=>q.elim
theorem iM{h:Heap}:∀(xs:List D) (us:List Value),Hrs h xs us->∃as,ReadsAll h us (cW xs) as
 |[],_,q=>by cases q;exact⟨_,.nil⟩
 |x::xs,_,q=>by
  obtain⟨u,r,rfl,a,b⟩:=q;obtain⟨g,e⟩:=p_ x u a;obtain⟨f,c⟩:=iM xs r b;exact⟨_,.cons e c⟩
end
section
variable {X:Cx}{B:Bd}
end
theorem By:bootBuiltins "repr"=some (.builtin "repr"):=by decide +kernel
end L3
namespace LS
open PySem
section
variable {prog:Program}{w:World}{K:Type}[DecidableEq K]{A:Around}{E:Value->Shared->Prop}{s:Shared}
variable {knd:KeyKind prog w K}
end
section
variable {prog:Program}{w:World}{K:Type}[DecidableEq K]{A:Around}{E:Value->Shared->Prop}{s:Shared}{knd:KeyKind prog w K}
end
section
variable {M:Model}{A:Around}{E:Value->Shared->Prop}
end
section
variable {prog:Program}{w:World}{A:Around}{E:Value->Shared->Prop}{s:Shared}{I a:Addr}{f:Value}{i n ep:Nat}{es:Array (Int×Value)}{t:SetTable}
end
section
variable {prog:Program}{w:World}{A:Around}{E:Value->Shared->Prop}{s:Shared}{I a:Addr}{ep:Nat}{es:Array (Int×Value)}{t:SetTable}
end
end LS
namespace LS
open PySem PySem.W PySem.Calls PyProof.Rows PyProof.V PySem.Spec
section
variable {prog:Program}{w:World}{A:Around}{E:Value->Shared->Prop}{s:Shared}{a:Addr}{ep:Nat}{es:Array (Int×Value)}{t:SetTable}
end
end LS
namespace LS
open PySem
section
variable {prog:Program}{w:World}{A:Around}{E:Value->Shared->Prop}{s:Shared}{a:Addr}
end
section
variable {K:Type}[DecidableEq K](o:Ord K)
end
end LS
namespace L3
open PySem L2 LS
section
variable {X:Cx}{B:Bd}
end
end L3
namespace LS
open PySem
section
variable {prog:Program}{w:World}{A:Around}{E:Value->Shared->Prop}{s:Shared}{a:Addr}
end
end LS
namespace L3
open PySem L2 LS
def JX:List D->Option (List Int)
 |[]=>some []
 |.int i::ds=>match JX ds with
  |some is=>some (i::is)
  |none=>none
 |_=>none
section
variable {X:Cx}{B:Bd}
end
end L3
namespace L2
open PySem
section
variable {X:Cx}
theorem CI(hc:X.calm=true):bG X (.builtin "any") (λxs H Q=>∃(l:Addr) (bs:List Bool),xs=[.ref l]/\SqL X.K H l (bs.map V.bl)/\Q (.bl<|bs.any id) H):=by
 intro G s Z H xs U Q I r h;obtain⟨l,bs,rfl,M,q⟩:=h;obtain⟨u,rfl,N⟩:=r.one;cases N;obtain⟨a,J,p,T⟩:=I.list M;have F:=J.length;have C:l<s.heap.objs.size:=by obtain⟨o,e,_⟩:=p.isList;exact Nc e
 have y:l≠s.heap.objs.size:=Np C;have val:∀(i:Nat) (v:Value),a.toArray[i]?=some v->∃c,bs[i]?=some c/\v=.bool c:=λi v B=>by
  have j:a[i]?=some v:=by simpa using B
  have f:i<bs.length:=by
   have:=(OA.mp j).1;rw[MW]at F;lia
  obtain⟨Y,n,P⟩:=J.get (i:=i) (x:=.bl bs[i]) (by rw[Nr,MY f];rfl)
  rw[j]at n;cases n;exact⟨bs[i],MY f,P⟩
 have E:a.toArray.size=bs.length:=by rw[Na,<- F,MW]
 refine call_any_walk (wpAny_pyIter_list p.isList ⟨s.heap.objs.size,_,_,_,_,_,λi=>bs.getD i false,rfl,Walks.list (A:=X.A.in1) (I.ok.hd hc) s.heap.objs.size l y a.toArray,⟨⟨_,Nj _ rfl,rfl,rfl⟩,p.isList.push _⟩,λi v R Q' E' B z=>?_,λW O S=>?_⟩)
 .obtain⟨c,n,rfl⟩:=val i v B
  refine wpAny_truthy_bool ?_;have L:bs.getD i false=c:=by rw[Oy,n];rfl
  have g:Q' (bs.getD i false) R:=z;rw[L]at g;exact g
 .have e:(NL a.toArray.size).any (λi=>bs.getD i false)=bs.any id:=by
   rw[E,Bool.eq_iff_iff,PJ,PJ];constructor
   .rintro⟨i,f,h⟩
    have m:=N7.mp f;rw[Oy,MY m]at h;exact⟨_,Om m,h⟩
   .rintro⟨b,w,h⟩
    obtain⟨i,f,rfl⟩:=Qu.mp w;exact⟨i,N7.mpr f,by rw[Oy,MY f];exact h⟩
  rw[e];refine⟨.bl (bs.any id),H,?_,rfl,q⟩;exact I.kept (t':=O) λb o w=>S b o (by simp;exact Np (Nc w)) (MX _ w)
end
end L2
namespace L3
open PySem L2 LS
section
variable {X:Cx}{B:Bd}
def CY:oH:=λa M Q=>match a with
 |[d]=>match cP M d with
  |some xs=>match m8 xs with
   |some bs=>Q (.bl<|bs.any id) M
   |none=>False
  |none=>False
 |_=>False
theorem yB(hc:X.calm=true):bG X (.builtin "any") (liftC X CY):=by
 intro a s Z H p f Q I r h;obtain⟨ds,M,QQ,b,l,h,g⟩:=h;unfold CY at h
 split at h
 .obtain⟨v,rfl,i⟩:=fL (ds:=[]) l
  split at h
  .rename_i o e
   split at h
   .rename_i bs n
    obtain⟨q,u,rfl,c,j⟩:=dQ b i e;have m:=iO j n;subst m;exact CI hc a s Z H _ f Q I r ⟨q,bs,rfl,.inl c,g _ M h _ H b Frm.refl rfl⟩
   .exact h.elim
  .exact h.elim
 .exact h.elim
theorem DR:bootBuiltins "any"=some (.builtin "any"):=by decide +kernel
theorem y_:bootBuiltins "range"=some (.type "range"):=by decide +kernel
def g_(t:fj):bp:=λU M Q=>t U M λa M1=>match a with
 |[.int j]=>(-(2 ^ 62)<=j/\j<=1000)/\∀p,M1 p=none->Q (.ref p) (M1.upd p<|.lst<|bD 0 j.toNat)
 |_=>False
def sh(n:Nat):List V:=(NL n).map λ(i:Nat)=>V.int (0+(i:Int))
theorem D4{K:Ng}{H:Hp}{n:Nat}:Rps K H (bD 0 n) (sh n):=by
 unfold bD sh;generalize NL n=l
 induction l with
 |nil=>rfl
 |cons i l ih=>exact⟨_,_,rfl,rfl,ih⟩
theorem Ct{acc:Array Value}{n:Nat}(h:ItemsOf (λi v=>∃t,v=.int (0+i*1) t) acc n):Vals (sh n) acc.toList:=by
 obtain⟨b,c⟩:=h;have a:∀(l:List Value) (k m:Nat),l.length=m->(∀(j:Nat) (v:Value),l[j]?=some v->∃t,v=.int (0+((k+j:Nat):Int)) t)->Vals ((Sb k m).map λ(i:Nat)=>V.int (0+(i:Int))) l:=by
  intro l
  induction l with
  |nil=>intro k m e _;subst e;exact .nil
  |cons x l ih=>
   intro k m e h;subst e;rw[MZ,Q6,Nb];refine .cons ?_ (ih (k+1) _ rfl λj v q=>?_)
   .obtain⟨t,rfl⟩:=h 0 x (by simp)
    exact⟨t,rfl⟩
   .obtain⟨t,e⟩:=h (j+1) v (by simpa using q)
    exact⟨t,by rw[e];congr 2;lia⟩
 have:=a acc.toList 0 n (by simpa using b) λj v q=>by
  obtain⟨t,e⟩:=c j v (by simpa using q)
  exact⟨t,by rw[e,Int.mul_one,Nat.zero_add]⟩
 unfold sh;rw[List.range_eq_range'];exact this
def C9(t:TA):TE:=λZ H Q=>t Z H λa H1=>∃j:Int,a=[.int j]/\(-(2 ^ 62)<=j/\j<=1000)/\∀p,H1 p=none->Q (.ref p) (upd H1 p<|.lst<|sh j.toNat)
theorem tP{e:Expr}{t:TA}{p p2 pos pos2:Pos}(hc:X.calm=true)(hg:Gl X "range")(hm:X.mg "range"=none)(hg2:Gl X "list")(hm2:X.mg "list"=none)(ha:PA X [e] t)
  (hs:starEach [e] X.env=[(false,eval e X.env)]:=by rfl) (hs3:starEach [RI (.Name "range" p2) [e] [] pos2] X.env=[(false,eval (.Call (.Name "range" p2) [e] [] pos2) X.env)]:=by rfl):
  PE X (.Call (.Name "list" p) [.Call (.Name "range" p2) [e] [] pos2] [] pos) (C9 t):=by
 intro c s Z H Q I h;refine wpAny_Call_Name_kw (dS I hg2 hm2 kS<|NX ?_ hs3 rfl);rw[hs3];show wpAny _ _ (spliced ((false,_)::backTo pos [])) _ _ s;refine O0 ?_;refine wpAny_Call_Name_kw (dS I hg hm y_<|NX (bF (ha pos2 c s Z H _ I h) λJ a ⟨K,H1,I1,x,G⟩=>?_) hs rfl);obtain⟨j,rfl,⟨E,L⟩,q⟩:=G;obtain⟨u,rfl,A⟩:=jc x;obtain⟨t',rfl⟩:=A;refine call_range_1 ?_;refine Pz ?_;have F:=I1.ok.hd hc;refine call_list_range (n:=j.toNat) F (IsRange.new ..) (small_one (by decide) (by decide) E<|by lia) (by rw[rangeSize_one];split<;>lia) (by lia) λr C f m y hS i=>?_
 have g:(a.heap.push { cls:=.type "range",data:=.fields #[.int 0 a.toks,.int j t',.int 1 (a.toks+1)] }).objs.size=a.heap.objs.size+1:=Oi ..;have v:H1 (a.heap.objs.size+1)=none:=I1.hok.fresh (Rb _);have l:r.get? (a.heap.objs.size+1)=some { cls:=.type "list",dict:=none,data:=.seq f m,slots:=#[] }:=by rw[<- g];exact hS
 refine⟨.ref (a.heap.objs.size+1),_,I1.laid (t':=C) (o:=.lst (sh j.toNat)) (λb o z=>y b o (MX _ z)) (Rb _) (show ObjOk X.prog X.w _ _ _ (.lst _) from ⟨?_,f.toList,m,Ct i,by rw[Array.toArray_toList];exact l⟩),?_,q _ v⟩
 .simp only[sh,MW,List.length_range]
  exact Ny (by lia:j.toNat<=1000) (by decide)
 .show ND _=ND _
  rw[<- g]
theorem tN{e:Expr}{t:fj}{p p2 pos pos2:Pos}(hc:X.calm=true)(hg:Gl X "range")(hm:X.mg "range"=none)(hg2:Gl X "list")(hm2:X.mg "list"=none)(ha:DA X B [e] t)
  (hs:starEach [e] X.env=[(false,eval e X.env)]:=by rfl) (hs3:starEach [RI (.Name "range" p2) [e] [] pos2] X.env=[(false,eval (.Call (.Name "range" p2) [e] [] pos2) X.env)]:=by rfl):
  DE X B (.Call (.Name "list" p) [.Call (.Name "range" p2) [e] [] pos2] [] pos) (g_ t):=by
 refine a_ (tP hc hg hm hg2 hm2 ha hs hs3) ?_
 rintro Z H Q ⟨U,M,QQ,s,h,u⟩
 refine⟨U,M,_,s,h,λds M1 h1 vs H1 rh1 i1 r1=>?_⟩
 split at h1
 .obtain⟨v,rfl,rv⟩:=fL (ds:=[]) r1
  cases rv;refine⟨_,rfl,h1.1,λd hd=>?_⟩;exact u _ _ (h1.2 d<|rh1.fresh hd) _ _ (rh1.put (by rw[hd];trivial) ⟨_,upd_same,D4⟩) (i1.trans<|Frm.put<|.inl hd) rfl
 .exact h1.elim
end
section
variable {X:Cx}{B:Bd}{name:Str}{a:Addr}{tab:List (Str×D)}
end
end L3
namespace LS
open PySem
section
variable {prog:Program}{w:World}{K:Type}[DecidableEq K]{A:Around}{E:Value->Shared->Prop}{s:Shared}{knd:KeyKind prog w K}
end
section
variable {prog:Program}{w:World}{K:Type}[DecidableEq K]{A:Around}{E:Value->Shared->Prop}{s:Shared}{knd:KeyKind prog w K}
end
end LS
namespace L2
open PySem PySem.Spec
section
variable {X:Cx}{tg:Expr}
end
end L2
namespace L3
open PySem L2 LS
section
variable {X:Cx}{B:Bd}{tg:Expr}{K:Ng}{H:Hp}{M:Mem}
end
end L3
namespace L3
open PySem L2
section
variable {X:Cx}{B:Bd}{pos:Pos}
end
section
variable {X:Cx}{B:Bd}
end
end L3
namespace L3
open PySem L2 LS
section
variable {X:Cx}{B:Bd}
end
end L3
namespace LS
open PySem PySem.W PySem.Calls PyProof.Rows PyProof.V PySem.Spec
section
variable {prog:Program}{w:World}{K:Type}[DecidableEq K]{knd:KeyKind prog w K}{A:Around}{E:Value->Shared->Prop}{s:Shared}{v d:Addr}{ep:Nat}{kvs:List (K×Value)}
end
end LS
namespace L3
open PySem L2 LS
section
variable {X:Cx}{B:Bd}{pos:Pos}
end
end L3
namespace LX
open PySem PySem.W PySem.Spec PySem.Calls PyProof.Rows Builtin Builtin.ObjectAttr Builtin.Getset_descriptor
section
variable {K:Frag}{prog:Program}{w:World}{A:Around}{E:Value->Shared->Prop}{s:Shared}
end
end LX
namespace LX
open PySem PySem.W PySem.Spec PySem.Calls PyProof.Rows
end LX
namespace L2
open PySem PySem.Spec PyProof.Rows
section
variable {X:Cx}{pins:List (Addr×Obj)}{Z:St}{H:Hp}{s:Shared}{e:Value}
end
end L2
namespace L2
open PySem
end L2
namespace L3
open PySem L2
section
variable {X:Cx}{B:Bd}{K:Ng}{H H':Hp}{M M1 M':Mem}
end
section
variable {P:Program}{w:World}{K:Ng}{mg:Str->Option Value}{base:Heap}{f:Addr}{fd:FuncData}
end
section
variable {X:Cx}{B:Bd}{K:Ng}{H H':Hp}{M M1 M':Mem}
end
end L3
namespace L3
open PySem L2 LS
section
variable {X:Cx}{B:Bd}
end
end L3
namespace L3
open PySem L2
section
variable {X:Cx}{B:Bd}
def da:oH:=λa M Q=>match a with
 |[d]=>bw 60 d=true/\(cr d).showable=true/\(cr d).shown.length<=sizeLine/\Q (.str (cr d).shown) M
 |_=>False
theorem uo(hg:X.A.guards=some [])(hu:X.A.units+64<cLine):bG X (.builtin "repr") (liftC X da):=by
 intro f s Z H n L Q I r h;obtain⟨ds,M,QQ,F,E,h,z⟩:=h;unfold da at h
 split at h
 .rename_i d
  obtain⟨y,l,j,h⟩:=h;obtain⟨v,rfl,G⟩:=fL (ds:=[]) E;obtain⟨u,rfl,C⟩:=jc r;have q:=BD I y G C;have J:=qx 60 _ y;obtain⟨K,w⟩:=p_ _ _ q;have fin:∀(t:Tok) (a:Nat) (c:Heap),(∀b o,s.heap.get? b=some o->c.get? b=some o)->EP X f Z Q (.str (cr d).shown t) { s with heap:=c,toks:=a }:=λt a c g=>
   ⟨.str _,H,I.kept (t':=a) λb o e=>g b o e,⟨_,rfl⟩,z _ M h _ H F Frm.refl rfl⟩
  cases d with
  |non=>cases q;exact PySem.P.repr_of_none (fin _ _ _ λ_ _ e=>e)
  |bl b=>cases q;exact PySem.P.repr_of_bool (fin _ _ _ λ_ _ e=>e)
  |int i=>
   obtain⟨t,rfl⟩:=q;exact PySem.P.repr_of_int (by simpa [cr,Ot] using l) (fin _ _ _ λ_ _ e=>e)
  |str x=>
   obtain⟨t,rfl⟩:=q;exact PySem.P.repr_of_str (fin _ _ _ λ_ _ e=>e) j
  |tup n=>
   obtain⟨p,m,rfl,_⟩:=q;exact repr_of_reads' w l (Sh<|tw _) hg (by lia) (λ_ _ e=>e) (λc u a g=>fin u a c g) j
  |lst n=>
   obtain⟨p,m,rfl,_⟩:=q;exact repr_of_reads' w l (Sh<|tw _) hg (by lia) (λ_ _ e=>e) (λc u a g=>fin u a c g) j
  |_=>exact q.elim
 .exact h.elim
end
section
variable {X:Cx}{B:Bd}
variable {C:Addr}{f:Str}{o value:Expr}{ta tv:bp}{pos tpos:Pos}
end
section
variable {X:Cx}{B:Bd}{CX:pq}{k n:Nat}{f C:Addr}{fd:FuncData}{ps:List Str}{T:Sd}{E:XK}{EE:DX}{x:Str}{p pos:Pos}
end
section
variable {X:Cx}{B:Bd}{K:Ng}{H H':Hp}{M M1 M':Mem}{pos:Pos}
def Jx:List (Str×bp)->Dl->Mem->(List D->Mem->Prop)->Prop
 |[],_,M,Q=>Q [] M
 |kt::r,U,M,Q=>kt.2 U M λd M1=>Jx r U M1 λa M2=>Q (d::a) M2
def lM(tab:List (Str×bp)):bp:=λU M Q=>∀p,M p=none->Jx tab U (M.upd p<|.dK []) λa M1=>M1 p=some (.dK [])/\a.length<=15/\Q (.ref p) (M1.upd p<|.dK<|eY (tab.map λkt=>Nm kt.1) a)
theorem qR{U:Dl}{Z:L2.St}:∀(tab:List (Str×bp)) (M:Mem) (H:Hp) (QQ:List D->Mem->Prop) (Q:List (V×V)->Hp->Prop),SR X B U M Z H->Jx tab U M QQ->
  (∀ds M',QQ ds M'->∀(vs:List V) H',RepH X.K H' M'->Frm M H M' H'->Rps X.K H' ds vs->Q ((tab.map λkt=>V.str kt.1).zip vs) H')->oq (tab.map λkt=>(tC (.str kt.1),liftE X B kt.2)) Z H Q
 |[],M,H,QQ,Q,s,h,u=>u [] M h [] H s.rh Frm.refl rfl
 |kt::r,M,H,QQ,Q,s,h,u=>by
  show liftE X B kt.2 Z H _;refine⟨U,M,_,s,h,λd M1 f v H1 a c g=>?_⟩;refine qR r M1 H1 _ _ (s.go a c) f λds M2 j vs H2 b e i=>?_;exact u _ _ j (v::vs) H2 b (c.trans e) ⟨v,vs,rfl,g.mf a e,i⟩
theorem AZ:∀(tab:List (Str×bp)) (vs:List V),(tab.map λkt=>V.str kt.1).zip vs=((tab.map λkt=>(Nm kt.1:ax)).zip vs).map λkv=>(kV kv.1,kv.2)
 |[],_=>rfl
 |_::_,[]=>rfl
 |kt::r,v::vs=>by
  simp only[Nb,Pr,AZ r vs];rfl
theorem F2{keys:List (Option Expr)}{values:List Expr}{tab:List (Str×bp)}(h:Eb X pos keys values (tab.map λkt=>(tC (.str kt.1),liftE X B kt.2)))(hall:keys.all (·.isSome)=true)(hl:keys.length=values.length)(h0:keys≠[])
  (h15:keys.length<=15):DE X B (.Dict keys values pos) (lM tab):=by
 refine a_ (EA h hall hl h0 h15) ?_
 rintro Z H Q ⟨U,M,QQ,s,h,u⟩ p hp
 have hMp:=s.rh.fresh hp;have rh1:RepH X.K (upd H p<|.dK []) (M.upd p<|.dK []):=s.rh.put (by rw[hp];trivial) ⟨[],upd_same,.nil⟩
 have f1:Frm M H (M.upd p<|.dK []) (upd H p<|.dK []):=Frm.put (.inl hp);refine qR tab _ _ _ _ (s.go rh1 f1) (h p hMp) λds M2 ⟨e,hlen,q⟩ vs H2 rh2 i2 r2=>?_;obtain⟨ws,e2,hw⟩:=rh2 _ _ e;cases hw;have rk:Rkv X.K H2 (eY (tab.map λkt=>Nm kt.1) ds) (gp []<|(tab.map λkt=>(Nm kt.1:ax)).zip vs):=mw (ks:=tab.map λ(kt:Str×bp)=>(Nm kt.1:ax)) (a:=[]) (b:=[]) r2 .nil;have im:Imm H2 (upd H2 p<|.dK<|gp []<|(tab.map λkt=>(Nm kt.1:ax)).zip vs):=Imm.upd (by rw[e2];trivial)
 refine⟨e2,(tab.map λkt=>(Nm kt.1:ax)).zip vs,AZ tab vs,?_,u _ _ q _ _ (rh2.put (by rw[e2];trivial) ⟨_,upd_same,rk.mono im⟩) (f1.trans<|i2.trans<|Frm.put<|.inr ⟨_,e⟩) rfl⟩
 have:=r2.length;rw[Pp];lia
theorem CT:Eb X pos [] [] (([]:List (Str×bp)).map λkt=>(tC (.str kt.1),liftE X B kt.2)):=Em
theorem At{keys:List (Option Expr)}{values:List Expr}{tab:List (Str×bp)}{k:Str}{v:Expr}{T:bp}{j:Nat}{p1:Pos}(hv:DE X B v T)(h:Eb X pos keys values (tab.map λkt=>(tC (.str kt.1),liftE X B kt.2))):
  Eb X pos (some (.Constant (.str k) j p1)::keys) (v::values) (((k,T)::tab).map λkt=>(tC (.str kt.1),liftE X B kt.2)):=zQ tq hv h
end
section
variable {X:Cx}{B:Bd}
def Bg:g9:=λx y M Q=>match x,y with
 |.ref a,.int k=>match M a with
  |some (.lst xs)=>-(2 ^ 63)<=k/\k<2 ^ 63/\xs.length*k.toNat<=sizeLine/\∀p,M p=none->Q (.ref p) (M.upd p<|.lst (Nh k.toNat xs).flatten)
  |_=>False
 |_,_=>False
theorem DB:du X (binaryOp .Mult) (liftR2 X Bg):=by
 intro pins s Z H x y v u Q I rx ry h;obtain⟨d1,d2,M,QQ,rh,r1,r2,h,up⟩:=h;unfold Bg at h
 split at h
 .rename_i a k
  cases r1;cases r2
  split at h
  .rename_i xs e
   obtain⟨ws,e2,rw'⟩:=rh _ _ e;have hl:=rw'.length;refine HL pins s Z H _ _ v u Q I rx ry ⟨a,k,ws,rfl,rfl,e2,h.1,h.2.1,by rw[<- hl];exact h.2.2.1,λq hq=>?_⟩
   exact up _ _ (h.2.2.2 q<|rh.fresh hq) _ _ (rh.put (by rw[hq];trivial) ⟨_,upd_same,(rw'.rep k.toNat).mono<|Imm.new hq⟩) (Frm.put<|.inl hq) rfl
  .exact h.elim
 .exact h.elim
end
end L3
namespace LS
open PySem PySem.W PySem.Calls PyProof.Rows PyProof.V PySem.Spec
section
variable {prog:Program}{w:World}{A:Around}{E:Value->Shared->Prop}{s:Shared}{it d:Addr}{i n ep:Nat}{ok ov:Value}{od:Obj}{es:Array DictEntry}
end
end LS
namespace L2
open PySem PySem.Spec PyProof.Rows LS
theorem MS{X:Cx}{pins:List (Addr×Obj)}{Z:St}{H:Hp}{s:Shared}{d:Addr}{od:Obj}{kvs:List (List ax×V)}{es:Array DictEntry}{ep:Nat}(I:Inv X pins Z H s)(e:H d=some (.frz od<|.dT kvs))(hd:od.data=.dict es ep):
  s.heap.get? d=some od/\∃xs:List (List ax×Addr×Value),KT H kvs xs/\es.toList=xs.map (entryOfKey<|tupleKind<|aO X.prog X.w):=by
 obtain⟨a,_,_,xs,r,o,f,g,c,_,b,h,_⟩:=(show ObjOk X.prog X.w H s.heap d (.frz od<|.dT kvs) from I.hok d _ e);rw[a]at c;cases c;rw[hd]at b;cases b;exact⟨a,xs,r,h⟩
end L2
namespace L3
open PySem L2 LS
section
variable {X:Cx}{B:Bd}
end
end L3
namespace LS
open PySem PySem.W PySem.Calls PyProof.Rows PyProof.V PySem.Spec L2
theorem eE:entryFor table "list.__getattribute__"=some Builtin.«object.__getattribute__»:=entryFor_alias (id':="object.__getattribute__") (by kernel_rfl) (by decide +kernel) (by decide +kernel) (by kernel_rfl)
theorem io:typeLookup (.type "list") "__getattr__"=pure none:=by rw[typeLookup_type];rw[builtinLookup_eq_fast];kernel_rfl
theorem pi:typeLookup (.type "list") "keys"=pure none:=by rw[typeLookup_type];rw[builtinLookup_eq_fast];kernel_rfl
abbrev EB(h:Heap)(a:Addr)(its:Array Value)(n:Nat):Prop:=h.get? a=some { cls:=.type "list",dict:=none,data:=.seq its n,slots:=#[] }
theorem jl(a:Addr)(its:Array Value)(n:Nat)(name:Str)(u:Tok)(hmiss:typeLookup (.type "list") name=pure none)(hname:(["__module__","__name__","__qualname__","__doc__","__annotations__"]:List Str).contains name=false)(hsz:name.length+100<=sizeLine):
  Meets (Builtin.«object.__getattribute__» ⟨[.ref a,.str name u],[]⟩) (λA R s=>EB s.heap a its n/\raisesAttr (.ref a) name A R s):=
 Meets.of_wp λc w A R s b=>by
  obtain⟨f,g,d,e,h⟩:=s;obtain⟨i,b⟩:=b;have j:(⟨f,g,d,e,h⟩:Shared).TypeIs (.ref a) "list":=⟨_,i,rfl⟩;unfold Builtin.«object.__getattribute__»
  repeat (any_goals (first|assumption|wp_step))
  simp only[hname,Nv,if_false]
  repeat (any_goals (first|assumption|wp_step))
  exact wpAny_raiseAttrError b.1 b.2 (attrMsg_fits (by decide +kernel) hsz)
section
variable {prog:Program}{w:World}{A:Around}{E:Value->Shared->Prop}{s:Shared}
theorem kG{a:Addr}{its:Array Value}{n:Nat}{Q:Option Value->Shared->Prop}(hx:EB s.heap a its n)(hA:A.handled=none)
  (h:∀h' tk,(∀b o,s.heap.get? b=some o->h'.get? b=some o)->Q none { s with heap:=h',toks:=tk }):wpAny (model prog w) A (getAttr? (.ref a) "keys") Q E s:=by
 obtain⟨l,g,d,tk,m⟩:=s;have i:∀f,(⟨l,g,d,f,m⟩:Shared).TypeIs (.ref a) "list":=λ_=>⟨_,hx,rfl⟩;have j:=sub_AttributeError;have x:=PF.lookup;have r:=PF.bind (.ref a);have q:=io;unfold getAttr? getAttrBy? getAttrBy
 repeat (any_goals (first|assumption|exact i _|((with_reducible show wpAny _ _ (call (Value.builtin "list.__getattribute__") _ _) _ _ _);refine call_meets PF (i _) eE (PySem.F.args_list_getattribute_2 _ _) (jl a its n "keys" _ pi (by decide +kernel)<|by decide +kernel) ⟨hx,hA,λh' f e c=>?_⟩)|wp_step))
 obtain⟨p,v,u⟩:=c.there;show wpAny _ _ (getattributeRaised _ _ _ _ _ _ _) _ _ _;unfold getattributeRaised
 repeat (any_goals (first|assumption|wp_step))
 exact h _ _ c.keeps
end
def D3(h:Heap)(T:Addr)(k v:Value):Prop:=∃o n,h.get? T=some o/\o.cls=.type "tuple"/\o.data=.seq #[k,v] n
theorem zg{prog:Program}{w:World}{A:Around}{R:Result->Shared->Prop}{l it d:Addr}{ps:List (Value×Value)}{Ts:List Addr}(hh:A.handled=none)(P:Nat->Heap->Prop)
  (stay:∀i h h',P i h->(∀b o,b≠it->h.get? b=some o->h'.get? b=some o)->P i h')
  (step:∀(i:Nat) (hi:i<ps.length) (s:Shared) (Q:Unit->Shared->Prop) (E:Value->Shared->Prop),P i s.heap->(∀h' tk,P (i+1) h'->Pf d s.heap h'->Q () { s with heap:=h',toks:=tk })->wpAny (model prog w) A.in1 (dictSet d ps[i].1 ps[i].2) Q E s)
  (hl:Ts.length=ps.length) (n1:l≠it) (n2:d≠it) (n3:l≠d) (nT:∀T∈Ts,T≠it/\T≠d):
  ∀(n i:Nat) (s:Shared),n=ps.length-i->i<=ps.length->s.heap.IsListIter it l i->s.heap.IsList l (Ts.map ND).toArray->(∀(i:Nat) (L:i<Ts.length) (Z:i<ps.length),D3 s.heap Ts[i] ps[i].1 ps[i].2)->P i s.heap->
   (∀g:Shared,g.os=s.os->g.gens=s.gens->g.drawn=s.drawn->P ps.length g.heap->(∀c o,c≠it->c≠d->s.heap.get? c=some o->g.heap.get? c=some o)->R (.ok<|.ret .none) g)->
   ∀tk:Nat,codeAny (model prog w) A (.builtin "dict.update.loop" ⟨[.ref d,.ref it,rawInt tk,.none],[]⟩) R s:=by
 intro n
 induction n with
 |zero=>
  intro i s hn hi q a _ H hR tk;have M:i=ps.length:=by lia
  refine codeAny_builtin bC ?_;rw[O9 aN _];show wpAny _ A.in1 (pyNext (.ref it) >>= _) _ _ s;refine wpAny_bind (wpAny_pyNext_list_end (A:=A.in1) hh q a (by simp;lia) λh' z=>?_)
  refine wpAny_bind (m:=QR d []) (wpAny_pure<|wpAny_pure (hR _ rfl rfl rfl ?_ λc o F G e=>z c o F e));rw[<- M];exact stay i _ _ H λb o C e=>z b o C e
 |succ n ih=>
  intro i s hn hi q a u H hR tk;have r:i<ps.length:=by lia
  have p:i<Ts.length:=by lia
  refine codeAny_builtin bC ?_;rw[O9 aN _];show wpAny _ A.in1 (pyNext (.ref it) >>= _) _ _ s;refine wpAny_bind (wpAny_pyNext_list_item (x:=.ref Ts[i]) q a (by simp[p]) λh' B sb=>?_)
  obtain⟨K,nTd⟩:=nT Ts[i] (Om p);have N:∀b o,b≠it->s.heap.get? b=some o->h'.get? b=some o:=λb o C e=>sb.extBut b o C e;obtain⟨oT,m,e1,e2,e3⟩:=u i p r;have v:=N _ _ K e1;have I:({ s with heap:=h' }:Shared).TypeIs (.ref Ts[i]) "tuple":=⟨_,v,e2⟩;refine wpAny_bind (wpAny_holding<|wpAny_bind<|wpAny_tryCatch ?_);unfold P4;refine wpAny_bind (wpAny_typeOf I ?_);rw[if_pos (by decide)]
  refine wpAny_bind (wpAny_seqItems (s:={ s with heap:=h' }) v e3<|wpAny_pure ?_);show wpAny _ _ (holding [ps[i].1,ps[i].2]<|dictSet d ps[i].1 ps[i].2) _ _ _;refine wpAny_holding (step i r { s with heap:=h' } _ _ (stay i _ _ H N) λy J W f=>?_);have U:∀b o,b≠it->b≠d->s.heap.get? b=some o->y.get? b=some o:=λb o C hd e=>f.extBut b o hd (N b o C e);refine wpAny_pure ⟨plainId_quiet aN _,?_⟩;refine ih (i+1) { s with heap:=y,toks:=J } (by lia) r (B.at λo e=>f.extBut _ o n2.symm e) ?_ (λj L Z=>?_) W (λg S O q3 q4 q5=>hR g S O q3 q4 λc o F G e=>q5 c o F G (U c o F G e)) (tk+1)
  .obtain⟨o,X,Y⟩:=a
   exact⟨o,U _ _ n1 n3 X,Y⟩
  .obtain⟨o,m,X,Y⟩:=u j L Z
   obtain⟨S,O⟩:=nT Ts[j] (Om L);exact⟨o,m,U _ _ S O X,Y⟩
theorem ym{prog:Program}{w:World}{A:Around}{E:Value->Shared->Prop}{s:Shared}{l:Addr}{m:Nat}{ps:List (Value×Value)}{Ts:List Addr}{Q:Value->Shared->Prop}(hh:A.handled=none)(P:Nat->Heap->Prop)
  (h0:∀h',(∀b o,s.heap.get? b=some o->h'.get? b=some o)->h'.get? s.heap.objs.size=some { cls:=.type "dict",data:=.dict #[] }->P 0 h')
  (stay:∀i h h',P i h->(∀b o,b<=s.heap.objs.size->h.get? b=some o->h'.get? b=some o)->P i h')
  (step:∀(i:Nat) (G:i<ps.length) (f:Shared) (Q:Unit->Shared->Prop) (E:Value->Shared->Prop),P i f.heap->(∀h' tk,P (i+1) h'->Pf s.heap.objs.size f.heap h'->Q () { f with heap:=h',toks:=tk })->wpAny (model prog w) A.in1.in1 (dictSet s.heap.objs.size ps[i].1 ps[i].2) Q E f)
  (hl:Ts.length=ps.length) (hls:EB s.heap l (Ts.map ND).toArray m) (hpr:∀(i:Nat) (C:i<Ts.length) (H:i<ps.length),D3 s.heap Ts[i] ps[i].1 ps[i].2)
  (h:∀f:Shared,f.os=s.os->f.gens=s.gens->f.drawn=s.drawn->P ps.length f.heap->(∀c o,s.heap.get? c=some o->f.heap.get? c=some o)->Q (.ref s.heap.objs.size) f):
  wpAny (model prog w) A (call (.type "dict") [.ref l]) Q E s:=by
 refine callType_codes (Q₁:=λobj q=>obj=.ref s.heap.objs.size/\q={ s with heap:=s.heap.push { cls:=.type "dict",data:=.dict #[] } }) L2.F.called_dict (L2.F.typeCall_dict_1 _) R7 (ga _ ⟨rfl,rfl⟩) ?_
 rintro obj q ⟨rfl,rfl⟩
 have B:∀c o,s.heap.get? c=some o->(s.heap.push { cls:=.type "dict",data:=.dict #[] }).get? c=some o:=λc o e=>MX _ e;have lt:∀{c o},s.heap.get? c=some o->c<s.heap.objs.size:=λe=>Nc e;have p:(s.heap.push { cls:=.type "dict",data:=.dict #[] }).get? s.heap.objs.size=some { cls:=.type "dict",data:=.dict #[] }:=Nj _ rfl;have v:({ s with heap:=s.heap.push { cls:=.type "dict",data:=.dict #[] } }:Shared).TypeIs (.ref s.heap.objs.size) "dict":=⟨_,p,rfl⟩;refine⟨v,RZ _ _,?_⟩;unfold Builtin.«dict.__init__» QP;refine wpAny_bind (wpAny_bind<|wpAny_notOrdered_dict v<|wpAny_pure ?_);show wpAny _ _ (Pe "dict.__init__" s.heap.objs.size (.ref l) [] .none) _ _ _;unfold Pe;refine wpAny_bind (wpAny_typeOf (T:="list") ⟨_,B _ _ hls,rfl⟩ ?_);rw[if_pos (by decide)]
 refine wpAny_bind (kG (s:={ s with heap:=s.heap.push { cls:=.type "dict",data:=.dict #[] } }) (B _ _ hls) hh λa y g=>?_);rw[if_pos (show (none:Option Value).isNone=true from rfl)];have up1:∀c o,s.heap.get? c=some o->a.get? c=some o:=λc o e=>g c o (B c o e);have x:a.IsList l (Ts.map ND).toArray:=⟨_,up1 _ _ hls,rfl,m,rfl⟩;refine wpAny_bind (wpAny_rule<|wpAny_bind<|wpAny_pyIter_list (s:={ s with heap:=a,toks:=y }) x<|wpAny_pure ⟨plainId_quiet aN _,?_⟩);have z:=g _ _ p;have u:s.heap.objs.size<a.objs.size:=Nc z;have up2:∀c o,a.get? c=some o->(a.push { cls:=.type "list_iterator",data:=.fields #[.ref l,.int 0 0] }).get? c=some o:=λc o e=>MX _ e;have j:∀{c o},s.heap.get? c=some o->c≠a.objs.size/\c≠s.heap.objs.size:=λ{c o} e=>⟨Np (R4 (lt e) u),Np<|lt e⟩;refine zg (A:=A.in1) (l:=l) (it:=a.objs.size) (d:=s.heap.objs.size) (ps:=ps) (Ts:=Ts) hh P (λi h h' I M=>stay i h h' I λb o N e=>M b o (Np<|QO N u) e) step hl (j hls).1 (Np u) (j hls).2 (λT J=>?_) ps.length 0 { s with heap:=a.push { cls:=.type "list_iterator",data:=.fields #[.ref l,.int 0 0] },toks:=y } (by simp) (N5 _) ⟨_,Nj _ rfl,rfl,rfl⟩ ?_ (λi C H=>?_) (h0 _ (λb o e=>up2 b o (up1 b o e))<|up2 _ _ z) (λf O W U K L=>?_) 0
 .obtain⟨i,G,rfl⟩:=Qu.mp J
  obtain⟨o,n,e,_⟩:=hpr i G (by lia)
  exact j e
 .obtain⟨o,R,S⟩:=x
  exact⟨o,up2 _ _ R,S⟩
 .obtain⟨o,n,e,r⟩:=hpr i C H
  exact⟨o,n,up2 _ _ (up1 _ _ e),r⟩
 .exact⟨rfl,h f O W U K λc o e=>L c o (j e).1 (j e).2 (up2 _ _<|up1 _ _ e)⟩
end LS
namespace L2
open PySem PySem.Spec PyProof.Rows LS
inductive PrT(H:Hp):List V->List (List ax×V)->Prop
 |nil:PrT H [] []
 |cons {T b:Addr} {k:List ax} {x:V} {vs:List V} {kvs:List (List ax×V)} (hT:H T=some (.tup [.ref b,x])) (hb:H b=some (.tup<|k.map kV)) (r:PrT H vs kvs):PrT H (.ref T::vs) ((k,x)::kvs)
section
variable {X:Cx}{pins:List (Addr×Obj)}{Z:St}{H:Hp}{s:Shared}
theorem Inv.pair{T:Addr}{y x:V}(I:Inv X pins Z H s)(h:H T=some (.tup [y,x])):∃k v,RelV y k/\RelV x v/\D3 s.heap T k v:=by
 obtain⟨_,f,r,o,e,⟨c,n,d⟩,_⟩:=(show ObjOk X.prog X.w H s.heap T (.tup [y,x]) from I.hok T _ h);obtain⟨k,v,rfl,b,a⟩:=r.two;exact⟨k,v,b,a,o,n,e,c,d⟩
theorem Inv.prT(I:Inv X pins Z H s):∀{vs:List V} {kvs:List (List ax×V)},PrT H vs kvs->∃(Ts:List Addr) (rs:List (List ax×Addr×Value)),vs=Ts.map V.ref/\KT H kvs rs/\Ts.length=rs.length/\∀(i:Nat) (h1:i<Ts.length) (h2:i<rs.length),D3 s.heap Ts[i] (.ref rs[i].2.1) rs[i].2.2
 |_,_,.nil=>⟨[],[],rfl,.nil,rfl,λi h=>absurd h (PX _)⟩
 |_,_,.cons (T:=T) (b:=b) (k:=k) hT hb r=>by
  obtain⟨Ts,rs,rfl,q,f,e⟩:=I.prT r;obtain⟨g,v,c,a,p⟩:=I.pair hT;cases c;refine⟨T::Ts,(k,b,v)::rs,rfl,.cons ⟨rfl,hb,a⟩ q,by simp[f],λi h1 h2=>?_⟩
  cases i with
  |zero=>exact p
  |succ i=>exact e i (by simpa using h1) (by simpa using h2)
theorem rJ{xs:List (List ax×Addr×Value)}{k:List ax}{b:Addr}{u:Value}:(storedH xs k b u).length<=xs.length+1:=by
 unfold storedH
 split
 .rw[MW];lia
 .simp
theorem iT:∀(rs xs:List (List ax×Addr×Value)),(rs.foldl (λa r=>storedH a r.1 r.2.1 r.2.2) xs).length<=xs.length+rs.length
 |[],xs=>by simp
 |r::rs,xs=>by
  have:=iT rs (storedH xs r.1 r.2.1 r.2.2);have:=rJ (xs:=xs) (k:=r.1) (b:=r.2.1) (u:=r.2.2);rw[Oe,MZ];lia
theorem yl:∀{kvs:List (List ax×V)} {rs:List (List ax×Addr×Value)},KT H kvs rs->∀{a:List (List ax×V)} {xs:List (List ax×Addr×Value)},KT H a xs->KT H (kvs.foldl (λa p=>cj a p.1 p.2) a) (rs.foldl (λa r=>storedH a r.1 r.2.1 r.2.2) xs)
 |_,_,.nil,a,xs,h=>h
 |_,_,.cons (a:=p) (b:=q) h t,a,xs,h0=>by
  rw[Oe,Oe];refine yl t ?_;rw[<- h.1];exact h0.put p.1 h.2.1 h.2.2
theorem Inv.ls{l:Addr}{vs:List V}(I:Inv X pins Z H s)(e:Rd H l (.lst vs)):∃its n,Vals vs its/\EB s.heap l its.toArray n:=by
 obtain⟨_,its,n,r,q⟩:=(show ObjOk X.prog X.w H s.heap l (.lst vs) from e.ok I.hok);exact⟨its,n,r,q⟩
theorem nu:∀{Ts:List Addr} {its:List Value},Vals (Ts.map V.ref) its->its=Ts.map ND
 |[],_,h=>by cases h;rfl
 |T::Ts,_,h=>by
  cases h with
  |cons r t=>
   have a:_=ND T:=r;rw[a,nu t];rfl
theorem ue(hc:X.calm=true)(hu:X.A.units+2<cLine):bG X (.type "dict") (λxs H Q=>∃l vs kvs,xs=[.ref l]/\Rd H l (.lst vs)/\PrT H vs kvs/\kvs.length<=1000000/\∀p,H p=none->Q (.ref p) (upd H p<|.dT<|kvs.foldl (λa p=>cj a p.1 p.2) [])):=by
 intro pins s Z H xs us Q I r h;obtain⟨l,vs,kvs,rfl,hl,pr,hz,q⟩:=h;obtain⟨u,rfl,ru⟩:=r.one;cases ru;obtain⟨Ts,f,rfl,kt,G,hpr⟩:=I.prT pr;obtain⟨L,n,rv,R⟩:=I.ls hl;have:=nu rv;subst this;have hrl:f.length<=1000000:=by rw[<- OC kt];exact hz
 have g:∀x∈f,(tupleKind<|aO X.prog X.w).is s.heap x.1 x.2.1:=by
  have all:∀{a:List (List ax×V)} {m:List (List ax×Addr×Value)},KT H a m->∀x∈m,(tupleKind<|aO X.prog X.w).is s.heap x.1 x.2.1:=by
   intro a m q
   induction q with
   |nil=>intro x hx;exact nomatch hx
   |@cons p q ps qs hq t ih=>
    intro x hx;rcases Nl.mp hx with e|hx
    .subst e;exact ft I.hok (by rw[<- hq.1];exact hq.2.1)
    .exact ih x hx
  exact all kt
 have c:∀{h v:Heap} {k:List ax} {a:Addr},(tupleKind<|aO X.prog X.w).is h k a->(∀o,h.get? a=some o->v.get? a=some o)->(tupleKind<|aO X.prog X.w).is v k a:=λ{h v k a} z j=>by
  obtain⟨o,L,n,e,r⟩:=z;exact⟨o,L,n,j o e,r⟩
 have klt:∀x∈f,x.2.1<s.heap.objs.size:=λx hx=>by
  obtain⟨o,_,_,e,_⟩:=g x hx;exact Nc e
 refine ym (ps:=f.map λr=>(ND r.2.1,r.2.2)) (Ts:=Ts) (I.ok.hd hc) (λi h=>h.DictOfH (tupleKind<|aO X.prog X.w) s.heap.objs.size ((f.take i).foldl (λa r=>storedH a r.1 r.2.1 r.2.2) [])/\∀x∈f,(tupleKind<|aO X.prog X.w).is h x.1 x.2.1) ?_ ?_ ?_ (by simp[G]) R (λi h1 O=>?_) ?_
 .intro v j hd
  exact⟨⟨_,#[],0,hd,⟨rfl,rfl,rfl⟩,rfl,rfl,λ_ hx=>by simp at hx,List.nodup_nil⟩,λx hx=>c (g x hx) λo e=>j _ o e⟩
 .rintro i h v ⟨⟨o,es,ep,e1,e2,e3,W,e5,U⟩,j⟩ C
  have P:∀x∈f,(tupleKind<|aO X.prog X.w).is v x.1 x.2.1:=λx hx=>c (j x hx) λo e=>C _ o (Qn<|klt x hx) e;refine⟨⟨o,es,ep,C _ o (Ni _) e1,e2,e3,W,λx hx=>c (e5 x hx) λo e=>C _ o ?_ e,U⟩,P⟩;have sub:∀(E J:List (List ax×Addr×Value)) (x:List ax×Addr×Value),x∈E.foldl (λa r=>storedH a r.1 r.2.1 r.2.2) J->(∃y∈E,y.2.1=x.2.1)\/∃y∈J,y.2.1=x.2.1:=by
   intro E
   induction E with
   |nil=>intro J x hx;exact .inr ⟨x,hx,rfl⟩
   |cons y E ih=>
    intro J x hx;rcases ih _ x hx with⟨z,hz,e⟩|⟨z,hz,e⟩
    .exact .inl ⟨z,Nk _ hz,e⟩
    .replace hz:z∈storedH J y.1 y.2.1 y.2.2:=hz
     unfold storedH at hz
     split at hz
     .obtain⟨z',Y,rfl⟩:=Nu.mp hz
      refine .inr ⟨z',Y,?_⟩;rw[<- e];unfold putAt;split<;>rfl
     .rcases Nx.mp hz with hz|hz
      .exact .inr ⟨z,hz,e⟩
      .rw[NS]at hz;subst hz;exact .inl ⟨y,by simp,e⟩
  rcases sub _ _ x hx with⟨y,hy,e⟩|⟨y,hy,_⟩
  .rw[<- e];exact Qn (klt y<|Ow hy)
  .cases hy
 .rintro i hi s' Q' E' ⟨hd,j⟩ hQ
  have M:i<f.length:=by simpa using hi
  simp only[List.getElem_map];have B:((f.take i).foldl (λa r=>storedH a r.1 r.2.1 r.2.2) ([]:List (List ax×Addr×Value))).length<=sizeLine:=by
   have:=iT (f.take i) [];have O:(1000000:Nat)<=sizeLine:=by decide
   simp only[Nq,NP]at this;lia
  refine wpAny_dictSet_heap (knd:=tupleKind (aO X.prog X.w)) (show X.A.units+1+1<cLine from hu) (j f[i] (Om M)) hd (λv N sb=>hQ v _ ⟨?_,λx hx=>?_⟩ sb) B
  .rw[List.take_succ_eq_append_getElem M,List.foldl_append]
   exact N
  .exact c (j x hx) λo e=>sb.extBut _ o (Np<|klt x hx) e
 .have T:i<f.length:=by simpa using O
  simp only[List.getElem_map];exact hpr i h1 T
 .rintro s' o1 o2 o3 ⟨hd,_⟩ j
  simp only[MW,List.take_length]at hd;have K:=I.big;have hn:H s.heap.objs.size=none:=I.hok.fresh (Ni _);obtain⟨hh',g',d',t',S⟩:=s';obtain rfl:S=s.os:=o1;obtain rfl:g'=s.gens:=o2;obtain rfl:d'=s.drawn:=o3;have F:=yl kt (H:=H) (a:=[]) (xs:=[]) .nil;obtain⟨o,es,ep,e1,e2,e3,W,e5,U⟩:=hd;refine⟨.ref s.heap.objs.size,_,I.laid (a:=s.heap.objs.size) (o:=.dT (kvs.foldl (λa p=>cj a p.1 p.2) [])) (t':=t') j (Ni _) ⟨?_,beq_eq_false_iff_ne.mpr (Pj K),_,F.keeps λb E e=>by rw[aH (bf e hn)];exact e,o,es,ep,e1,e2,e3,W,U⟩,rfl,q _ hn⟩
  rw[OC F];have:=iT f [];have O:(1000000:Nat)<=sizeLine:=by decide
  simp only[Nq]at this;lia
end
end L2
namespace L3
open PySem L2 LS
section
variable {X:Cx}{B:Bd}{K:Ng}{H:Hp}
def zu:List D->Option (List (List ax×D))
 |[]=>some []
 |.tup [k,v]::ds=>match mD k,zu ds with
  |some ks,some r=>some ((ks,v)::r)
  |_,_=>none
 |_=>none
theorem zY:∀{ds:List D} {vs:List V} {kvs:List (List ax×D)},Rps K H ds vs->zu ds=some kvs->∃ws,PrT H vs ws/\Rkv K H kvs ws
 |[],vs,kvs,r,e=>by cases e;cases r;exact⟨[],.nil,.nil⟩
 |d::ds,vs,kvs,r,e=>by
  obtain⟨v,E,rfl,a,b⟩:=r;unfold zu at e
  split at e
  .rename_i h;cases h
  .rename_i k x l h
   cases h
   split at e
   .rename_i o q n w
    cases e;obtain⟨ws,p,z⟩:=zY b w;obtain⟨T,A,rfl,y,s⟩:=a;obtain⟨C,j,rfl,f,c⟩:=s;obtain⟨m,i,rfl,c,g⟩:=c;cases g;obtain⟨F,rfl,u⟩:=kO f n;exact⟨(o,m)::ws,.cons y u p,.cons ⟨rfl,c⟩ z⟩
   .cases e
  .cases e
theorem qF{κ:Type}[DecidableEq κ]:∀{a:List (κ×D)} {b:List (κ×V)},Rkv K H a b->∀{a0:List (κ×D)} {b0:List (κ×V)},Rkv K H a0 b0->Rkv K H (a.foldl (λx p=>bL x p.1 p.2) a0) (b.foldl (λx p=>cj x p.1 p.2) b0)
 |_,_,.nil,a0,b0,h=>h
 |_,_,.cons (a:=p) (b:=q) h t,a0,b0,h0=>by
  rw[Oe,Oe];refine qF t ?_;rw[<- h.1];exact h0.put p.1 h.2
theorem E5{M:Mem}{d:D}{v:V}{xs:List D}(rh:RepH K H M)(r:Rp K H d v)(e:cP M d=some xs)(hm:∀ys,d≠.ml ys):∃l vs,v=.ref l/\Rd H l (.lst vs)/\Rps K H xs vs:=by
 cases d with
 |lst ys=>
  cases e;obtain⟨p,vs,rfl,⟨o,h⟩,r⟩:=r;exact⟨p,vs,rfl,.inr ⟨o,h⟩,r⟩
 |ml ys=>exact absurd rfl (hm ys)
 |ref a=>
  simp only[cP]at e
  split at e
  .rename_i ys q
   cases e;cases r;obtain⟨vs,b,c⟩:=rh _ _ q;exact⟨a,vs,rfl,.inl b,c⟩
  .cases e
 |_=>cases e
def Iz:D->Bool
 |.ml _=>false
 |_=>true
theorem Ex{d:D}(h:Iz d=true):∀ys,d≠.ml ys:=λys e=>by subst e;cases h
def pI:oH:=λb M Q=>match b with
 |[d]=>Iz d=true/\match cP M d with
  |some xs=>match zu xs with
   |some kvs=>kvs.length<=1000000/\∀p,M p=none->Q (.ref p) (M.upd p<|.dT<|kvs.foldl (λa p=>bL a p.1 p.2) [])
   |none=>False
  |none=>False
 |_=>False
theorem qt(hc:X.calm=true)(hu:X.A.units+64<cLine):bG X (.type "dict") (liftC X pI):=by
 intro pins s Z H xs us Q I r h;obtain⟨ds,M,QQ,rh,rp,h,up⟩:=h;unfold pI at h
 split at h
 .obtain⟨v,rfl,rv⟩:=fL (ds:=[]) rp
  obtain⟨hm,h⟩:=h
  split at h
  .rename_i ys e
   split at h
   .rename_i kvs e2
    obtain⟨l,vs,rfl,hq,rr⟩:=E5 rh rv e (Ex hm);obtain⟨ws,h1,h2⟩:=zY rr e2;refine ue hc (by lia) pins s Z H _ us Q I r ⟨l,vs,ws,rfl,hq,h1,by rw[<- h2.length];exact h.1,λp hp=>?_⟩
    exact up _ _ (h.2 p<|rh.fresh hp) _ _ (rh.put (by rw[hp];trivial) ⟨_,upd_same,(qF h2 .nil).mono<|Imm.new hp⟩) (Frm.put<|.inl hp) rfl
   .exact h.elim
  .exact h.elim
 .exact h.elim
def FX(M:Mem):D->Bool
 |.ref a=>match M a with
  |some (.dK _)=>true
  |some (.dT _)=>true
  |_=>false
 |_=>false
def rf(td ty:bp):bp:=λU M Q=>td U M λx M1=>FX M1 x=true/\ty U M1 λy M2=>match x with
 |.ref a=>match mC M2 a y with
  |some (some v)=>Q v M2
  |some none=>Q .non M2
  |none=>False
 |_=>False
def qf(td ty tx:bp):bp:=λU M Q=>td U M λx M1=>FX M1 x=true/\ty U M1 λy M2=>tx U M2 λz M3=>match x with
 |.ref a=>match mC M3 a y with
  |some (some v)=>Q v M3
  |some none=>Q z M3
  |none=>False
 |_=>False
theorem An{M:Mem}{x:D}{v:V}(rh:RepH K H M)(r:Rp K H x v)(e:FX M x=true):∃a,x=.ref a/\v=.ref a/\IsD H a:=by
 cases x with
 |ref a=>
  cases r;refine⟨a,rfl,rfl,?_⟩;simp only[FX]at e
  split at e
  .rename_i q;obtain⟨c,b,_⟩:=rh _ _ q;exact .inl ⟨c,.inl b⟩
  .rename_i q;obtain⟨c,b,_⟩:=rh _ _ q;exact .inr ⟨c,.inl b⟩
  .cases e
 |_=>cases e
theorem Fn{o e:Expr}{to te:bp}{apos cpos:Pos}(hu:X.A.units+64<cLine)(ho:DE X B o to)(he:DE X B e te)(m:M1 X o "get" apos e cpos):DE X B (.Call (.Attribute o "get" apos) [e] [] cpos) (rf to te):=by
 refine a_ (Cm (by lia) ho he m) ?_
 rintro Z H Q ⟨U,M,QQ,s,h,u⟩
 refine⟨U,M,_,s,h,λx M1 l v1 H1 c i p=>?_⟩;obtain⟨a,rfl,rfl,r⟩:=An c p l.1;refine⟨a,rfl,r,U,M1,_,s.go c i,l.2,λy M2 f v2 H2 b j n=>?_⟩;dsimp only at f
 split at f
 .rename_i d e
  rcases eR b n e with⟨q,_⟩|⟨d',w,q,g,rw'⟩
  .cases q
  .cases q
   exact⟨_,g,u _ M2 f _ H2 b (i.trans j) rw'⟩
 .rename_i e
  rcases eR b n e with⟨_,g⟩|⟨d',w,q,g,rw'⟩
  .exact⟨_,g,u _ M2 f _ H2 b (i.trans j) rfl⟩
  .cases q
 .exact f.elim
theorem Di{o e f:Expr}{to te tf:bp}{apos cpos:Pos}(hu:X.A.units+64<cLine)(ho:DE X B o to)(he:DE X B e te)(hf:DE X B f tf)(m:M2 X o "get" apos e f cpos):DE X B (.Call (.Attribute o "get" apos) [e,f] [] cpos) (qf to te tf):=by
 refine a_ (C7 (by lia) ho he hf m) ?_
 rintro Z H Q ⟨U,M,QQ,s,h,u⟩
 refine⟨U,M,_,s,h,λx M1 v v1 H1 c n I=>?_⟩;obtain⟨a,rfl,rfl,E⟩:=An c I v.1;refine⟨a,rfl,E,U,M1,_,s.go c n,v.2,λy M2 F v2 H2 i p C=>?_⟩;refine⟨U,M2,_,(s.go c n).go i p,F,λz M3 l v3 H3 b r G=>?_⟩;dsimp only at l;have j:=C.mf i r
 split at l
 .rename_i d e
  rcases eR b j e with⟨q,_⟩|⟨d',w,q,g,rw'⟩
  .cases q
  .cases q
   exact⟨_,g,u _ M3 l _ H3 b ((n.trans p).trans r) rw'⟩
 .rename_i e
  rcases eR b j e with⟨_,g⟩|⟨d',w,q,g,rw'⟩
  .exact⟨_,g,u _ M3 l _ H3 b ((n.trans p).trans r) G⟩
  .cases q
 .exact l.elim
end
end L3
namespace LS
open PySem PySem.W PySem.Calls PyProof.Rows PyProof.V PySem.Spec L2
theorem Dw{prog:Program}{w:World}{A:Around}{E:Value->Shared->Prop}{s:Shared}{d:Addr}{o:Obj}{es:Array DictEntry}{ep:Nat}{Q:Value->Shared->Prop}(hd:(d==sysModules)=false)(ho:s.heap.get? d=some o)(hc:o.ExactDict)(hdat:o.data=.dict es ep)(hfit:(es.size:Int)<2 ^ 63)
  (h:Q (.int es.size (s.toks+1)) { s with toks:=s.toks+1+1 }):wpAny (model prog w) A (call (.builtin "len") [.ref d]) Q E s:=by
 have a:s.TypeIs (.ref d) "dict":=⟨o,ho,hc.1⟩;refine Calls.call_function_entry kind_len plain_len entry_len (args_len1 _) ?_;unfold Builtin.«len»;refine wpAny_bind (m:=oneArg "len" _) (wpAny_pure<|wpAny_bind (m:=callSpecial? (.ref d) (Oh "__len__"))<|wpAny_callSpecial?_slot (name:=Oh "__len__") a RC<|wpAny_call_entry RC a PySem.F.entry_dict_len ?_<|PySem.F.args_dict_len_1 _);show wpAny _ _ (dictSize d >>= _) _ _ s;unfold dictSize;refine wpAny_bind (wpAny_bind<|wpAny_dictEntries ho hdat<|wpAny_pure ?_);show wpAny _ _ (Builtin.Dict.pendingCount d >>= _) _ _ s;refine wpAny_bind (wpAny_pendingCount_other hd<|wpAny_ret_mkInt ?_);rw[Int.natCast_zero,Int.add_zero];show wpAny _ _ _ _ _ { s with toks:=s.toks+1 };refine wpAny_bind (wpAny_holding<|wpAny_pure ?_);refine wpAny_bind (wpAny_letGo ?_);show wpAny _ _ (if ((es.size:Nat):Int)<0 then _ else _) _ _ _
 rw[if_neg (by lia)]
 show wpAny _ _ (if ((es.size:Nat):Int)>=2 ^ 63 then _ else _) _ _ _
 rw[if_neg (by lia)]
 exact wpAny_bind (wpAny_mkInt<|wpAny_pure ⟨_,rfl,h⟩)
end LS
namespace L3
open PySem L2 LS
section
variable {X:Cx}{B:Bd}
def ng:oH:=λb M Q=>match b with
 |[.ref a]=>match M a with
  |some (.dT kvs)=>Q (.int kvs.length) M
  |_=>False
 |_=>False
theorem sf:bG X (.builtin "len") (liftC X ng):=by
 intro f s Z H l K Q I r h;obtain⟨ds,M,QQ,g,A,h,p⟩:=h;unfold ng at h
 split at h
 .rename_i a
  obtain⟨v,rfl,F⟩:=fL (ds:=[]) A;cases F
  split at h
  .rename_i b e
   obtain⟨u,rfl,x⟩:=r.one;cases x;obtain⟨C,q,i⟩:=g _ _ e;obtain⟨z,y,l,G,o,j,L,J,E,n,m,N⟩:=(show ObjOk X.prog X.w H s.heap a (.dT C) from I.hok a _ q);have c:j.size=b.length:=by rw[<- Pm,m,MW,<- OC G,<- i.length]
   refine Dw y J E n ?_ ?_
   .rw[c,i.length];rw[sizeLine_eq]at z;lia
   .rw[c]
    exact⟨.int b.length,H,I.tok _,⟨_,rfl⟩,p _ M h _ H g Frm.refl rfl⟩
  .exact h.elim
 .exact h.elim
end
end L3
namespace L3
open PySem PySem.W PySem.Calls PyProof.Rows PyProof.V PySem.Spec L2
section
variable {X:Cx}{B:Bd}{pins:List (Addr×Obj)}{Z:L2.St}{H:Hp}{s:Shared}{M:Mem}
end
end L3
namespace L3
open PySem L2 LS
section
variable {X:Cx}{B:Bd}
end
end L3
namespace L2
open PySem PySem.Spec PyProof.Rows
theorem mM(xs:List Value):∀k:Nat,k<=xs.length->((NL k).map λ(m:Nat)=>(((xs.length:Nat):Int)-1+-1*(m:Int)).toNat).filterMap (λi=>xs.toArray[i]?)=xs.reverse.take k
 |0,_=>by simp
 |k+1,h=>by
  rw[List.range_succ,Ol,List.filterMap_append,mM xs k (by lia),List.take_add_one]
  congr 1;have e:(((xs.length:Nat):Int)-1+-1*(k:Int)).toNat=xs.length-1-k:=by lia
  simp only[Nb,NM,e,List.getElem?_toArray];rw[List.getElem?_reverse (by lia)]
  have:xs.length-1-k<xs.length:=by lia
  rw[MY this];simp[MY this]
theorem kR(xs:List Value):slicePick xs.toArray none none (some (-1))=xs.reverse.toArray:=by
 unfold slicePick;have e:sliceBounds none none (some (-1)) xs.toArray.size=(((xs.length:Nat):Int)-1,-1,-1):=by simp[sliceBounds]
 rw[e];have b:sliceRange (((xs.length:Nat):Int)-1) (-1) (-1)=(NL xs.length).map λ(m:Nat)=>(((xs.length:Nat):Int)-1+-1*(m:Int)).toNat:=by
  unfold sliceRange;have a:¬((-1:Int)>0):=by decide
  rw[if_neg a];congr 2
  by_cases c:((xs.length:Nat):Int)-1 > -1
  .rw[if_pos c]
   have:((xs.length:Nat):Int)-1 - -1 - -1-1=xs.length:=by lia
   rw[this];simp
  .rw[if_neg c]
   have:xs.length=0:=by lia
   simp[this]
 rw[b,mM xs xs.length (Ni _),PC (by simp)]
section
variable {X:Cx}{e:Expr}{te:TE}{st:Expr}{ts:TO}{p2 pos:Pos}
def KL(K:Ng)(te:TE)(ts:TO):TE:=λZ H Q=>te Z H λx H1=>ts Z H1 λo H2=>o=some (-1)/\∃a xs,x=.ref a/\SqL K H2 a xs/\∀p,H2 p=none->Q (.ref p) (upd H2 p<|.lst xs.reverse)
theorem CS(he:PE X e te)(hs:PO X (some st) ts):PE X (.Subscript e (.Slice none none (some st) p2) pos) (KL X.K te ts):=by
 intro c s Z H Q I h;refine Subscript_ (bF (he c s Z H _ I h) λv l ⟨x,H1,I1,z,B⟩=>?_);refine wpAny_Slice ?_;rw[evalPart_none];refine wpAny_pure ?_;refine wpAny_pure ?_;refine bF (hs c l Z H1 _ I1 B) λg f ⟨o,H3,I3,E,C⟩=>?_;obtain⟨rfl,a,y,rfl,p,q⟩:=C;have I4:Inv X c Z H3 { f with heap:=f.heap.push { cls:=.type "slice",data:=.fields #[.none,.none,g] } }:=I3.kept (t':=f.toks) λb u q=>MX _ q;cases z;obtain⟨n,r,i,m⟩:=I4.list p;have j:=r.length;show wpAny (model X.prog X.w) X.A (subscriptTail e (.Slice none none (some st) p2) (.ref a)<|.ref f.heap.objs.size) (EP X c Z Q) X.xe { f with heap:=f.heap.push { cls:=.type "slice",data:=.fields #[.none,.none,g] } };refine tail_any (ops:=[.ref a,.ref f.heap.objs.size]) i.isList.typeIs slot_list_getitem.lookup (wpAny_getItem_list_slice i.isList (Ra ..) .none .none E (by simp) ?_<|by rw[Na]<;>lia) (by with_unfolding_all rfl)
 rw[kR];refine⟨.ref _,_,I4.laid (t':=f.toks) (o:=.lst y.reverse) (λb u q=>MX _ q) (Ni _) ?_,rfl,q _<|I4.hok.fresh<|Ni _⟩;exact⟨by rw[List.length_reverse];exact m,_,0,r.reverse,Nj _ rfl⟩
end
end L2
namespace L3
open PySem L2
section
variable {X:Cx}{B:Bd}{K:Ng}{H:Hp}{M:Mem}{e:Expr}{te:bp}{st:Expr}{ts:F7}{pos p2:Pos}
def qw(te:bp)(ts:F7):bp:=λU M Q=>te U M λx M1=>ts U M1 λo M2=>o=some (-1)/\match cP M2 x with
 |some xs=>∀p,M2 p=none->Q (.ref p) (M2.upd p<|.lst xs.reverse)
 |none=>False
theorem Dp(he:DE X B e te)(hs:DO X B (some st) ts):DE X B (.Subscript e (.Slice none none (some st) p2) pos) (qw te ts):=by
 refine a_ (CS he hs) ?_
 rintro Z H Q ⟨U,M,QQ,s,h,u⟩
 refine⟨U,M,_,s,h,λx M1 h1 v1 H1 rh1 i1 r1=>?_⟩;refine⟨U,M1,_,s.go rh1 i1,h1,λo M2 h2 H2 rh2 i2=>?_⟩;obtain⟨rfl,h2⟩:=h2
 split at h2
 .rename_i xs ex
  obtain⟨a,vs,rfl,hq,r⟩:=dQ rh2 (r1.mf rh1 i2) ex;refine⟨rfl,a,vs,rfl,.inl hq,λp hp=>?_⟩;exact(u.go<|i1.trans i2) _ _ (h2 p<|rh2.fresh hp) _ _ (rh2.put (by rw[hp];trivial) ⟨_,upd_same,r.reverse.mono<|Imm.new hp⟩) (Frm.put<|.inl hp) rfl
 .exact h2.elim
end
end L3
namespace L2
open PySem PySem.Spec PyProof.Rows
section
variable {prog:Program}{w:World}{A:Around}{E:Value->Shared->Prop}{s:Shared}
end
section
variable {prog:Program}{w:World}{A:Around}{E:Value->Shared->Prop}{s:Shared}
end
section
variable {X:Cx}
end
end L2
namespace L3
open PySem L2
section
variable {X:Cx}{B:Bd}{K:Ng}{H:Hp}
end
end L3
namespace LS
open PySem PySem.W PyProof.Rows
section
variable {n:Nat}{ky:Nat->Nat}{cmp:Nat->Nat->(Bool->Shared->Prop)->Shared->Prop}{p:Array Nat}{s:Shared}
end
section
variable {prog:Program}{w:World}{A:Around}{s:Shared}{b:Bool}{Q:Bool->Shared->Prop}
end
section
variable {prog:Program}{w:World}{A:Around}{E:Value->Shared->Prop}{s:Shared}
end
end LS
namespace L3
open PySem L2 LS
section
variable {X:Cx}{B:Bd}
end
end L3
namespace HT
open PySem PyProof.Rows
section
variable {prog:Program}{w:World}{A:Around}{E:Value->Shared->Prop}{s:Shared}
end
end HT
namespace L2
open PySem PySem.Spec PyProof.Rows
section
variable {X:Cx}{e:Expr}{te:TE}{st:Expr}{ts:TO}{p2 pos:Pos}
end
end L2
namespace L3
open PySem L2
section
variable {X:Cx}{B:Bd}{e:Expr}{te:bp}{st:Expr}{ts:F7}{pos p2:Pos}
end
structure GF(K:Ng)(mg:Str->Option Value)(x:Str)(st:Stmt)(f:Addr)(fd:FuncData)(ps:List Str):Prop where
 F:Fun K x x st f fd
 b:Binds K fd ps []
 k:Pw K (.ref f)=true
 m:mg x=some (.ref f)
structure GM(K:Ng)(C:Addr)(x qual:Str)(st:Stmt)(f:Addr)(fd:FuncData)(ps:List Str):Prop where
 F:Fun K x qual st f fd
 b:Binds K fd ps []
 m:Meth K C x f
structure GI(K:Ng)(C:Addr)(x qual:Str)(st:Stmt)(f:Addr)(fd:FuncData)(ps:List Str):Prop where
 F:Fun K x qual st f fd
 b:Binds K fd ps []
 m:Mk K C f
section
variable {X:Cx}{B:Bd}{CX:pq}{k n:Nat}{f C:Addr}{fd:FuncData}{N ps:List Str}{T:Sd}{EE:DX}{E:XK}{x qual:Str}{st:Stmt}{p pos apos:Pos}{o e:Expr}{es:List Expr}{ta:bp}{t:fj}
theorem Bc(h:GF X.K X.mg x st f fd ps)(F:FnOk X.prog X.w X.K X.mg X.base CX k f fd ps (ce X.K n T))(hr:Room k X.A)(hg:Gl X x)(hx:ck CX X E)(ux:zE X.K B EE E)
  (ha:DA X B (e::es) t) (hdb:(x==("__debug__":Str))=false) (he:starEach (e::es) X.env=(false,eval e X.env)::starEach es X.env) (hpl:(backTo pos<|starEach es X.env).any (·.1)=false):
  DE X B (.Call (.Name x p) (e::es) [] pos) (aj T EE n t):=CO F hr hg h.m h.k h.b hx ux ha hdb he hpl
def Hq(X:Cx)(B:Bd)(x:Str)(T:Sd)(EE:DX)(n:Nat):Prop:=∃(st:Stmt) (f:Addr) (fd:FuncData) (ps:List Str) (k:Nat) (CX:pq) (E:XK),GF X.K X.mg x st f fd ps/\FnOk X.prog X.w X.K X.mg X.base CX k f fd ps (ce X.K n T)/\Room k X.A/\ck CX X E/\zE X.K B EE E
theorem B0(h:Hq X B x T EE n)(hg:Gl X x)(ha:DA X B (e::es) t)(hdb:(x==("__debug__":Str))=false)(he:starEach (e::es) X.env=(false,eval e X.env)::starEach es X.env)(hpl:(backTo pos<|starEach es X.env).any (·.1)=false):
  DE X B (.Call (.Name x p) (e::es) [] pos) (aj T EE n t):=by
 obtain⟨_,_,_,_,_,_,_,h,F,a,b,ux⟩:=h;exact Bc h F a hg b ux ha hdb he hpl
theorem BR(h:GI X.K C qual x st f fd ps)(F:FnOk X.prog X.w X.K X.mg X.base CX k f fd ps (ce X.K n T))(hr:Room (k+1) X.A){y:Str}(hg:Gl X y)(hm:X.mg y=some (.ref C))(hx:ck CX X E)(ux:zE X.K B EE E)
  (ha:DA X B (e::es) t) (hdb:(y==("__debug__":Str))=false) (he:starEach (e::es) X.env=(false,eval e X.env)::starEach es X.env) (hpl:(backTo pos<|starEach es X.env).any (·.1)=false):
  DE X B (.Call (.Name y p) (e::es) [] pos) (uz C T EE n t):=Dm h.m F hr hg hm h.b hx ux ha hdb he hpl
theorem AO{m:Str}{pl:Sem Bool}(he:DE X B o ta)(c:Cls X.K C)(h:GM X.K C m qual st f fd ps)(F:FnOk X.prog X.w X.K X.mg X.base CX k f fd ps (ce X.K n T))(hr:Room k X.A)(hx:ck CX X E)(ux:zE X.K B EE E)(ha:DA X B (e::es) t)
  (hst:starEach (e::es) X.env=(false,eval e X.env)::starEach es X.env) (hpl:(backTo pos<|starEach es X.env).any (·.1)=false)
  (ht:eval (.Call (.Attribute o m apos) (e::es) [] pos) X.env=(do
   let ov <- eval o X.env
   standAt apos.atName
   let (f,first) <- holding [ov] (getMethod ov m pl)
   callWith pos f first (backTo pos<|starEach (e::es) X.env) (backToKw pos<|keywordEach [] X.env))):
  DE X B (.Call (.Attribute o m apos) (e::es) [] pos) (eh C m T EE n ta t):=Ed he c h.m F hr h.b hx ux ha hst hpl ht
inductive FC(X:Cx)(scope:Scope):List Str->List Nat->List (Str×Addr)->Prop
 |nil:FC X scope [] [] []
 |cons {x:Str} {j:Nat} {c:Addr} {fs:List Str} {js:List Nat} {cl:List (Str×Addr)}:X.N[j]?=some x->X.env.cells.lookup x=some c->(X.env.kindOf x=some .cell\/X.env.kindOf x=some .free)->
   ((relabel scope X.env).names.lookup x=some .cell\/(relabel scope X.env).names.lookup x=some .free)->FC X scope fs js cl->FC X scope (x::fs) (j::js) ((x,c)::cl)
theorem FC.ok{scope:Scope}{fs:List Str}{js:List Nat}{cl:List (Str×Addr)}(h:FC X scope fs js cl):Frees X scope fs js/\∃cs:List Addr,fs.length=cs.length/\cl=fs.zip cs/\∀p∈cl,X.env.cells.lookup p.1=some p.2:=by
 induction h with
 |nil=>exact⟨.nil,[],rfl,rfl,memZ⟩
 |cons a b c d _ ih=>
  obtain⟨g,cs,j,l,i⟩:=ih;exact⟨.cons a c d g,_::cs,congrArg (·+1) j,by rw[l];rfl,memC b i⟩
variable {scope:Scope}{cl:List (Str×Addr)}{ls fs:List Str}{js:List Nat}{tg iter elt:Expr}{ifs:List Expr}{wi:zD}{g:jn}{tt:eG}{te:bp}{i:Nat}{px spos:Pos}
theorem nodC{s₀:Shared}{H₀:Hp}{fp:List Addr}{pl:List (Addr×Obj)}(h:N.Nodup):(bi X N scope cl C s₀ H₀ fp pl).N.Nodup:=h
theorem va(h:FC X scope fs js cl)(hk:scope.kind=.function)(hn:∀y∈scope.names,y.2≠.cell/\(y.2=.free->y.1∈fs))(hl:∀x∈scope.names,x.2=.local->scope.names.lookup x.1=some .local)
  (hcl:closureFor scope X.env=pure cl):CompOk X scope cl ls fs js:=by
 obtain⟨a,l,c,j,b⟩:=h.ok;subst j;exact Ee hk hn hl c hcl b a
theorem Af(hc:X.calm=true)(h:FC X scope fs js cl)(hk:scope.kind=.function)(hn:∀y∈scope.names,y.2≠.cell/\(y.2=.free->y.1∈fs))(hl:∀x∈scope.names,x.2=.local->scope.names.lookup x.1=some .local)
  (hcl:closureFor scope X.env=pure cl) (hi:DI X B tg iter wi)
  (hG:∀(C:Addr) (s₀:Shared) (H₀:Hp) (fp:List Addr) (pl:List (Addr×Obj)),DG (bi X (ls++fs) scope cl C s₀ H₀ fp pl) tL tg g)
  (hT:∀(C:Addr) (s₀:Shared) (H₀:Hp) (fp:List Addr) (pl:List (Addr×Obj)),HP (bi X (ls++fs) scope cl C s₀ H₀ fp pl) tL ifs tt)
  (hE:∀(C:Addr) (s₀:Shared) (H₀:Hp) (fp:List Addr) (pl:List (Addr×Obj)),DE (bi X (ls++fs) scope cl C s₀ H₀ fp pl) tL elt te)
  (hs:∀x,foldedSetIterable iter X.env x=pure x):DE X B (.ListComp elt [⟨tg,iter,ifs,0⟩] scope pos) (aW wi ls js g tt te):=
 Dz hc (va h hk hn hl hcl) hi (λa b c d e=>⟨hG a b c d e,hT a b c d e,hE a b c d e⟩) hs
theorem Ae(hN:X.N.Nodup)(hix:X.N[i]?=some x)(hx:zG X.env.scope x)(hc:X.calm=true)(h:FC X scope fs js cl)(hk:scope.kind=.function)(hn:∀y∈scope.names,y.2≠.cell/\(y.2=.free->y.1∈fs))(hl:∀x∈scope.names,x.2=.local->scope.names.lookup x.1=some .local)
  (hcl:closureFor scope X.env=pure cl) (hi:DI X B tg iter wi)
  (hG:∀(C:Addr) (s₀:Shared) (H₀:Hp) (fp:List Addr) (pl:List (Addr×Obj)),DG (bi X (ls++fs) scope cl C s₀ H₀ fp pl) tL tg g)
  (hT:∀(C:Addr) (s₀:Shared) (H₀:Hp) (fp:List Addr) (pl:List (Addr×Obj)),HP (bi X (ls++fs) scope cl C s₀ H₀ fp pl) tL ifs tt)
  (hE:∀(C:Addr) (s₀:Shared) (H₀:Hp) (fp:List Addr) (pl:List (Addr×Obj)),DE (bi X (ls++fs) scope cl C s₀ H₀ fp pl) tL elt te)
  (h1:X.env.blockKind=.function) (h2:X.env.scope.names.lookup x=some .local) (h3:px.line=pos.line) (h4:(scope.names.any λ(n,k)=>n==x&&(k==.local||k==.cell))=false) (hs:∀x,foldedSetIterable iter X.env x=pure x) (hf:X.fn x=true\/X.env.scope.names.lookup x=some .local):
  DS X B (.Assign [.Name x px] (.ListComp elt [⟨tg,iter,ifs,0⟩] scope pos) spos) (oZ i<|aW wi ls js g tt te):=
 ET hN hix hx hc (va h hk hn hl hcl) hi (λa b c d e=>⟨hG a b c d e,hT a b c d e,hE a b c d e⟩) (Eh h1 h2 h3 h4) hs hf
theorem E6{cx:Str}{cp ep np hpos:Pos}{b₀:Stmt}{suite:List Stmt}{ts:au}(h:GF X.K X.mg x st f fd ps)(F:FnOk X.prog X.w X.K X.mg X.base (rW X.prog X.w) k f fd ps (ce X.K n T))
  (hst:X.stack=X.env::X.outer) (hfL:X.env.frame=some X.env.locals) (hr:Room k X.A) (hg:Gl X x)
  (ha:DA X.nox B (e::es) t) (EX:ExcAt X.K C) (hgC:Gl X cx) (hmC:X.mg cx=some (.ref C)) (hsu:∀ea:Addr,zF (X.marked<|.ref ea) B (b₀::suite) ts)
  (hdb:(x==("__debug__":Str))=false) (hdC:(cx==("__debug__":Str))=false) (he:starEach (e::es) X.env=(false,eval e X.env)::starEach es X.env) (hpl:(backTo cp<|starEach es X.env).any (·.1)=false)
  (hsw:swapsWith (.Call (.Name x p) (e::es) [] cp) none ep.line X.env=pure false):
  DS X B (.Try [.Expr (.Call (.Name x p) (e::es) [] cp) ep] [.ExceptHandler (some<|.Name cx np) none (b₀::suite) hpos] [] [] pos) (JT C T n t ts):=sy hst hfL F hr hg h.m h.k h.b ha EX hgC hmC hsu hdb hdC he hpl hsw
def DPs(X:Cx)(B:Bd)(pos:Pos)(keys:List (Option Expr))(values:List Expr)(tab:List (Str×bp)):Prop:=Eb X pos keys values (tab.map λkt=>(tC (.str kt.1),liftE X B kt.2))
theorem Fc:DPs X B pos [] [] []:=CT
theorem AU{keys:List (Option Expr)}{values:List Expr}{tab:List (Str×bp)}{y:Str}{v:Expr}{T:bp}{j:Nat}{p1:Pos}(hv:DE X B v T)(h:DPs X B pos keys values tab):
  DPs X B pos (some (.Constant (.str y) j p1)::keys) (v::values) ((y,T)::tab):=At hv h
theorem Bo{keys:List (Option Expr)}{values:List Expr}{tab:List (Str×bp)}(h:DPs X B pos keys values tab)(hall:keys.all (·.isSome)=true)(hl:keys.length=values.length)(h0:keys≠[])
  (h15:keys.length<=15):DE X B (.Dict keys values pos) (lM tab):=F2 h hall hl h0 h15
end
section
variable {X:Cx}{B:Bd}{x:Str}{id T Ty:String}{p pos apos cpos:Pos}{o e:Expr}{es:List Expr}{to:bp}{t:fj}{name:Str}
theorem cO{r:oH}(hc:bG X (.builtin id) (liftC X r))(hv:bootBuiltins x=some (.builtin id))(hg:Gl X x)(hm:X.mg x=none)(ha:DA X B (e::es) t)(hn:x≠"__name__")(hdb:(x==("__debug__":Str))=false)
  (he:starEach (e::es) X.env=(false,eval e X.env)::starEach es X.env) (hpl:(backTo pos<|starEach es X.env).any (·.1)=false):DE X B (.Call (.Name x p) (e::es) [] pos) (aQ r t):=B8 hc hg hm hv ha hn hdb he hpl
theorem eP{r:oH}(hc:bG X (.type T) (liftC X r))(hv:bootBuiltins x=some (.type T))(hg:Gl X x)(hm:X.mg x=none)(ha:DA X B (e::es) t)(hn:x≠"__name__")(hdb:(x==("__debug__":Str))=false)
  (he:starEach (e::es) X.env=(false,eval e X.env)::starEach es X.env) (hpl:(backTo pos<|starEach es X.env).any (·.1)=false):DE X B (.Call (.Name x p) (e::es) [] pos) (aQ r t):=yr hc hg hm hv ha hn hdb he hpl
theorem nO(hv:bootBuiltins x=some (.type T))(hg:Gl X x)(hm:X.mg x=none)(hn:x≠"__name__")(hd:(x==("__debug__":Str))=false):DE X B (.Name x pos) (dC<|.ty T):=Lh hg hm hv hn hd
theorem sv{r:zI}(pa:PlainAttrs Ty)(slot:Slot Ty name id)(hty:typeOf (.builtin id)=pure (.type "method_descriptor"))(hm:BH X id (liftM X r))(hT:Ty="list"\/Ty="str"\/Ty="int"\/Ty="dict")(ho:DE X B o to)(ha:DA X B (e::es) t)
  (hbase:attributeBase o name X.env (eval o X.env)=eval o X.env)
  (hfew:((backTo cpos<|starEach (e::es) X.env).all (λx=>!x.1)&&(backToKw cpos<|keywordEach [] X.env).all (λx=>x.1.isSome)
   && decide ((e::es).length+([]:List Keyword).length+(if ([]:List Keyword).isEmpty then 0 else 1)<30))=true)
  (hline:(apos.endLine==cpos.line)=true) (hs:starEach (e::es) X.env=(false,eval e X.env)::starEach es X.env) (hplain:(backTo cpos<|starEach es X.env).any (·.1)=false):
  DE X B (.Call (.Attribute o name apos) (e::es) [] cpos) (rV Ty r to t):=LY hT pa slot hty hm ho ha hbase hfew hline hs hplain
theorem GW{r:zI}(slot:Slot "tuple" name id)(hty:typeOf (.builtin id)=pure (.type "method_descriptor"))(hm:BH X id (liftM X r))(ho:DE X B o to)(ha:DA X B (e::es) t)
  (hbase:attributeBase o name X.env (eval o X.env)=eval o X.env)
  (hfew:((backTo cpos<|starEach (e::es) X.env).all (λx=>!x.1)&&(backToKw cpos<|keywordEach [] X.env).all (λx=>x.1.isSome)
   && decide ((e::es).length+([]:List Keyword).length+(if ([]:List Keyword).isEmpty then 0 else 1)<30))=true)
  (hline:(apos.endLine==cpos.line)=true) (hs:starEach (e::es) X.env=(false,eval e X.env)::starEach es X.env) (hplain:(backTo cpos<|starEach es X.env).any (·.1)=false):
  DE X B (.Call (.Attribute o name apos) (e::es) [] cpos) (dTM r to t):=La slot hty hm ho ha hbase hfew hline hs hplain
theorem Ej{i:Nat}{te:bp}{op:Operator}{r:g9}{pos':Pos}(ho:Jy X op (liftR2 X r))(hN:X.N.Nodup)(hi:X.N[i]?=some x)(hx:zG X.env.scope x)(he:DE X B e te)(hf:X.fn x=true\/X.env.scope.names.lookup x=some .local):
  DS X B (.AugAssign (.Name x pos') op e pos) (Ch i te r):=JG hN hi hx he ho hf
end
structure Nf(K:Ng)(x:Str)(st:Stmt)(f:Addr)(fd:FuncData):Prop where
 a:Pa K mainGlobals x=some (some<|.ref f)
 F:Fun K x x st f fd
structure Mf(K:Ng)(C:Addr)(x q:Str)(st:Stmt)(f:Addr)(fd:FuncData):Prop where
 a:Oz K (.ref C) x=some (some<|.ref f)
 i:W.isFn K (.ref f)=true
 F:Fun K x q st f fd
theorem us1{α:Type}{P:List α->Prop}(h:∀a0,P [a0]):∀us:List α,us.length=1->P us
 |[a0],_=>h a0
theorem us2{α:Type}{P:List α->Prop}(h:∀a0 a1,P [a0,a1]):∀us:List α,us.length=2->P us
 |[a0,a1],_=>h a0 a1
theorem us3{α:Type}{P:List α->Prop}(h:∀a0 a1 a2,P [a0,a1,a2]):∀us:List α,us.length=3->P us
 |[a0,a1,a2],_=>h a0 a1 a2
theorem us4{α:Type}{P:List α->Prop}(h:∀a0 a1 a2 a3,P [a0,a1,a2,a3]):∀us:List α,us.length=4->P us
 |[a0,a1,a2,a3],_=>h a0 a1 a2 a3
theorem us5{α:Type}{P:List α->Prop}(h:∀a0 a1 a2 a3 a4,P [a0,a1,a2,a3,a4]):∀us:List α,us.length=5->P us
 |[a0,a1,a2,a3,a4],_=>h a0 a1 a2 a3 a4
abbrev Bnd(ps:List Str)(x qual:Str)(st:Stmt):Prop:=∀(kV doc pm:Value) (an:Option Addr) (cdv ct:Value) (us:List Value),us.length=ps.length->bindArgs (Qs x qual (di st) (cE st) (bq st) .none kV doc pm an cdv ct) ⟨us,[]⟩=pure (ps.zip us)
section
variable {P:Program}{w:World}{K:Ng}{mg:Str->Option Value}{base h:Heap}{k n:Nat}{f C:Addr}{fd:FuncData}{N ps:List Str}{S:Sd}{T:DX->au}{x qual:Str}{st:Stmt}
theorem gf(X:K.In h)(G:h.Ns mainGlobals mg)(l:Nf K x st f fd)(hb:Bnd ps x x st:=by intro _ _ _ _ _ _;first|exact us1 λ_=>rfl|exact us2 λ_ _=>rfl|exact us3 λ_ _ _=>rfl|exact us4 λ_ _ _ _=>rfl|exact us5 λ_ _ _ _ _=>rfl|exact us6 λ_ _ _ _ _ _=>rfl|exact us7 λ_ _ _ _ _ _ _=>rfl|exact us8 λ_ _ _ _ _ _ _ _=>rfl):GF K mg x st f fd ps:=⟨l.F,l.F.binds hb,l.F.kp,Ry X G l.a⟩
theorem gm(l:Mf K C x qual st f fd)(hb:Bnd ps x qual st:=by intro _ _ _ _ _ _;first|exact us1 λ_=>rfl|exact us2 λ_ _=>rfl|exact us3 λ_ _ _=>rfl|exact us4 λ_ _ _ _=>rfl|exact us5 λ_ _ _ _ _=>rfl|exact us6 λ_ _ _ _ _ _=>rfl|exact us7 λ_ _ _ _ _ _ _=>rfl|exact us8 λ_ _ _ _ _ _ _ _=>rfl):GM K C x qual st f fd ps:=⟨l.F,l.F.binds hb,l.a,l.i,l.F.kp⟩
theorem gi(mk:Rc K C=true)(kc:Pw K (.ref C)=true)(l:Mf K C "__init__" qual st f fd)(hb:Bnd ps "__init__" qual st:=by intro _ _ _ _ _ _;first|exact us1 λ_=>rfl|exact us2 λ_ _=>rfl|exact us3 λ_ _ _=>rfl|exact us4 λ_ _ _ _=>rfl|exact us5 λ_ _ _ _ _=>rfl|exact us6 λ_ _ _ _ _ _=>rfl|exact us7 λ_ _ _ _ _ _ _=>rfl|exact us8 λ_ _ _ _ _ _ _ _=>rfl):GI K C "__init__" qual st f fd ps:=⟨l.F,l.F.binds hb,mk,l.a,l.i,kc⟩
abbrev cG(P:Program)(w:World)(mg:Str->Option Value)(base:Heap)(_:Fun K x qual st f fd)(_:Binds K fd ps [])(k:Nat)(S:Sd):Prop:=FnOk P w K mg base (rW P w) k f fd ps (ce K ps.length S)
theorem fnS(hS:S=aK N T)(F:Fun K x qual st f fd)(b:Binds K fd ps [])(sc:FnScope N ps (bq st))
  (hb:FnScope N ps (bq st)->∀(cdv:Value) (A:Around) (outer:List Env) (s:Shared) (H:Hp) (E:XK) (B:Bd) (EE:DX),Room k (A.deeper<|Rk qual (bq st) s.heap.objs.size f cdv)->zE K B EE E->
   zF (dU (rW P w) P w K mg base N qual (bq st) f cdv A outer s H E) B (cE st) (T EE)):cG P w mg base F b (k+1) S:=by
 subst hS;exact fnD F sc (hb sc)
end
end L3
namespace Tw
open PySem L2 L3
def cu(i:Nat):Stmt:=PySem.Challenge.pw_twinstride_k66_narrowings_looked_at.main.body.getD i (.Pass ⟨0,0,0,0⟩)
abbrev s_q54:Stmt:=cu 0
abbrev Mp:Stmt:=fQ (cu 6) 0
abbrev KZ:Stmt:=fQ (cu 6) 1
abbrev FG:Stmt:=fQ (cu 6) 2
abbrev FZ:Stmt:=cu 7
abbrev G3:Stmt:=cu 8
abbrev FA:Stmt:=cu 9
abbrev Gk:Stmt:=cu 10
abbrev G6:Stmt:=cu 11
abbrev Gp:Stmt:=cu 12
abbrev FR:Stmt:=cu 13
abbrev GN:Stmt:=cu 14
abbrev FD:Stmt:=cu 15
abbrev G1:Stmt:=cu 17
abbrev GC:Stmt:=cu 18
abbrev FN:Stmt:=cu 19
abbrev FK:Stmt:=cu 20
abbrev G7:Stmt:=cu 22
abbrev G9:Stmt:=cu 24
abbrev Gb:Stmt:=cu 25
abbrev FP:Stmt:=cu 26
abbrev Gj:Stmt:=cu 27
abbrev Gm:Stmt:=cu 28
abbrev Gu:Stmt:=cu 29
abbrev Mo:Stmt:=fQ (cu 31) 0
abbrev Fz:Stmt:=fQ (cu 31) 1
abbrev s_q2:Stmt:=fQ (cu 31) 2
abbrev KF:Stmt:=cu 32
abbrev G4:Stmt:=cu 33
abbrev Kv:Stmt:=cu 34
abbrev Gx:Stmt:=cu 35
abbrev Gw:Stmt:=cu 37
abbrev FQ:Stmt:=cu 38
abbrev GH:Stmt:=cu 39
abbrev FY:Stmt:=cu 40
abbrev GD:Stmt:=cu 41
abbrev My:Stmt:=cu 42
abbrev Go:Stmt:=cu 43
abbrev FW:Stmt:=cu 44
abbrev FU:Stmt:=cu 45
abbrev GJ:Stmt:=cu 46
abbrev Gn:Stmt:=cu 47
abbrev FT:Stmt:=cu 48
abbrev Lr:Stmt:=cu 49
abbrev GL:Stmt:=cu 50
abbrev KR:Stmt:=cu 51
abbrev Gy:Stmt:=cu 52
abbrev G8:Stmt:=cu 53
abbrev FF:Stmt:=cu 54
abbrev Ga:Stmt:=cu 55
abbrev FV:Stmt:=cu 56
abbrev Gg:Stmt:=cu 57
abbrev Ma:Stmt:=cu 58
abbrev Gd:Stmt:=cu 59
abbrev GK:Stmt:=cu 60
abbrev Gh:Stmt:=cu 61
abbrev Gq:Stmt:=cu 62
abbrev Ge:Stmt:=cu 63
abbrev FS:Stmt:=cu 64
abbrev dI:Stmt:=cu 65
set_option genInjectivity false in
structure Ad where
 C_Askings:Addr
 C_Walk:Addr
 C_Dry:Addr
 C_NoCase:Addr
 (a1 a2 a3 a4 a5 a6 a7 a8 a9 a10 a11 a12 a13 a14 a15 a16 a17 a18 a19 a20 a21 a22 a23 a24 a25 a26 a27 a28 a29 a30 a31 a32 a33 a34 a35 a36 a37 a38 a39 a40 a41 a42 a43 a44 a45 a46 a47 a48 a49 a50 a51 a52 a53 a54 a55 a56 a57 a58 a59 a60:Addr)
 (d1 d2 d3 d4 d5 d6 d7 d8 d9 d10 d11 d12 d13 d14 d15 d16 d17 d18 d19 d20 d21 d22 d23 d24 d25 d26 d27 d28 d29 d30 d31 d32 d33 d34 d35 d36 d37 d38 d39 d40 d41 d42 d43 d44 d45 d46 d47 d48 d49 d50 d51 d52 d53 d54 d55 d56 d57 d58 d59 d60:FuncData)
def FE(ad:Ad)(EE:DX):au:=
 (de (bU<|dC<|.bl true) aE)
def FH(ad:Ad):Sd:=aK ["k"] (FE ad)
theorem u_q54{ad:Ad}{n:Nat}{x0:D}{M:Mem}{Q:DK}{E:DX}:FH ad [x0] M Q E=FE ad (aw E) { nx:=λ_ M'=>drp Q .non M',rt:=drp Q } [some x0] M:=rfl
def Ah(ad:Ad)(EE:DX):au:=
 (ao (ia ad.C_Walk (ac 0) (ac 3) "most")
  (ia ad.C_Walk (ac 0) (bn ae) "steps"))
def Aj(ad:Ad)(EE:DX):au:=
 (ao (ia ad.C_Walk (ac 0) (am az (ac 2)<|dC<|.int 1) "pieces")
  (Ah ad EE))
def Bw(ad:Ad)(EE:DX):au:=
 (ao (ia ad.C_Walk (ac 0) (kJ<|aa (am az (ac 1)<|dC<|.int 1)<|aa (am az (ac 2)<|dC<|.int 0) ae) "numbers")
  (Aj ad EE))
def Es(ad:Ad)(EE:DX):au:=
 (ao (ia ad.C_Walk (ac 0) (ac 1) "plan")
  (Bw ad EE))
def E3(ad:Ad):Sd:=aK ["self","plan","stand","most"] (Es ad)
theorem u_q7{ad:Ad}{n:Nat}{x0 x1 x2 x3:D}{M:Mem}{Q:DK}{E:DX}:E3 ad [x0,x1,x2,x3] M Q E=Es ad (aw E) { nx:=λ_ M'=>drp Q .non M',rt:=drp Q } [some x0,some x1,some x2,some x3] M:=rfl
def C6(ad:Ad)(EE:DX):au:=
 (cb<|rV "list" cC (dF ad.C_Walk (ac 0) "steps")<|aa (b9<|aa (ac 1)<|aa (ac 2) ae) ae)
def Dd(ad:Ad)(EE:DX):au:=
 (ao (aL (ar<|am oGe (aQ bh<|aa (dF ad.C_Walk (ac 0) "steps") ae)<|dF ad.C_Walk (ac 0) "most") (pE ad.C_Dry EE) aE)
  (C6 ad EE))
def tI(ad:Ad):Sd:=aK ["self","place","number"] (Dd ad)
theorem u_q6{ad:Ad}{n:Nat}{x0 x1 x2:D}{M:Mem}{Q:DK}{E:DX}:tI ad [x0,x1,x2] M Q E=Dd ad (aw E) { nx:=λ_ M'=>drp Q .non M',rt:=drp Q } [some x0,some x1,some x2] M:=rfl
def vq(ad:Ad)(EE:DX):au:=
 (ao (cb<|eh ad.C_Walk "note_step" (tI ad) EE 3 (ac 0)<|aa (ac 1)<|aa (ac 3) ae)
  (aC<|ac 3))
def uH(ad:Ad)(EE:DX):au:=
 (ao (av (Ke (ar<|am cI (am az (dF ad.C_Walk (ac 0) "numbers")<|ac 2)<|dC<|.int 0) (dC<|.int 0)<|dC<|.int 1)<|ah 3)
  (vq ad EE))
def mZ(ad:Ad):Sd:=aK ["self","place","name","seen"] (uH ad)
theorem MH{ad:Ad}{n:Nat}{x0 x1 x2:D}{M:Mem}{Q:DK}{E:DX}:mZ ad [x0,x1,x2] M Q E=uH ad (aw E) { nx:=λ_ M'=>drp Q .non M',rt:=drp Q } [some x0,some x1,some x2,none] M:=rfl
def y8(ad:Ad)(EE:DX):au:=
 (aC<|am dW (ai<|am bj (ac 1)<|ac 2)<|ac 3)
def xE(ad:Ad)(EE:DX):au:=
 (aC<|Ke (ar<|am ub (ac 1)<|ac 2) (dC<|.int 1)<|dC<|.int 0)
def wk(ad:Ad)(EE:DX):au:=
 (aC<|Ke (ar<|am cI (ac 1)<|ac 2) (dC<|.int 1)<|dC<|.int 0)
def xQ(ad:Ad)(EE:DX):au:=
 (ao (aL (ar<|am cI (ac 0)<|dC<|.str "less") (xE ad EE) aE)
  (wk ad EE))
def wm(ad:Ad)(EE:DX):au:=
 (ao (aL (ar<|am cI (ac 0)<|dC<|.str "by") (aC<|am dW (am i8 (ac 1)<|ac 2)<|ac 3) aE)
  (xQ ad EE))
def wC(ad:Ad)(EE:DX):au:=
 (ao (aL (ar<|am cI (ac 0)<|dC<|.str "sum") (y8 ad EE) aE)
  (wm ad EE))
def vX(ad:Ad):Sd:=aK ["word","y","z","wheel"] (wC ad)
theorem Ky{ad:Ad}{n:Nat}{x0 x1 x2 x3:D}{M:Mem}{Q:DK}{E:DX}:vX ad [x0,x1,x2,x3] M Q E=wC ad (aw E) { nx:=λ_ M'=>drp Q .non M',rt:=drp Q } [some x0,some x1,some x2,some x3] M:=rfl
def vB(ad:Ad)(EE:DX):au:=
 (aC<|am dW (am az (ac 1)<|am az (ac 2)<|dC<|.int 2)<|am az (ac 0)<|dC<|.int 2)
def xC(ad:Ad)(EE:DX):au:=
 (ao (aL (ar<|am cI (am az (ac 2)<|dC<|.int 0)<|dC<|.str "pick") (vB ad EE) aE)
  (aC<|dC .non))
def m9(ad:Ad)(EE:DX):au:=
 (ao (aL (ar<|am cI (am az (ac 2)<|dC<|.int 0)<|dC<|.str "take") (aC<|am az (ac 2)<|dC<|.int 2) aE)
  (xC ad EE))
def vF(ad:Ad):Sd:=aK ["plan","numbers","row"] (m9 ad)
theorem xK{ad:Ad}{n:Nat}{x0 x1 x2:D}{M:Mem}{Q:DK}{E:DX}:vF ad [x0,x1,x2] M Q E=m9 ad (aw E) { nx:=λ_ M'=>drp Q .non M',rt:=drp Q } [some x0,some x1,some x2] M:=rfl
def uP(ad:Ad)(EE:DX):au:=
 (aC<|aj (vX ad) EE 4<|aa (am az (ac 3)<|dC<|.int 0)<|aa (am az (ac 1)<|am az (ac 3)<|dC<|.int 2)<|aa (am az (ac 1)<|am az (ac 3)<|dC<|.int 3)<|aa (am az (ac 0)<|dC<|.int 0) ae)
def y9(ad:Ad)(EE:DX):au:=
 (ao (aL (ar<|am AC (ac 4)<|dC .non) (aC<|am az (ac 2)<|ac 4) aE)
  (uP ad EE))
def vw(ad:Ad)(EE:DX):au:=
 (ao (av (ai<|aj (vF ad) EE 3<|aa (ac 0)<|aa (ac 1)<|aa (ac 3) ae)<|ah 4)
  (y9 ad EE))
def lC(ad:Ad)(EE:DX):au:=
 (ao (aL (ar<|am cI (am az (ac 3)<|dC<|.int 0)<|dC<|.str "put") (aC<|am az (ac 3)<|dC<|.int 2) aE)
  (vw ad EE))
def qO(ad:Ad):Sd:=aK ["plan","numbers","pieces","row","piece"] (lC ad)
theorem wZ{ad:Ad}{n:Nat}{x0 x1 x2 x3:D}{M:Mem}{Q:DK}{E:DX}:qO ad [x0,x1,x2,x3] M Q E=lC ad (aw E) { nx:=λ_ M'=>drp Q .non M',rt:=drp Q } [some x0,some x1,some x2,some x3,none] M:=rfl
def uT(ad:Ad)(Sz SD SE SF:Sd)(EE:DX):au:=
 (cb<|aj SD EE 3<|aa (ac 0)<|aa (ac 4)<|aa (am bj (ac 2)<|b9<|aa (ac 3) ae) ae)
def xZ(ad:Ad)(Sz SD SE SF:Sd)(EE:DX):au:=
 (cJ (G5<|aa (ac 1) ae) (cU 2<|aP (ah 3)<|aP (ah 4) cD)<|uT ad Sz SD SE SF EE)
def wU(ad:Ad)(Sz SD SE SF:Sd)(EE:DX):au:=
 (cb<|aj SE EE 3<|aa (ac 0)<|aa (ac 1)<|aa (ac 2) ae)
def wz(ad:Ad)(Sz SD SE SF:Sd)(EE:DX):au:=
 (cb<|aj SF EE 3<|aa (ac 0)<|aa (ac 1)<|aa (ac 2) ae)
def wF(ad:Ad)(Sz SD SE SF:Sd)(EE:DX):au:=
 (av (ac 3)<|fg (dF ad.C_Walk (ac 0) "numbers")<|am az (ac 1)<|dC<|.int 1)
def wV(ad:Ad)(Sz SD SE SF:Sd)(EE:DX):au:=
 (ao (cb<|eh ad.C_Walk "note_step" (tI ad) EE 3 (ac 0)<|aa (ac 2)<|aa (ac 3) ae)
    (wF ad Sz SD SE SF EE))
def uW(ad:Ad)(Sz SD SE SF:Sd)(EE:DX):au:=
 (ao (av (ai<|aj (qO ad) EE 4<|aa (dF ad.C_Walk (ac 0) "plan")<|aa (dF ad.C_Walk (ac 0) "numbers")<|aa (dF ad.C_Walk (ac 0) "pieces")<|aa (ac 1) ae)<|ah 3)
    (wV ad Sz SD SE SF EE))
def xn(ad:Ad)(Sz SD SE SF:Sd)(EE:DX):au:=
 (aL (ar<|am cI (am az (ac 1)<|dC<|.int 0)<|dC<|.str "again") (wz ad Sz SD SE SF EE)<|uW ad Sz SD SE SF EE)
def ij(ad:Ad)(Sz SD SE SF:Sd)(EE:DX):au:=
 (aL (ar<|am cI (am az (ac 1)<|dC<|.int 0)<|dC<|.str "if") (wU ad Sz SD SE SF EE)<|xn ad Sz SD SE SF EE)
def xS(ad:Ad)(Sz SD SE SF:Sd)(EE:DX):au:=
 (cb<|aj Sz EE 3<|aa (ac 0)<|aa (Ke (ar<|am cI (ac 3)<|dC<|.int 1) (am az (ac 1)<|dC<|.int 2)<|am az (ac 1)<|dC<|.int 3)<|aa (am bj (ac 2)<|b9<|aa (ac 3) ae) ae)
def yj(ad:Ad)(Sz SD SE SF:Sd)(EE:DX):au:=
 (ao (av (ai<|eh ad.C_Walk "look" (mZ ad) EE 3 (ac 0)<|aa (ac 2)<|aa (am az (ac 1)<|dC<|.int 1) ae)<|ah 3)
  (xS ad Sz SD SE SF EE))
def vV(ad:Ad)(Sz SD SE SF:Sd)(EE:DX):au:=
 (ao (cb<|aj Sz EE 3<|aa (ac 0)<|aa (am az (ac 1)<|dC<|.int 2)<|aa (am bj (ac 2)<|b9<|aa (ac 3) ae) ae)
   (Ch 3 (dC<|.int 1) A7))
def vi(ad:Ad)(Sz SD SE SF:Sd)(EE:DX):au:=
 (de (ar<|am cI (ai<|eh ad.C_Walk "look" (mZ ad) EE 3 (ac 0)<|aa (am bj (ac 2)<|b9<|aa (ac 3) ae)<|aa (am az (ac 1)<|dC<|.int 1) ae)<|dC<|.int 1)<|vV ad Sz SD SE SF EE)
def wr(ad:Ad)(Sz SD SE SF:Sd)(EE:DX):au:=
 (ao (av (dC<|.int 0)<|ah 3)
  (vi ad Sz SD SE SF EE))
mutual
def Sz(ad:Ad):Nat->Sd
 |0=>λ_ _ _ _=>False
 |n+1=>aK ["walk","rows","place","j","row"] (xZ ad (Sz ad n) (SD ad n) (SE ad n)<|SF ad n)
def SD(ad:Ad):Nat->Sd
 |0=>λ_ _ _ _=>False
 |n+1=>aK ["walk","row","place","number"] (ij ad (Sz ad n) (SD ad n) (SE ad n)<|SF ad n)
def SE(ad:Ad):Nat->Sd
 |0=>λ_ _ _ _=>False
 |n+1=>aK ["walk","row","place","seen"] (yj ad (Sz ad n) (SD ad n) (SE ad n)<|SF ad n)
def SF(ad:Ad):Nat->Sd
 |0=>λ_ _ _ _=>False
 |n+1=>aK ["walk","row","place","turn"] (wr ad (Sz ad n) (SD ad n) (SE ad n)<|SF ad n)
end
theorem Mt{ad:Ad}{n:Nat}{x0 x1 x2:D}{M:Mem}{Q:DK}{E:DX}:Sz ad (n+1) [x0,x1,x2] M Q E=xZ ad (Sz ad n) (SD ad n) (SE ad n) (SF ad n) (aw E) { nx:=λ_ M'=>drp Q .non M',rt:=drp Q } [some x0,some x1,some x2,none,none] M:=rfl
theorem nC{ad:Ad}{n:Nat}{x0 x1 x2:D}{M:Mem}{Q:DK}{E:DX}:SD ad (n+1) [x0,x1,x2] M Q E=ij ad (Sz ad n) (SD ad n) (SE ad n) (SF ad n) (aw E) { nx:=λ_ M'=>drp Q .non M',rt:=drp Q } [some x0,some x1,some x2,none] M:=rfl
theorem L4{ad:Ad}{n:Nat}{x0 x1 x2:D}{M:Mem}{Q:DK}{E:DX}:SE ad (n+1) [x0,x1,x2] M Q E=yj ad (Sz ad n) (SD ad n) (SE ad n) (SF ad n) (aw E) { nx:=λ_ M'=>drp Q .non M',rt:=drp Q } [some x0,some x1,some x2,none] M:=rfl
theorem Lx{ad:Ad}{n:Nat}{x0 x1 x2:D}{M:Mem}{Q:DK}{E:DX}:SF ad (n+1) [x0,x1,x2] M Q E=wr ad (Sz ad n) (SD ad n) (SE ad n) (SF ad n) (aw E) { nx:=λ_ M'=>drp Q .non M',rt:=drp Q } [some x0,some x1,some x2,none] M:=rfl
def y0(ad:Ad)(EE:DX):au:=
 (aC<|b9<|aa (dF ad.C_Walk (ac 3) "steps")<|aa (aQ aJ<|aa (ai<|aW (cX<|am az (ac 0)<|dC<|.int 1) ["name"] [3] (ah 0) bX<|am az (dF ad.C_Walk (ac 1) "numbers")<|ac 0) ae) ae)
def wJ(ad:Ad)(EE:DX):au:=
 (ao (JT ad.C_Dry (Sz ad 24) 3 (aa (ac 3)<|aa (am az (ac 0)<|dC<|.int 3)<|aa (b9 ae) ae)<|aC<|b9<|aa (dF ad.C_Walk (ac 3) "steps")<|aa (dC .non) ae)
  (y0 ad EE))
def xV(ad:Ad)(EE:DX):au:=
 (ao (av (uz ad.C_Walk (E3 ad) EE 4<|aa (ac 0)<|aa (ac 1)<|aa (ac 2) ae)<|ah 3)
  (wJ ad EE))
def ql(ad:Ad):Sd:=aK ["plan","stand","most","walk"] (xV ad)
theorem L_{ad:Ad}{n:Nat}{x0 x1 x2:D}{M:Mem}{Q:DK}{E:DX}:ql ad [x0,x1,x2] M Q E=xV ad (aw E) { nx:=λ_ M'=>drp Q .non M',rt:=drp Q } [some x0,some x1,some x2,none] M:=rfl
def x9(ad:Ad)(EE:DX):au:=
 (aC<|am az (ac 3)<|dTM o8 (am az (ac 0)<|dC<|.int 1)<|aa (am az (ac 0)<|dC<|.int 4) ae)
def x_(ad:Ad)(EE:DX):au:=
 (ao (aL (ar<|am Cb (ac 3)<|dC .non) (aC<|dC .non) aE)
  (x9 ad EE))
def uV(ad:Ad)(EE:DX):au:=
 (ao (av (am az (qa<|aj (ql ad) EE 3<|aa (ac 0)<|aa (ac 1)<|aa (ac 2) ae)<|dC<|.int 1)<|ah 3)
  (x_ ad EE))
def lP(ad:Ad):Sd:=aK ["plan","stand","most","end"] (uV ad)
theorem KM{ad:Ad}{n:Nat}{x0 x1 x2:D}{M:Mem}{Q:DK}{E:DX}:lP ad [x0,x1,x2] M Q E=uV ad (aw E) { nx:=λ_ M'=>drp Q .non M',rt:=drp Q } [some x0,some x1,some x2,none] M:=rfl
def vJ(ad:Ad)(EE:DX):au:=
 (aC<|am bj (ai<|aQ dN<|aa (am az (ac 0)<|dC<|.int 1) ae)<|ai<|g_<|aa (am az (ac 0)<|dC<|.int 2) ae)
def wO(ad:Ad):Sd:=aK ["plan"] (vJ ad)
theorem LW{ad:Ad}{n:Nat}{x0:D}{M:Mem}{Q:DK}{E:DX}:wO ad [x0] M Q E=vJ ad (aw E) { nx:=λ_ M'=>drp Q .non M',rt:=drp Q } [some x0] M:=rfl
def xJ(ad:Ad)(EE:DX):au:=
 (aC<|am az (am az (ac 1)<|dC<|.int 0)<|dTM o8 (am az (ac 0)<|dC<|.int 1)<|aa (ac 2) ae)
def rb(ad:Ad)(EE:DX):au:=
 (ao (aL (bU<|aQ bZ<|aa (ac 2)<|aa (dC<|.ty "str") ae) (xJ ad EE) aE)
  (aC<|am az (am az (ac 1)<|dC<|.int 1)<|ac 2))
def mV(ad:Ad):Sd:=aK ["plan","stand","thing"] (rb ad)
theorem FL{ad:Ad}{n:Nat}{x0 x1 x2:D}{M:Mem}{Q:DK}{E:DX}:mV ad [x0,x1,x2] M Q E=rb ad (aw E) { nx:=λ_ M'=>drp Q .non M',rt:=drp Q } [some x0,some x1,some x2] M:=rfl
def jY(ad:Ad)(SG SH:Sd)(EE:DX):au:=
 (aC<|iW (aQ bZ<|aa (ac 0)<|aa (dC<|.ty "tuple") ae)<|ai<|aj SH EE 2<|aa (ac 0)<|aa (ac 1) ae)
def k9(ad:Ad)(SG SH:Sd)(EE:DX):au:=
 (aC<|iW (aQ bZ<|aa (ac 0)<|aa (dC<|.ty "list") ae)<|ai<|aj SH EE 2<|aa (ac 0)<|aa (ac 1) ae)
def jV(ad:Ad)(SG SH:Sd)(EE:DX):au:=
 (aC<|iW (am cI (aQ bZ<|aa (ac 0)<|aa (dC<|.ty "bool") ae)<|aQ bZ<|aa (ac 1)<|aa (dC<|.ty "bool") ae)<|am cI (ac 0)<|ac 1)
def jF(ad:Ad)(SG SH:Sd)(EE:DX):au:=
 (ao (aL (bU<|aQ bZ<|aa (ac 1)<|aa (dC<|.ty "list") ae) (k9 ad SG SH EE) aE)
  (jV ad SG SH EE))
def rq(ad:Ad)(SG SH:Sd)(EE:DX):au:=
 (ao (aL (bU<|aQ bZ<|aa (ac 1)<|aa (dC<|.ty "tuple") ae) (jY ad SG SH EE) aE)
  (jF ad SG SH EE))
def jK(ad:Ad)(SG SH:Sd)(EE:DX):au:=
 (aC<|aQ tG<|aa (ai<|aW (t_<|aa (ac 0)<|aa (ac 1) ae) ["thing","one"] [] (cU 2<|aP (ah 0)<|aP (ah 1) cD) bX<|ai<|aj SG iF 2<|aa (ac 0)<|aa (ac 1) ae) ae)
def vP(ad:Ad)(SG SH:Sd)(EE:DX):au:=
 (ao (aL (ar<|am iX (aQ bh<|aa (ac 0) ae)<|aQ bh<|aa (ac 1) ae) (aC<|dC<|.bl false) aE)
  (jK ad SG SH EE))
mutual
def SG(ad:Ad):Nat->Sd
 |0=>λ_ _ _ _=>False
 |n+1=>aK ["thing","told"] (rq ad (SG ad n)<|SH ad n)
def SH(ad:Ad):Nat->Sd
 |0=>λ_ _ _ _=>False
 |n+1=>aK ["things","told"] (vP ad (SG ad n)<|SH ad n)
end
theorem Gi{ad:Ad}{n:Nat}{x0 x1:D}{M:Mem}{Q:DK}{E:DX}:SG ad (n+1) [x0,x1] M Q E=rq ad (SG ad n) (SH ad n) (aw E) { nx:=λ_ M'=>drp Q .non M',rt:=drp Q } [some x0,some x1] M:=rfl
theorem MA{ad:Ad}{n:Nat}{x0 x1:D}{M:Mem}{Q:DK}{E:DX}:SH ad (n+1) [x0,x1] M Q E=vP ad (SG ad n) (SH ad n) (aw E) { nx:=λ_ M'=>drp Q .non M',rt:=drp Q } [some x0,some x1] M:=rfl
def vM(ad:Ad)(EE:DX):au:=
 (aC<|aW (cX<|ai<|aj (wO ad) EE 1<|aa (ac 0) ae) ["thing"] [0,2,1] (ah 0) (ar<|am iX (ai<|aj (mV ad) iF 3<|aa (ac 1)<|aa (ac 3)<|aa (ac 0) ae)<|ai<|aj (mV ad) iF 3<|aa (ac 1)<|aa (ac 2)<|aa (ac 0) ae)<|ac 0)
def xc(ad:Ad):Sd:=aK ["plan","one","other"] (vM ad)
theorem LM{ad:Ad}{n:Nat}{x0 x1 x2:D}{M:Mem}{Q:DK}{E:DX}:xc ad [x0,x1,x2] M Q E=vM ad (aw E) { nx:=λ_ M'=>drp Q .non M',rt:=drp Q } [some x0,some x1,some x2] M:=rfl
def pF(ad:Ad)(EE:DX):au:=
 (ao (aL (ar<|am cI (ac 1)<|ac 2) (pE ad.C_NoCase EE) aE)
  (aC<|b9<|aa (ac 1)<|aa (ac 2) ae))
def jQ(ad:Ad)(EE:DX):au:=
 (ao (aL (mz (ar<|am Cb (ac 1)<|dC .non)<|ar<|am Cb (ac 2)<|dC .non) (pE ad.C_NoCase EE) aE)
  (pF ad EE))
def oP(ad:Ad)(EE:DX):au:=
 (ao (av (ai<|aj (lP ad) EE 3<|aa (am az (ac 0)<|dC<|.int 0)<|aa (am az (ac 0)<|dC<|.int 2)<|aa (am az (ac 0)<|dC<|.int 3) ae)<|ah 2)
  (jQ ad EE))
def uF(ad:Ad)(EE:DX):au:=
 (ao (av (ai<|aj (lP ad) EE 3<|aa (am az (ac 0)<|dC<|.int 0)<|aa (am az (ac 0)<|dC<|.int 1)<|aa (am az (ac 0)<|dC<|.int 3) ae)<|ah 1)
  (oP ad EE))
def w_(ad:Ad):Sd:=aK ["case","sound","faulty"] (uF ad)
theorem Li{ad:Ad}{n:Nat}{x0:D}{M:Mem}{Q:DK}{E:DX}:w_ ad [x0] M Q E=uF ad (aw E) { nx:=λ_ M'=>drp Q .non M',rt:=drp Q } [some x0,none,none] M:=rfl
def v_(ad:Ad)(EE:DX):au:=
 (aC<|aj (xc ad) EE 3<|aa (am az (ac 0)<|dC<|.int 0)<|aa (am az (ac 0)<|dC<|.int 1)<|aa (am az (ac 0)<|dC<|.int 2) ae)
def xh(ad:Ad):Sd:=aK ["case"] (v_ ad)
theorem Mh{ad:Ad}{n:Nat}{x0:D}{M:Mem}{Q:DK}{E:DX}:xh ad [x0] M Q E=v_ ad (aw E) { nx:=λ_ M'=>drp Q .non M',rt:=drp Q } [some x0] M:=rfl
def qI(ad:Ad)(EE:DX):au:=
 (aC<|iW (aQ bZ<|aa (ac 1)<|aa (dC<|.ty "list") ae)<|ai<|aj (SG ad 24) EE 2<|aa (ac 1)<|aa (ai<|aW (cX<|ac 0) ["one"] [1] (ah 0) (ar<|am uu (ac 0)<|ac 1)<|ac 0) ae)
def i_(ad:Ad):Sd:=aK ["things","thing"] (qI ad)
theorem FO{ad:Ad}{n:Nat}{x0 x1:D}{M:Mem}{Q:DK}{E:DX}:i_ ad [x0,x1] M Q E=qI ad (aw E) { nx:=λ_ M'=>drp Q .non M',rt:=drp Q } [some x0,some x1] M:=rfl
def xY(ad:Ad)(EE:DX):au:=
 (aC<|aj (mV ad) EE 3<|aa (am az (ac 0)<|dC<|.int 0)<|aa (Ke (ar<|am uu (ac 2)<|ac 1) (am az (ac 0)<|dC<|.int 2)<|am az (ac 0)<|dC<|.int 1)<|aa (ac 2) ae)
def nJ(ad:Ad):Sd:=aK ["case","mix","thing"] (xY ad)
theorem Ks{ad:Ad}{n:Nat}{x0 x1 x2:D}{M:Mem}{Q:DK}{E:DX}:nJ ad [x0,x1,x2] M Q E=xY ad (aw E) { nx:=λ_ M'=>drp Q .non M',rt:=drp Q } [some x0,some x1,some x2] M:=rfl
def gz(ad:Ad)(EE:DX):au:=
 (aC<|b9<|aa (aQ aJ<|aa (ai<|aW (cX<|ac 2) ["name"] [1,0] (ah 0) bX<|ai<|aj (nJ ad) iF 3<|aa (ac 2)<|aa (ac 1)<|aa (ac 0) ae) ae)<|aa (aQ aJ<|aa (ai<|aW (cX<|ac 3) ["piece"] [1,0] (ah 0) bX<|ai<|aj (nJ ad) iF 3<|aa (ac 2)<|aa (ac 1)<|aa (ac 0) ae) ae) ae)
def oO(ad:Ad)(EE:DX):au:=
 (ao (av (ai<|g_<|aa (am az (am az (ac 0)<|dC<|.int 0)<|dC<|.int 2) ae)<|ah 3)
  (gz ad EE))
def ye(ad:Ad)(EE:DX):au:=
 (ao (av (am az (am az (ac 0)<|dC<|.int 0)<|dC<|.int 1)<|ah 2)
  (oO ad EE))
def vQ(ad:Ad):Sd:=aK ["case","mix","names","pieces"] (ye ad)
theorem Kx{ad:Ad}{n:Nat}{x0 x1:D}{M:Mem}{Q:DK}{E:DX}:vQ ad [x0,x1] M Q E=ye ad (aw E) { nx:=λ_ M'=>drp Q .non M',rt:=drp Q } [some x0,some x1,none,none] M:=rfl
def uR(ad:Ad)(EE:DX):au:=
 (ao (aL (ar<|am cI (ac 1)<|am az (ac 0)<|dC<|.int 1) (aC<|dC<|.str "faulty") aE)
  (aC<|dC<|.str "other"))
def qy(ad:Ad)(EE:DX):au:=
 (ao (aL (ar<|am cI (ac 1)<|am az (ac 0)<|dC<|.int 0) (aC<|dC<|.str "sound") aE)
  (uR ad EE))
def xm(ad:Ad):Sd:=aK ["two","one"] (qy ad)
theorem Gz{ad:Ad}{n:Nat}{x0 x1:D}{M:Mem}{Q:DK}{E:DX}:xm ad [x0,x1] M Q E=qy ad (aw E) { nx:=λ_ M'=>drp Q .non M',rt:=drp Q } [some x0,some x1] M:=rfl
def ur(ad:Ad)(EE:DX):au:=
 (ao (ia ad.C_Askings (ac 0) (ai<|aj (w_ ad) EE 1<|aa (ac 1) ae) "two")
  (ia ad.C_Askings (ac 0) qJ "told"))
def EN(ad:Ad)(EE:DX):au:=
 (ao (ia ad.C_Askings (ac 0) (ac 1) "case")
  (ur ad EE))
def DZ(ad:Ad):Sd:=aK ["self","case"] (EN ad)
theorem u_q1{ad:Ad}{n:Nat}{x0 x1:D}{M:Mem}{Q:DK}{E:DX}:DZ ad [x0,x1] M Q E=EN ad (aw E) { nx:=λ_ M'=>drp Q .non M',rt:=drp Q } [some x0,some x1] M:=rfl
def ka(ad:Ad)(EE:DX):au:=
 (av (ai<|aj (xm ad) EE 2<|aa (dF ad.C_Askings (ac 0) "two")<|aa (ai<|aj (lP ad) EE 3<|aa (am az (dF ad.C_Askings (ac 0) "case")<|dC<|.int 0)<|aa (ai<|aj (vQ ad) EE 2<|aa (dF ad.C_Askings (ac 0) "case")<|aa (ac 1) ae)<|aa (am az (dF ad.C_Askings (ac 0) "case")<|dC<|.int 3) ae) ae)<|fg (dF ad.C_Askings (ac 0) "told")<|aQ aJ<|aa (ac 1) ae)
def ii(ad:Ad)(EE:DX):au:=
 (aC<|am az (dF ad.C_Askings (ac 0) "told")<|aQ aJ<|aa (ac 1) ae)
def uI(ad:Ad)(EE:DX):au:=
 (ao (aL (ar<|am k_ (aQ aJ<|aa (ac 1) ae)<|dF ad.C_Askings (ac 0) "told") (ka ad EE) aE)
  (ii ad EE))
def lD(ad:Ad):Sd:=aK ["self","mix"] (uI ad)
theorem Kj{ad:Ad}{n:Nat}{x0 x1:D}{M:Mem}{Q:DK}{E:DX}:lD ad [x0,x1] M Q E=uI ad (aw E) { nx:=λ_ M'=>drp Q .non M',rt:=drp Q } [some x0,some x1] M:=rfl
def M9(ad:Ad)(EE:DX):au:=
 (cb<|aj (FH ad) EE 1<|aa (dC<|.int 0) ae)
def S_q2(ad:Ad):Sd:=aK ["self","mix"] (M9 ad)
theorem u_q2{ad:Ad}{n:Nat}{x0 x1:D}{M:Mem}{Q:DK}{E:DX}:S_q2 ad [x0,x1] M Q E=M9 ad (aw E) { nx:=λ_ M'=>drp Q .non M',rt:=drp Q } [some x0,some x1] M:=rfl
def CV(ad:Ad)(EE:DX):au:=
 (aC<|aW (bR<|aa (aQ bh<|aa (ac 0) ae) ae) ["at"] [0] (ah 0) bX<|ai<|am bj (ai<|gn (ac 1) aU<|br<|ac 0)<|ai<|gn (ac 1) (br<|am bj (ac 0)<|dC<|.int 1) aU)
def DH(ad:Ad):Sd:=aK ["mix"] (CV ad)
theorem u_q9{ad:Ad}{n:Nat}{x0:D}{M:Mem}{Q:DK}{E:DX}:DH ad [x0] M Q E=CV ad (aw E) { nx:=λ_ M'=>drp Q .non M',rt:=drp Q } [some x0] M:=rfl
def uL(ad:Ad)(EE:DX):au:=
 (aC<|iW (aQ bZ<|aa (ac 1)<|aa (dC<|.ty "tuple") ae)<|iW (am cI (aQ bh<|aa (ac 1) ae)<|dC<|.int 2)<|ai<|aj (i_ ad) EE 2<|aa (ac 0)<|aa (am az (ac 1)<|dC<|.int 0) ae)
def uY(ad:Ad):Sd:=aK ["things","thing"] (uL ad)
theorem LD{ad:Ad}{n:Nat}{x0 x1:D}{M:Mem}{Q:DK}{E:DX}:uY ad [x0,x1] M Q E=uL ad (aw E) { nx:=λ_ M'=>drp Q .non M',rt:=drp Q } [some x0,some x1] M:=rfl
def p7(ad:Ad)(EE:DX):au:=
 (aC<|aQ tG<|aa (ai<|aW (cX<|am az (ac 1)<|dC<|.int 0) ["part"] [0] (ah 0) bX<|ai<|aj (uY ad) iF 2<|aa (ac 1)<|aa (ac 0) ae) ae)
def oQ(ad:Ad)(EE:DX):au:=
 (ao (aL (mz (ar<|am cI (aQ bh<|aa (am az (ac 1)<|dC<|.int 0) ae)<|dC<|.int 0)<|dk<|bU<|ai<|aj (i_ ad) EE 2<|aa (ac 0)<|aa (am az (ac 1)<|dC<|.int 1) ae) (aC<|dC<|.bl false) aE)
  (p7 ad EE))
def Bk(ad:Ad)(EE:DX):au:=
 (ao (aL (mz (dk<|bU<|aQ bZ<|aa (ac 1)<|aa (dC<|.ty "tuple") ae)<|mz (ar<|am iX (aQ bh<|aa (ac 1) ae)<|dC<|.int 2)<|dk<|bU<|aQ bZ<|aa (am az (ac 1)<|dC<|.int 0)<|aa (dC<|.ty "list") ae) (aC<|dC<|.bl false) aE)
  (oQ ad EE))
def zP(ad:Ad):Sd:=aK ["things","thing"] (Bk ad)
theorem LO{ad:Ad}{n:Nat}{x0 x1:D}{M:Mem}{Q:DK}{E:DX}:zP ad [x0,x1] M Q E=Bk ad (aw E) { nx:=λ_ M'=>drp Q .non M',rt:=drp Q } [some x0,some x1] M:=rfl
def jR(ad:Ad)(EE:DX):au:=
 (aC<|aQ tG<|aa (ai<|aW (cX<|am az (ac 1)<|dC<|.int 0) ["mix","verdict"] [2] (cU 2<|aP (ah 0)<|aP (ah 1) cD) bX<|am cI (ai<|eh ad.C_Askings "ask" (lD ad) iF 2 (ac 2)<|aa (ac 0) ae)<|ac 1) ae)
def ik(ad:Ad)(EE:DX):au:=
 (ao (aL (bU<|aQ CY<|aa (ai<|aW (cX<|ai<|aj (DH ad) EE 1<|aa (am az (ac 1)<|dC<|.int 1) ae) ["less"] [4] (ah 0) bX<|am cI (qf (ac 1) (aQ aJ<|aa (ac 0) ae)<|dC<|.str "faulty")<|dC<|.str "faulty") ae) (aC<|dC<|.bl false) aE)
  (jR ad EE))
def ie(ad:Ad)(EE:DX):au:=
 (ao (aL (ar<|am iX (rf (ac 4)<|aQ aJ<|aa (am az (ac 1)<|dC<|.int 1) ae)<|dC<|.str "faulty") (aC<|dC<|.bl false) aE)
  (ik ad EE))
def oJ(ad:Ad)(EE:DX):au:=
 (ao (aL (mz (ar<|am iX (aQ ng<|aa (ac 4) ae)<|aQ bh<|aa (am az (ac 1)<|dC<|.int 0) ae)<|dk<|bU<|ai<|aj (SG ad 24) EE 2<|aa (am az (am az (am az (ac 1)<|dC<|.int 0)<|dC<|.int 0)<|dC<|.int 0)<|aa (ac 3) ae) (aC<|dC<|.bl false) aE)
  (ie ad EE))
def gY(ad:Ad)(EE:DX):au:=
 (ao (av (aQ pI<|aa (ai<|aW (cX<|am az (ac 1)<|dC<|.int 0) ["mix","verdict"] [] (cU 2<|aP (ah 0)<|aP (ah 1) cD) bX<|b9<|aa (aQ aJ<|aa (ac 0) ae)<|aa (ac 1) ae) ae)<|ah 4)
  (oJ ad EE))
def jE(ad:Ad)(EE:DX):au:=
 (ao (aL (dk<|bU<|ai<|aj (zP ad) EE 2<|aa (ac 3)<|aa (ac 1) ae) (aC<|dC<|.bl false) aE)
  (gY ad EE))
def fR(ad:Ad)(EE:DX):au:=
 (ao (av (ai<|aj (xh ad) EE 1<|aa (ac 0) ae)<|ah 3)
  (jE ad EE))
def qM(ad:Ad)(EE:DX):au:=
 (ao (av (uz ad.C_Askings (DZ ad) EE 2<|aa (ac 0) ae)<|ah 2)
  (fR ad EE))
def lX(ad:Ad):Sd:=aK ["case","thing","askings","things","told"] (qM ad)
theorem FI{ad:Ad}{n:Nat}{x0 x1:D}{M:Mem}{Q:DK}{E:DX}:lX ad [x0,x1] M Q E=qM ad (aw E) { nx:=λ_ M'=>drp Q .non M',rt:=drp Q } [some x0,some x1,none,none,none] M:=rfl
def vO(ad:Ad)(EE:DX):au:=
 (aC<|bn<|aa (aQ dN<|aa (ai<|gn (ac 0) aU<|br<|dC<|.int 63) ae)<|aa (dC<|.int 0)<|aa (dC<|.int 0) ae)
def uN(ad:Ad):Sd:=aK ["_law_script"] (vO ad)
theorem Ly{ad:Ad}{n:Nat}{x0:D}{M:Mem}{Q:DK}{E:DX}:uN ad [x0] M Q E=vO ad (aw E) { nx:=λ_ M'=>drp Q .non M',rt:=drp Q } [some x0] M:=rfl
def xI(ad:Ad)(EE:DX):au:=
 (ao (av (am rg (am az (ac 0)<|dC<|.int 2)<|ac 1)<|fg (ac 0)<|dC<|.int 2)
   (aC<|ac 2))
def ve(ad:Ad)(EE:DX):au:=
 (ao (av (am dW (am az (ac 0)<|dC<|.int 2)<|ac 1)<|ah 2)
   (xI ad EE))
def o9(ad:Ad)(EE:DX):au:=
 (av (am az (am az (ac 0)<|dC<|.int 0)<|am dW (ac 3)<|aQ bh<|aa (am az (ac 0)<|dC<|.int 0) ae)<|ah 4)
def ir(ad:Ad)(EE:DX):au:=
 (ao (av (am rg (ac 4)<|ac 1)<|fg (ac 0)<|dC<|.int 2)
   (aC<|am dW (ac 4)<|ac 1))
def vj(ad:Ad)(EE:DX):au:=
 (aC<|am dW (am rg (ac 5)<|dC<|.int 8)<|ac 1)
def vH(ad:Ad)(EE:DX):au:=
 (ao (av (am dW (am bj (am bj (am i8 (ac 5)<|ac 5)<|am i8 (dC<|.int 48271)<|ac 3)<|am dW (ac 4)<|dC<|.int 65537)<|dC<|.int 2147483629)<|ah 5)
  (vj ad EE))
def eU(ad:Ad)(EE:DX):au:=
 (ao (av (am dW (am i8 (am bj (am dW (ac 4)<|dC<|.int 1000003)<|dC<|.int 1)<|am bj (am bj (am i8 (am i8 (dC<|.int 7919)<|ac 3)<|ac 3)<|am i8 (dC<|.int 104729)<|ac 3)<|dC<|.int 12345)<|dC<|.int 2147483647)<|ah 5)
  (vH ad EE))
def gO(ad:Ad)(EE:DX):au:=
 (ao (aL (jp (ar<|am ub (ac 3)<|aQ bh<|aa (am az (ac 0)<|dC<|.int 0) ae)<|ar<|am oGe (ac 4)<|am KI (dC<|.int 10)<|dC<|.int 18) (ir ad EE) aE)
  (eU ad EE))
def gX(ad:Ad)(EE:DX):au:=
 (ao (aL (ar<|am yU (aQ bh<|aa (am az (ac 0)<|dC<|.int 0) ae)<|dC<|.int 0) (o9 ad EE) aE)
  (gO ad EE))
def lF(ad:Ad)(EE:DX):au:=
 (ao (av (dC<|.int 0)<|ah 4)
  (gX ad EE))
def kT(ad:Ad)(EE:DX):au:=
 (ao (av (am bj (ac 3)<|dC<|.int 1)<|fg (ac 0)<|dC<|.int 1)
  (lF ad EE))
def fE(ad:Ad)(EE:DX):au:=
 (ao (av (am az (ac 0)<|dC<|.int 1)<|ah 3)
  (kT ad EE))
def wI(ad:Ad)(EE:DX):au:=
 (ao (aL (ar<|am yU (am az (ac 0)<|dC<|.int 2)<|dC<|.int 0) (ve ad EE) aE)
  (fE ad EE))
def aX(ad:Ad):Sd:=aK ["_law_tape_here","_law_many","_law_digit","_law_at","_law_cell","_law_mixed"] (wI ad)
theorem MD{ad:Ad}{n:Nat}{x0 x1:D}{M:Mem}{Q:DK}{E:DX}:aX ad [x0,x1] M Q E=wI ad (aw E) { nx:=λ_ M'=>drp Q .non M',rt:=drp Q } [some x0,some x1,none,none,none,none] M:=rfl
def vt(ad:Ad)(EE:DX):au:=
 (aC<|gn (ac 1) aU<|br<|am bj (dC<|.int 1)<|ai<|aj (aX ad) EE 2<|aa (ac 0)<|aa (dC<|.int 5) ae)
def w4(ad:Ad)(EE:DX):au:=
 (ao (av (ai<|am bj (ai<|gn (ac 1) (br<|ac 2) aU)<|ai<|gn (ac 1) aU<|br<|ac 2)<|ah 1)
  (vt ad EE))
def xL(ad:Ad)(EE:DX):au:=
 (ao (av (ai<|aj (aX ad) EE 2<|aa (ac 0)<|aa (dC<|.int 5) ae)<|ah 2)
  (w4 ad EE))
def wj(ad:Ad)(EE:DX):au:=
 (ao (av (am az (ai<|bn<|aa (ai<|bn<|aa (dC<|.str "a")<|aa (dC<|.str "b")<|aa (dC<|.str "c")<|aa (dC<|.str "d")<|aa (dC<|.str "e") ae)<|aa (ai<|bn<|aa (dC<|.str "x")<|aa (dC<|.str "xx")<|aa (dC<|.str "xxx")<|aa (dC<|.str "xxxx")<|aa (dC<|.str "xxxxx") ae)<|aa (ai<|bn<|aa (dC<|.str "if")<|aa (dC<|.str "end")<|aa (dC<|.str "else")<|aa (dC<|.str "piece")<|aa (dC<|.str "pick") ae)<|aa (ai<|bn<|aa (dC<|.str "mark")<|aa (dC<|.str "again")<|aa (dC<|.str "names")<|aa (dC<|.str "plan")<|aa (dC<|.str "wheel") ae) ae)<|ai<|aj (aX ad) EE 2<|aa (ac 0)<|aa (dC<|.int 4) ae)<|ah 1)
  (xL ad EE))
def vm(ad:Ad):Sd:=aK ["_law_tape_here","_law_all","_law_turn"] (wj ad)
theorem MM{ad:Ad}{n:Nat}{x0:D}{M:Mem}{Q:DK}{E:DX}:vm ad [x0] M Q E=wj ad (aw E) { nx:=λ_ M'=>drp Q .non M',rt:=drp Q } [some x0,none,none] M:=rfl
def wX(ad:Ad)(EE:DX):au:=
 (aC<|b9<|aa (am az (ai<|bn<|aa (dC<|.str "sum")<|aa (dC<|.str "sum")<|aa (dC<|.str "by")<|aa (dC<|.str "less")<|aa (dC<|.str "same") ae)<|am dW (ac 6)<|dC<|.int 5)<|aa (ac 3)<|aa (ac 4)<|aa (ac 5) ae)
def uU(ad:Ad)(EE:DX):au:=
 (aC<|b9<|aa (dC<|.str "pick")<|aa (ac 3)<|aa (ac 4) ae)
def uM(ad:Ad)(EE:DX):au:=
 (aC<|b9<|aa (dC<|.str "take")<|aa (ac 3)<|aa (aj (aX ad) EE 2<|aa (ac 0)<|aa (am az (ac 1)<|dC<|.str "many") ae) ae)
def ww(ad:Ad)(EE:DX):au:=
 (ao (aL (ar<|am cI (ac 6)<|dC<|.int 2) (uU ad EE) aE)
   (uM ad EE))
def vg(ad:Ad)(EE:DX):au:=
 (aC<|b9<|aa (dC<|.str "put")<|aa (ac 3)<|aa (aj (aX ad) EE 2<|aa (ac 0)<|aa (am az (ac 1)<|dC<|.str "wheel") ae) ae)
def wN(ad:Ad)(EE:DX):au:=
 (ao (aL (jp (ar<|am yU (ac 6)<|dC<|.int 1)<|ar<|am yU (am az (ac 1)<|dC<|.str "many")<|dC<|.int 0) (ww ad EE) aE)
  (vg ad EE))
def wW(ad:Ad)(EE:DX):au:=
 (ao (aL (ar<|am yU (ac 6)<|dC<|.int 6) (wX ad EE) aE)
  (wN ad EE))
def xa(ad:Ad)(EE:DX):au:=
 (ao (av (ai<|aj (aX ad) EE 2<|aa (ac 0)<|aa (dC<|.int 11) ae)<|ah 6)
  (wW ad EE))
def uJ(ad:Ad)(EE:DX):au:=
 (ao (av (ai<|aW (bR<|aa (dC<|.int 3) ae) ["_law_k"] [0,2] (ah 0) bX<|am az (ac 2)<|ai<|aj (aX ad) iF 2<|aa (ac 1)<|aa (aQ bh<|aa (ac 2) ae) ae)<|BC 3<|aP (ah 3)<|aP (ah 4)<|aP (ah 5) cD)
  (xa ad EE))
def xo(ad:Ad)(EE:DX):au:=
 (ao (av (am az (ac 1)<|dC<|.str "names")<|ah 2)
  (uJ ad EE))
def vx(ad:Ad):Sd:=aK ["_law_tape_here","_law_frame","_law_some","_law_x","_law_y","_law_z","_law_way"] (xo ad)
theorem Lm{ad:Ad}{n:Nat}{x0 x1:D}{M:Mem}{Q:DK}{E:DX}:vx ad [x0,x1] M Q E=xo ad (aw E) { nx:=λ_ M'=>drp Q .non M',rt:=drp Q } [some x0,some x1,none,none,none,none,none] M:=rfl
def wY(ad:Ad)(Sw SA:Sd)(EE:DX):au:=
 (aC<|bn<|aa (b9<|aa (dC<|.str "again")<|aa (ac 4)<|aa (aQ aJ<|aa (ac 7) ae) ae) ae)
def wb(ad:Ad)(Sw SA:Sd)(EE:DX):au:=
 (aC<|bn<|aa (b9<|aa (dC<|.str "again")<|aa (ac 4)<|aa (aQ aJ<|aa (ai<|am bj (ac 7)<|ai<|bn<|aa (b9<|aa (dC<|.str "put")<|aa (ac 4)<|aa (dC<|.int 0) ae) ae) ae) ae) ae)
def xP(ad:Ad)(Sw SA:Sd)(EE:DX):au:=
 (aC<|am bj (ac 8)<|ai<|bn<|aa (b9<|aa (dC<|.str "put")<|aa (ac 5)<|aa (am iP (am az (ac 1)<|dC<|.str "wheel")<|dC<|.int 1) ae)<|aa (b9<|aa (dC<|.str "again")<|aa (ac 4)<|aa (aQ aJ<|aa (ai<|am bj (ac 7)<|ai<|bn<|aa (b9<|aa (dC<|.str "sum")<|aa (ac 4)<|aa (ac 4)<|aa (ac 5) ae) ae) ae) ae) ae)
def x8(ad:Ad)(Sw SA:Sd)(EE:DX):au:=
 (ao (av (ai<|am Bg (bn<|aa (b9<|aa (dC<|.str "put")<|aa (ac 4)<|aa (aj (aX ad) EE 2<|aa (ac 0)<|aa (aQ Eu<|aa (dC<|.int 4)<|aa (am az (ac 1)<|dC<|.str "wheel") ae) ae) ae) ae)<|aQ qX<|aa (am cI (ac 6)<|dC<|.int 2) ae)<|ah 8)
  (xP ad Sw SA EE))
def wy(ad:Ad)(Sw SA:Sd)(EE:DX):au:=
 (ao (aL (mz (ar<|am cI (ac 6)<|dC<|.int 1)<|ar<|am cI (ac 4)<|ac 5) (wb ad Sw SA EE) aE)
  (x8 ad Sw SA EE))
def uZ(ad:Ad)(Sw SA:Sd)(EE:DX):au:=
 (ao (aL (ar<|am cI (ac 6)<|dC<|.int 0) (wY ad Sw SA EE) aE)
  (wy ad Sw SA EE))
def y6(ad:Ad)(Sw SA:Sd)(EE:DX):au:=
 (ao (av (ai<|aj SA EE 4<|aa (ac 0)<|aa (ac 1)<|aa (ai<|aj (aX ad) EE 2<|aa (ac 0)<|aa (dC<|.int 3) ae)<|aa (am iP (ac 2)<|dC<|.int 1) ae)<|ah 7)
  (uZ ad Sw SA EE))
def xp(ad:Ad)(Sw SA:Sd)(EE:DX):au:=
 (ao (av (ai<|aj (aX ad) EE 2<|aa (ac 0)<|aa (dC<|.int 4) ae)<|ah 6)
  (y6 ad Sw SA EE))
def yb(ad:Ad)(Sw SA:Sd)(EE:DX):au:=
 (ao (av (ai<|aW (bR<|aa (dC<|.int 2) ae) ["_law_k"] [0,3] (ah 0) bX<|am az (ac 2)<|ai<|aj (aX ad) iF 2<|aa (ac 1)<|aa (aQ bh<|aa (ac 2) ae) ae)<|BC 2<|aP (ah 4)<|aP (ah 5) cD)
  (xp ad Sw SA EE))
def xD(ad:Ad)(Sw SA:Sd)(EE:DX):au:=
 (ao (av (am az (ac 1)<|dC<|.str "names")<|ah 3)
  (yb ad Sw SA EE))
def Aw(ad:Ad)(Sw SA:Sd)(EE:DX):au:=
 (cb<|rV "list" oy (ac 4)<|aa (ai<|aj Sw EE 3<|aa (ac 0)<|aa (ac 1)<|aa (ac 3) ae) ae)
def BK(ad:Ad)(Sw SA:Sd)(EE:DX):au:=
 (cb<|rV "list" cC (ac 4)<|aa (b9<|aa (dC<|.str "if")<|aa (ac 8)<|aa (aQ aJ<|aa (ac 9) ae)<|aa (aQ aJ<|aa (ac 10) ae) ae) ae)
def BN(ad:Ad)(Sw SA:Sd)(EE:DX):au:=
 (ao (av (ai<|aj SA EE 4<|aa (ac 0)<|aa (ac 1)<|aa (ai<|aj (aX ad) EE 2<|aa (ac 0)<|aa (dC<|.int 3) ae)<|aa (am iP (ac 3)<|dC<|.int 1) ae)<|ah 10)
     (BK ad Sw SA EE))
def AJ(ad:Ad)(Sw SA:Sd)(EE:DX):au:=
 (ao (av (ai<|aj SA EE 4<|aa (ac 0)<|aa (ac 1)<|aa (ai<|aj (aX ad) EE 2<|aa (ac 0)<|aa (dC<|.int 3) ae)<|aa (am iP (ac 3)<|dC<|.int 1) ae)<|ah 9)
     (BN ad Sw SA EE))
def BJ(ad:Ad)(Sw SA:Sd)(EE:DX):au:=
 (ao (av (am az (ac 7)<|ai<|aj (aX ad) EE 2<|aa (ac 0)<|aa (aQ bh<|aa (ac 7) ae) ae)<|ah 8)
     (AJ ad Sw SA EE))
def zM(ad:Ad)(Sw SA:Sd)(EE:DX):au:=
 (ao (av (am az (ac 1)<|dC<|.str "names")<|ah 7)
     (BJ ad Sw SA EE))
def o4(ad:Ad)(Sw SA:Sd)(EE:DX):au:=
 (cb<|rV "list" cC (ac 4)<|aa (ai<|aj (vx ad) EE 2<|aa (ac 0)<|aa (ac 1) ae) ae)
def sF(ad:Ad)(Sw SA:Sd)(EE:DX):au:=
 (aL (jp (ar<|am yU (ac 3)<|dC<|.int 0)<|jp (ar<|am yU (am az (ac 1)<|dC<|.str "left")<|dC<|.int 0)<|ar<|am ub (ac 6)<|dC<|.int 3) (zM ad Sw SA EE)<|o4 ad Sw SA EE)
def p8(ad:Ad)(Sw SA:Sd)(EE:DX):au:=
 (aL (jp (ar<|am yU (ac 3)<|dC<|.int 0)<|jp (ar<|am yU (am az (ac 1)<|dC<|.str "left")<|dC<|.int 0)<|ar<|am cI (ac 6)<|dC<|.int 0) (Aw ad Sw SA EE)<|sF ad Sw SA EE)
def wl(ad:Ad)(Sw SA:Sd)(EE:DX):au:=
 (ao (av (ai<|aj (aX ad) EE 2<|aa (ac 0)<|aa (dC<|.int 7) ae)<|ah 6)
   (p8 ad Sw SA EE))
def yf(ad:Ad)(Sw SA:Sd)(EE:DX):au:=
 (ao (av (am iP (am az (ac 1)<|dC<|.str "left")<|dC<|.int 4)<|fg (ac 1)<|dC<|.str "left")
   (wl ad Sw SA EE))
def vT(ad:Ad)(Sw SA:Sd)(EE:DX):au:=
 (ao (cJ (bR<|aa (ac 2) ae) (ah 5)<|yf ad Sw SA EE)
  (aC<|ac 4))
def EZ(ad:Ad)(Sw SA:Sd)(EE:DX):au:=
 (ao (av (bn ae)<|ah 4)
  (vT ad Sw SA EE))
mutual
def Sw(ad:Ad):Nat->Sd
 |0=>λ_ _ _ _=>False
 |n+1=>aK ["_law_tape_here","_law_frame","_law_deep","_law_some","_law_c","_law_d","_law_way","_law_body","_law_first"] (xD ad (Sw ad n)<|SA ad n)
def SA(ad:Ad):Nat->Sd
 |0=>λ_ _ _ _=>False
 |n+1=>aK ["_law_tape_here","_law_frame","_law_many","_law_deep","_law_rows","_law_k","_law_way","_law_some","_law_name","_law_first","_law_other"] (EZ ad (Sw ad n)<|SA ad n)
end
theorem LI{ad:Ad}{n:Nat}{x0 x1 x2:D}{M:Mem}{Q:DK}{E:DX}:Sw ad (n+1) [x0,x1,x2] M Q E=xD ad (Sw ad n) (SA ad n) (aw E) { nx:=λ_ M'=>drp Q .non M',rt:=drp Q } [some x0,some x1,some x2,none,none,none,none,none,none] M:=rfl
theorem u_q5{ad:Ad}{n:Nat}{x0 x1 x2 x3:D}{M:Mem}{Q:DK}{E:DX}:SA ad (n+1) [x0,x1,x2,x3] M Q E=EZ ad (Sw ad n) (SA ad n) (aw E) { nx:=λ_ M'=>drp Q .non M',rt:=drp Q } [some x0,some x1,some x2,some x3,none,none,none,none,none,none,none] M:=rfl
def wv(ad:Ad)(EE:DX):au:=
 (aC<|b9<|aa (ac 2)<|aa (aQ aJ<|aa (am az (ac 3)<|dC<|.str "names") ae)<|aa (am az (ac 3)<|dC<|.str "many")<|aa (aQ aJ<|aa (ac 4) ae)<|aa (ac 5) ae)
def xM(ad:Ad)(EE:DX):au:=
 (ao (av (am az (am az (ac 3)<|dC<|.str "names")<|ai<|aj (aX ad) EE 2<|aa (ac 0)<|aa (aQ bh<|aa (am az (ac 3)<|dC<|.str "names") ae) ae)<|ah 5)
  (wv ad EE))
def wa(ad:Ad)(EE:DX):au:=
 (ao (av (ai<|aj (SA ad 24) EE 4<|aa (ac 0)<|aa (ac 3)<|aa (ai<|aj (aX ad) EE 2<|aa (ac 0)<|aa (am bj (ac 1)<|dC<|.int 1) ae)<|aa (dC<|.int 4) ae)<|ah 4)
  (xM ad EE))
def xR(ad:Ad)(EE:DX):au:=
 (ao (av (am az (ai<|bn<|aa (dC<|.int 0)<|aa (dC<|.int 1)<|aa (dC<|.int 2)<|aa (dC<|.int 3)<|aa (dC<|.int 4)<|aa (dC<|.int 6) ae)<|ai<|aj (aX ad) EE 2<|aa (ac 0)<|aa (dC<|.int 6) ae)<|fg (ac 3)<|dC<|.str "many")
  (wa ad EE))
def yi(ad:Ad)(EE:DX):au:=
 (ao (av (lM [("wheel",(ac 2)),("names",(ai<|aj (vm ad) EE 1<|aa (ac 0) ae)),("left",(am i8 (dC<|.int 4)<|ac 1))])<|ah 3)
  (xR ad EE))
def xb(ad:Ad)(EE:DX):au:=
 (ao (av (am az (ai<|bn<|aa (dC<|.int 2)<|aa (dC<|.int 3)<|aa (dC<|.int 3)<|aa (dC<|.int 5)<|aa (dC<|.int 7)<|aa (dC<|.int 11)<|aa (dC<|.int 97)<|aa (dC<|.int 997) ae)<|ai<|aj (aX ad) EE 2<|aa (ac 0)<|aa (dC<|.int 8) ae)<|ah 2)
  (yi ad EE))
def vh(ad:Ad):Sd:=aK ["_law_tape_here","_law_most","_law_wheel","_law_frame","_law_rows","_law_mark"] (xb ad)
theorem Mq{ad:Ad}{n:Nat}{x0 x1:D}{M:Mem}{Q:DK}{E:DX}:vh ad [x0,x1] M Q E=xb ad (aw E) { nx:=λ_ M'=>drp Q .non M',rt:=drp Q } [some x0,some x1,none,none,none,none] M:=rfl
def nQ(ad:Ad)(EE:DX):au:=
 (cb<|rV "list" cC (ac 2)<|aa (am az (ai<|bn<|aa (ac 4)<|aa (dC<|.int 0)<|aa (am dW (am dW (ac 4)<|dC<|.int 3)<|am az (ac 1)<|dC<|.int 0) ae)<|ai<|aj (aX ad) EE 2<|aa (ac 0)<|aa (dC<|.int 3) ae) ae)
def k6(ad:Ad)(EE:DX):au:=
 (ao (av (ai<|aj (aX ad) EE 2<|aa (ac 0)<|aa (am az (ac 1)<|dC<|.int 0) ae)<|ah 4)
   (nQ ad EE))
def nM(ad:Ad)(EE:DX):au:=
 (aC<|b9<|aa (aQ aJ<|aa (ai<|gn (ac 2) aU<|br<|ac 5) ae)<|aa (aQ aJ<|aa (ai<|gn (ac 2) (br<|ac 5) aU) ae) ae)
def gJ(ad:Ad)(EE:DX):au:=
 (ao (av (aQ bh<|aa (am az (ac 1)<|dC<|.int 1) ae)<|ah 5)
  (nM ad EE))
def oz(ad:Ad)(EE:DX):au:=
 (ao (cJ (bR<|aa (ai<|am bj (aQ bh<|aa (am az (ac 1)<|dC<|.int 1) ae)<|am az (ac 1)<|dC<|.int 2) ae) (ah 3)<|k6 ad EE)
  (gJ ad EE))
def wT(ad:Ad)(EE:DX):au:=
 (ao (av (bn ae)<|ah 2)
  (oz ad EE))
def rm(ad:Ad):Sd:=aK ["_law_tape_here","_law_plan_here","_law_numbers","_law_k","_law_number","_law_cut"] (wT ad)
theorem MB{ad:Ad}{n:Nat}{x0 x1:D}{M:Mem}{Q:DK}{E:DX}:rm ad [x0,x1] M Q E=wT ad (aw E) { nx:=λ_ M'=>drp Q .non M',rt:=drp Q } [some x0,some x1,none,none,none,none] M:=rfl
def xf(ad:Ad)(EE:DX):au:=
 (av (am az (ac 1)<|dC<|.int 2)<|fg (ac 2)<|am az (ac 1)<|dC<|.int 1)
def uv(ad:Ad)(EE:DX):au:=
 (av (am dW (am az (ac 2)<|am az (ac 1)<|dC<|.int 2)<|aQ bh<|aa (am az (ac 0)<|dC<|.str "pieces") ae)<|ah 3)
def xU(ad:Ad)(EE:DX):au:=
 (cb<|rV "list" cC (am az (ac 0)<|dC<|.str "read")<|aa (ac 3) ae)
def j_(ad:Ad)(EE:DX):au:=
 (av (am az (am az (ac 0)<|dC<|.str "pieces")<|ac 3)<|fg (ac 2)<|am az (ac 1)<|dC<|.int 1)
def fV(ad:Ad)(EE:DX):au:=
 (ao (aL (ar<|am k_ (ac 3)<|am az (ac 0)<|dC<|.str "read") (xU ad EE) aE)
    (j_ ad EE))
def jx(ad:Ad)(EE:DX):au:=
 (ao (aL (ar<|am cI (am az (ac 1)<|dC<|.int 0)<|dC<|.str "pick") (uv ad EE) aE)
    (fV ad EE))
def gB(ad:Ad)(EE:DX):au:=
 (ao (av (am az (ac 1)<|dC<|.int 2)<|ah 3)
    (jx ad EE))
def nN(ad:Ad)(EE:DX):au:=
 (av (am az (ac 6)<|am az (ac 1)<|dC<|.int 0)<|fg (ac 2)<|am az (ac 1)<|dC<|.int 1)
def gr(ad:Ad)(EE:DX):au:=
 (ao (av (lM [("sum",(am dW (ai<|am bj (ac 4)<|ac 5)<|am az (ac 0)<|dC<|.str "wheel")),("less",(aQ qX<|aa (am ub (ac 4)<|ac 5) ae)),("by",(am dW (am i8 (ac 4)<|ac 5)<|am az (ac 0)<|dC<|.str "wheel")),("same",(aQ qX<|aa (am cI (ac 4)<|ac 5) ae))])<|ah 6)
    (nN ad EE))
def kQ(ad:Ad)(EE:DX):au:=
 (ao (av (am az (ac 2)<|am az (ac 1)<|dC<|.int 3)<|ah 5)
    (gr ad EE))
def fq(ad:Ad)(EE:DX):au:=
 (ao (av (am az (ac 2)<|am az (ac 1)<|dC<|.int 2)<|ah 4)
    (kQ ad EE))
def dY(ad:Ad)(EE:DX):au:=
 (aL (mz (ar<|am cI (am az (ac 1)<|dC<|.int 0)<|dC<|.str "take")<|ar<|am cI (am az (ac 1)<|dC<|.int 0)<|dC<|.str "pick") (gB ad EE)<|fq ad EE)
def eA(ad:Ad)(EE:DX):au:=
 (aL (ar<|am cI (am az (ac 1)<|dC<|.int 0)<|dC<|.str "put") (xf ad EE)<|dY ad EE)
def lj(ad:Ad)(EE:DX):au:=
 (ao (av (am az (ac 0)<|dC<|.str "numbers")<|ah 2)
  (eA ad EE))
def vb(ad:Ad):Sd:=aK ["_law_here","_law_row","_law_numbers","_law_piece","_law_one","_law_other","_law_all"] (lj ad)
theorem xB{ad:Ad}{n:Nat}{x0 x1:D}{M:Mem}{Q:DK}{E:DX}:vb ad [x0,x1] M Q E=lj ad (aw E) { nx:=λ_ M'=>drp Q .non M',rt:=drp Q } [some x0,some x1,none,none,none,none,none] M:=rfl
def pe(ad:Ad)(Sy:Sd)(EE:DX):au:=
 (aL (jp (bU<|ac 3)<|dk<|bU<|ai<|aj Sy EE 2<|aa (ac 0)<|aa (am az (ac 2)<|dC<|.int 2) ae) (aC<|dC<|.bl false) aE)
def kE(ad:Ad)(Sy:Sd)(EE:DX):au:=
 (ao (aL (jp (ar<|am cI (am az (ac 2)<|dC<|.int 0)<|dC<|.str "if")<|dk<|bU<|ai<|aj Sy EE 2<|aa (ac 0)<|aa (am az (ac 2)<|am iP (dC<|.int 3)<|aQ qX<|aa (ac 4) ae) ae) (aC<|dC<|.bl false) aE)
    (pe ad Sy EE))
def dj(ad:Ad)(Sy:Sd)(EE:DX):au:=
 (ao (av (iW (am cI (am az (ac 2)<|dC<|.int 0)<|dC<|.str "again")<|ac 4)<|ah 3)
    (kE ad Sy EE))
def o_(ad:Ad)(Sy:Sd)(EE:DX):au:=
 (ao (av (am iX (am az (am az (ac 0)<|dC<|.str "numbers")<|am az (ac 2)<|dC<|.int 1)<|dC<|.int 0)<|ah 4)
    (dj ad Sy EE))
def pw(ad:Ad)(Sy:Sd)(EE:DX):au:=
 (ao (aL (ar<|am ub (am az (ac 0)<|dC<|.str "left")<|dC<|.int 0) (aC<|dC<|.bl false) aE)
    (o_ ad Sy EE))
def iw(ad:Ad)(Sy:Sd)(EE:DX):au:=
 (ao (av (am iP (am az (ac 0)<|dC<|.str "left")<|dC<|.int 1)<|fg (ac 0)<|dC<|.str "left")
    (pw ad Sy EE))
def we(ad:Ad)(Sy:Sd)(EE:DX):au:=
 (cb<|aj (vb ad) EE 2<|aa (ac 0)<|aa (ac 2) ae)
def dL(ad:Ad)(Sy:Sd)(EE:DX):au:=
 (aL (jp (ar<|am iX (am az (ac 2)<|dC<|.int 0)<|dC<|.str "if")<|ar<|am iX (am az (ac 2)<|dC<|.int 0)<|dC<|.str "again") (we ad Sy EE) aE)
def i9(ad:Ad)(Sy:Sd)(EE:DX):au:=
 (ao (de (bU<|ac 3)<|iw ad Sy EE)
   (dL ad Sy EE))
def cV(ad:Ad)(Sy:Sd)(EE:DX):au:=
 (ao (av (dC<|.bl true)<|ah 3)
   (i9 ad Sy EE))
def xX(ad:Ad)(Sy:Sd)(EE:DX):au:=
 (ao (cJ (cX<|ac 1) (ah 2)<|cV ad Sy EE)
  (aC<|dC<|.bl true))
def Sy(ad:Ad):Nat->Sd
 |0=>λ_ _ _ _=>False
 |n+1=>aK ["_law_here","_law_rows","_law_row","_law_turns","_law_truth"] (xX ad<|Sy ad n)
theorem Mr{ad:Ad}{n:Nat}{x0 x1:D}{M:Mem}{Q:DK}{E:DX}:Sy ad (n+1) [x0,x1] M Q E=xX ad (Sy ad n) (aw E) { nx:=λ_ M'=>drp Q .non M',rt:=drp Q } [some x0,some x1,none,none,none] M:=rfl
def xw(ad:Ad)(EE:DX):au:=
 (aC<|lM [("numbers",(kJ<|aa (am az (ac 0)<|dC<|.int 1)<|aa (am az (ac 1)<|dC<|.int 0) ae)),("pieces",(am az (ac 1)<|dC<|.int 1)),("read",(bn ae)),("wheel",(am az (ac 0)<|dC<|.int 0)),("left",(ac 2))])
def kU(ad:Ad):Sd:=aK ["_law_plan_here","_law_stand_here","_law_most"] (xw ad)
theorem Mj{ad:Ad}{n:Nat}{x0 x1 x2:D}{M:Mem}{Q:DK}{E:DX}:kU ad [x0,x1,x2] M Q E=xw ad (aw E) { nx:=λ_ M'=>drp Q .non M',rt:=drp Q } [some x0,some x1,some x2] M:=rfl
def kd(ad:Ad)(EE:DX):au:=
 (aC<|am az (am az (ac 3)<|dC<|.str "numbers")<|am az (ac 0)<|dC<|.int 4)
def kF(ad:Ad)(EE:DX):au:=
 (ao (aL (dk<|bU<|ai<|aj (Sy ad 24) EE 2<|aa (ac 3)<|aa (am az (ac 0)<|dC<|.int 3) ae) (aC<|dC .non) aE)
  (kd ad EE))
def uw(ad:Ad)(EE:DX):au:=
 (ao (av (aj (kU ad) EE 3<|aa (ac 0)<|aa (ac 1)<|aa (ac 2) ae)<|ah 3)
  (kF ad EE))
def mq(ad:Ad):Sd:=aK ["_law_plan_here","_law_stand_here","_law_most","_law_here"] (uw ad)
theorem LC{ad:Ad}{n:Nat}{x0 x1 x2:D}{M:Mem}{Q:DK}{E:DX}:mq ad [x0,x1,x2] M Q E=uw ad (aw E) { nx:=λ_ M'=>drp Q .non M',rt:=drp Q } [some x0,some x1,some x2,none] M:=rfl
def pB(ad:Ad)(EE:DX):au:=
 (cb<|rV "list" cC (ac 4)<|aa (aQ aJ<|aa (ai<|aW (t_<|aa (ac 5)<|aa (ac 6) ae) ["_law_number","_law_another"] [0] (cU 2<|aP (ah 0)<|aP (ah 1) cD) bX<|am az (ai<|bn<|aa (ac 0)<|aa (ac 1) ae)<|ai<|aj (aX ad) iF 2<|aa (ac 2)<|aa (dC<|.int 2) ae) ae) ae)
def pj(ad:Ad)(EE:DX):au:=
 (aC<|b9<|aa (ac 2)<|aa (aQ aJ<|aa (ac 4) ae) ae)
def uf(ad:Ad)(EE:DX):au:=
 (ao (cJ (t_<|aa (ac 2)<|aa (ac 3) ae) (cU 2<|aP (ah 5)<|aP (ah 6) cD)<|pB ad EE)
  (pj ad EE))
def sB(ad:Ad)(EE:DX):au:=
 (ao (av (bn ae)<|ah 4)
  (uf ad EE))
def um(ad:Ad)(EE:DX):au:=
 (ao (av (ai<|aj (rm ad) EE 2<|aa (ac 0)<|aa (ac 1) ae)<|ah 3)
  (sB ad EE))
def Fe(ad:Ad)(EE:DX):au:=
 (ao (av (ai<|aj (rm ad) EE 2<|aa (ac 0)<|aa (ac 1) ae)<|ah 2)
  (um ad EE))
def EH(ad:Ad):Sd:=aK ["_law_tape_here","_law_plan_here","_law_first","_law_second","_law_found","_law_one","_law_other"] (Fe ad)
theorem u_q4{ad:Ad}{n:Nat}{x0 x1:D}{M:Mem}{Q:DK}{E:DX}:EH ad [x0,x1] M Q E=Fe ad (aw E) { nx:=λ_ M'=>drp Q .non M',rt:=drp Q } [some x0,some x1,none,none,none,none,none] M:=rfl
def nU(ad:Ad)(EE:DX):au:=
 (aL (ar<|am cI (ac 4)<|dC<|.int 0) (av (am az (ac 5)<|ac 9)<|fg (ac 6)<|ac 9)<|av (am iP (ac 4)<|dC<|.int 1)<|ah 4)
def pz(ad:Ad)(EE:DX):au:=
 (aL (ar<|am iX (am az (ac 5)<|ac 9)<|am az (ac 6)<|ac 9) (nU ad EE) aE)
def gA(ad:Ad)(EE:DX):au:=
 (ao (av (am dW (ai<|am bj (ac 8)<|ac 7)<|aQ bh<|aa (ac 5) ae)<|ah 9)
   (pz ad EE))
def pK(ad:Ad)(EE:DX):au:=
 (aC<|b9<|aa (aQ aJ<|aa (ai<|gn (ac 6) aU<|br<|ac 10) ae)<|aa (aQ aJ<|aa (ai<|gn (ac 6) (br<|ac 10) aU) ae) ae)
def k4(ad:Ad)(EE:DX):au:=
 (ao (av (aQ bh<|aa (am az (ac 1)<|dC<|.int 1) ae)<|ah 10)
  (pK ad EE))
def oF(ad:Ad)(EE:DX):au:=
 (ao (cJ (bR<|aa (aQ bh<|aa (ac 5) ae) ae) (ah 8)<|gA ad EE)
  (k4 ad EE))
def pv(ad:Ad)(EE:DX):au:=
 (ao (av (ai<|aj (aX ad) EE 2<|aa (ac 0)<|aa (aQ bh<|aa (ac 5) ae) ae)<|ah 7)
  (oF ad EE))
def pA(ad:Ad)(EE:DX):au:=
 (ao (av (aQ dN<|aa (ai<|am bj (am az (ac 3)<|dC<|.int 0)<|am az (ac 3)<|dC<|.int 1) ae)<|ah 6)
  (pv ad EE))
def vW(ad:Ad)(EE:DX):au:=
 (ao (av (ai<|aQ dN<|aa (ai<|am bj (am az (ac 2)<|dC<|.int 0)<|am az (ac 2)<|dC<|.int 1) ae)<|ah 5)
  (pA ad EE))
def vD(ad:Ad):Sd:=aK ["_law_tape_here","_law_plan_here","_law_one","_law_other","_law_few","_law_numbers","_law_others","_law_turn","_law_k","_law_at","_law_cut"] (vW ad)
theorem LZ{ad:Ad}{n:Nat}{x0 x1 x2 x3 x4:D}{M:Mem}{Q:DK}{E:DX}:vD ad [x0,x1,x2,x3,x4] M Q E=vW ad (aw E) { nx:=λ_ M'=>drp Q .non M',rt:=drp Q } [some x0,some x1,some x2,some x3,some x4,none,none,none,none,none,none] M:=rfl
def pT(ad:Ad)(EE:DX):au:=
 (aC<|b9<|aa (ac 3)<|aa (am az (ac 1)<|dC<|.int 4)<|aa (ac 4)<|aa (ac 5) ae)
def sC(ad:Ad)(EE:DX):au:=
 (ao (av (ai<|aW (bR<|aa (dC<|.int 2) ae) ["_law_k"] [0,2] (ah 0) bX<|am az (ac 2)<|ai<|aj (aX ad) iF 2<|aa (ac 1)<|aa (aQ bh<|aa (ac 2) ae) ae)<|BC 2<|aP (ah 4)<|aP (ah 5) cD)
  (pT ad EE))
def sQ(ad:Ad)(EE:DX):au:=
 (ao (av (am az (ai<|bn<|aa (dC<|.str "sum")<|aa (dC<|.str "by")<|aa (dC<|.str "less")<|aa (dC<|.str "same") ae)<|ai<|aj (aX ad) EE 2<|aa (ac 0)<|aa (dC<|.int 4) ae)<|ah 3)
  (sC ad EE))
def Ey(ad:Ad)(EE:DX):au:=
 (ao (av (am az (ac 1)<|dC<|.int 1)<|ah 2)
  (sQ ad EE))
def Df(ad:Ad):Sd:=aK ["_law_tape_here","_law_plan_here","_law_all","_law_word","_law_one","_law_other"] (Ey ad)
theorem u_q8{ad:Ad}{n:Nat}{x0 x1:D}{M:Mem}{Q:DK}{E:DX}:Df ad [x0,x1] M Q E=Ey ad (aw E) { nx:=λ_ M'=>drp Q .non M',rt:=drp Q } [some x0,some x1,none,none,none,none] M:=rfl
def o6(ad:Ad)(EE:DX):au:=
 (av (am bj (ai<|gn (ac 4) aU<|br<|dC<|.int 3)<|b9<|aa (ac 5)<|aa (am az (ac 4)<|dC<|.int 4) ae)<|ah 4)
def jv(ad:Ad)(EE:DX):au:=
 (ao (av (am bj (am az (ac 4)<|dC<|.int 3)<|b9<|aa (ai<|aj (Df ad) EE 2<|aa (ac 0)<|aa (ac 4) ae) ae)<|ah 5)
   (o6 ad EE))
def oR(ad:Ad)(EE:DX):au:=
 (aC<|b9<|aa (ac 4)<|aa (ac 7)<|aa (ac 8)<|aa (am az (ai<|bn<|aa (ac 2)<|aa (ac 11) ae)<|ai<|aj (aX ad) EE 2<|aa (ac 0)<|aa (dC<|.int 2) ae) ae)
def hV(ad:Ad)(EE:DX):au:=
 (ao (av (am bj (am iP (ac 2)<|aQ Eu<|aa (am az (ac 9)<|dC<|.str "left")<|aa (am az (ac 10)<|dC<|.str "left") ae)<|ai<|aj (aX ad) EE 2<|aa (ac 0)<|aa (dC<|.int 4) ae)<|ah 11)
    (oR ad EE))
def gu(ad:Ad)(EE:DX):au:=
 (aL (jp (bU<|ai<|aj (Sy ad 24) EE 2<|aa (ac 9)<|aa (am az (ac 4)<|dC<|.int 3) ae)<|jp (bU<|ai<|aj (Sy ad 24) EE 2<|aa (ac 10)<|aa (am az (ac 4)<|dC<|.int 3) ae)<|ar<|am iX (am az (am az (ac 9)<|dC<|.str "numbers")<|am az (ac 4)<|dC<|.int 4)<|am az (am az (ac 10)<|dC<|.str "numbers")<|am az (ac 4)<|dC<|.int 4) (hV ad EE) aE)
def nY(ad:Ad)(EE:DX):au:=
 (ao (av (aj (kU ad) EE 3<|aa (ac 4)<|aa (ac 8)<|aa (ac 2) ae)<|ah 10)
   (gu ad EE))
def oo(ad:Ad)(EE:DX):au:=
 (ao (av (aj (kU ad) EE 3<|aa (ac 4)<|aa (ac 7)<|aa (ac 2) ae)<|ah 9)
   (nY ad EE))
def nX(ad:Ad)(EE:DX):au:=
 (ao (av (ai<|aj (vD ad) EE 5<|aa (ac 0)<|aa (ac 4)<|aa (ac 7)<|aa (ac 8)<|aa (ac 3) ae)<|ah 8)
   (oo ad EE))
def il(ad:Ad)(EE:DX):au:=
 (ao (av (ai<|aj (EH ad) EE 2<|aa (ac 0)<|aa (ac 4) ae)<|cU 2<|aP (ah 7)<|aP (ah 8) cD)
   (nX ad EE))
def gF(ad:Ad)(EE:DX):au:=
 (aC<|b9<|aa (am bj (ai<|gn (ac 4) aU<|br<|dC<|.int 3)<|b9<|aa (b9 ae)<|aa (am az (ac 4)<|dC<|.int 4) ae)<|aa (b9<|aa (ac 12)<|aa (ac 13) ae)<|aa (b9<|aa (ac 14)<|aa (ac 13) ae)<|aa (ac 2) ae)
def kW(ad:Ad)(EE:DX):au:=
 (ao (av (aQ aJ<|aa (ai<|aW (cX<|am az (ac 4)<|dC<|.int 1) ["_law_name"] [4] (ah 0) bX<|aQ qX<|aa (am cI (ac 0)<|am az (ac 1)<|dC<|.int 4) ae) ae)<|ah 14)
  (gF ad EE))
def m7(ad:Ad)(EE:DX):au:=
 (ao (av (am i8 (b9<|aa (dC<|.int 0) ae)<|am az (ac 4)<|dC<|.int 2)<|ah 13)
  (kW ad EE))
def fJ(ad:Ad)(EE:DX):au:=
 (ao (av (am i8 (b9<|aa (dC<|.int 0) ae)<|aQ bh<|aa (am az (ac 4)<|dC<|.int 1) ae)<|ah 12)
  (m7 ad EE))
def fI(ad:Ad)(EE:DX):au:=
 (ao (cJ (bR<|aa (dC<|.int 10) ae) (ah 6)<|il ad EE)
  (fJ ad EE))
def lm(ad:Ad)(EE:DX):au:=
 (ao (aL (ar<|am yU (ai<|aj (aX ad) EE 2<|aa (ac 0)<|aa (dC<|.int 3) ae)<|dC<|.int 0) (jv ad EE) aE)
  (fI ad EE))
def xN(ad:Ad)(EE:DX):au:=
 (ao (av (ai<|aj (vh ad) EE 2<|aa (ac 0)<|aa (ac 1) ae)<|ah 4)
  (lm ad EE))
def uA(ad:Ad):Sd:=aK ["_law_tape_here","_law_rows","_law_most","_law_few","_law_plan_here","_law_rows_here","_law_turn","_law_one","_law_other","_law_here","_law_there","_law_long","_law_numbers","_law_pieces","_law_marked"] (xN ad)
theorem Kz{ad:Ad}{n:Nat}{x0 x1 x2 x3:D}{M:Mem}{Q:DK}{E:DX}:uA ad [x0,x1,x2,x3] M Q E=xN ad (aw E) { nx:=λ_ M'=>drp Q .non M',rt:=drp Q } [some x0,some x1,some x2,some x3,none,none,none,none,none,none,none,none,none,none,none] M:=rfl
def wK(ad:Ad)(EE:DX):au:=
 (aC<|am bj (ai<|aQ dN<|aa (am az (ac 0)<|dC<|.int 1) ae)<|ai<|g_<|aa (am az (ac 0)<|dC<|.int 2) ae)
def nw(ad:Ad):Sd:=aK ["_law_plan_here"] (wK ad)
theorem Mm{ad:Ad}{n:Nat}{x0:D}{M:Mem}{Q:DK}{E:DX}:nw ad [x0] M Q E=wK ad (aw E) { nx:=λ_ M'=>drp Q .non M',rt:=drp Q } [some x0] M:=rfl
def gq(ad:Ad)(EE:DX):au:=
 (aC<|aW (bR<|aa (aQ bh<|aa (ac 3) ae) ae) ["_law_k"] [5,4,3] (ah 0) (ar<|am iX (am az (ac 2)<|ac 0)<|am az (ac 1)<|ac 0)<|am az (ac 3)<|ac 0)
def oU(ad:Ad)(EE:DX):au:=
 (ao (av (ai<|am bj (am az (ac 2)<|dC<|.int 0)<|am az (ac 2)<|dC<|.int 1)<|ah 5)
  (gq ad EE))
def oa(ad:Ad)(EE:DX):au:=
 (ao (av (ai<|am bj (am az (ac 1)<|dC<|.int 0)<|am az (ac 1)<|dC<|.int 1)<|ah 4)
  (oU ad EE))
def xr(ad:Ad)(EE:DX):au:=
 (ao (av (ai<|aj (nw ad) EE 1<|aa (ac 0) ae)<|ah 3)
  (oa ad EE))
def xG(ad:Ad):Sd:=aK ["_law_plan_here","_law_one","_law_other","_law_all","_law_numbers","_law_others"] (xr ad)
theorem KJ{ad:Ad}{n:Nat}{x0 x1 x2:D}{M:Mem}{Q:DK}{E:DX}:xG ad [x0,x1,x2] M Q E=xr ad (aw E) { nx:=λ_ M'=>drp Q .non M',rt:=drp Q } [some x0,some x1,some x2,none,none,none] M:=rfl
def gy(ad:Ad)(EE:DX):au:=
 (aL (ar<|am uu (am az (ac 6)<|ac 9)<|ac 1) (av (am az (ac 8)<|ac 9)<|fg (ac 7)<|ac 9) aE)
def oj(ad:Ad)(EE:DX):au:=
 (aC<|b9<|aa (aQ aJ<|aa (ai<|gn (ac 7) aU<|br<|ac 10) ae)<|aa (aQ aJ<|aa (ai<|gn (ac 7) (br<|ac 10) aU) ae) ae)
def kh(ad:Ad)(EE:DX):au:=
 (ao (av (aQ bh<|aa (am az (ac 2)<|dC<|.int 1) ae)<|ah 10)
  (oj ad EE))
def pL(ad:Ad)(EE:DX):au:=
 (ao (cJ (bR<|aa (aQ bh<|aa (ac 6) ae) ae) (ah 9)<|gy ad EE)
  (kh ad EE))
def oh(ad:Ad)(EE:DX):au:=
 (ao (av (ai<|am bj (am az (ac 4)<|dC<|.int 0)<|am az (ac 4)<|dC<|.int 1)<|ah 8)
  (pL ad EE))
def pk(ad:Ad)(EE:DX):au:=
 (ao (av (aQ dN<|aa (ai<|am bj (am az (ac 3)<|dC<|.int 0)<|am az (ac 3)<|dC<|.int 1) ae)<|ah 7)
  (oh ad EE))
def pM(ad:Ad)(EE:DX):au:=
 (ao (av (ai<|aj (nw ad) EE 1<|aa (ac 2) ae)<|ah 6)
  (pk ad EE))
def xl(ad:Ad)(EE:DX):au:=
 (ao (av (ac 0)<|cU 4<|aP (ah 2)<|aP (ah 3)<|aP (ah 4)<|aP (ah 5) cD)
  (pM ad EE))
def uX(ad:Ad):Sd:=aK ["_law_case_here","_law_mix","_law_plan_here","_law_one","_law_other","_law_most","_law_all","_law_numbers","_law_others","_law_k","_law_cut"] (xl ad)
theorem Ld{ad:Ad}{n:Nat}{x0 x1:D}{M:Mem}{Q:DK}{E:DX}:uX ad [x0,x1] M Q E=xl ad (aw E) { nx:=λ_ M'=>drp Q .non M',rt:=drp Q } [some x0,some x1,none,none,none,none,none,none,none,none,none] M:=rfl
def jH(ad:Ad)(EE:DX):au:=
 (aC<|am az (ai<|bn<|aa (dC<|.str "other")<|aa (dC<|.str "faulty") ae)<|aQ qX<|aa (am cI (ac 6)<|ai<|aj (mq ad) EE 3<|aa (ac 2)<|aa (ac 4)<|aa (ac 5) ae) ae)
def ig(ad:Ad)(EE:DX):au:=
 (ao (aL (ar<|am cI (ac 6)<|ai<|aj (mq ad) EE 3<|aa (ac 2)<|aa (ac 3)<|aa (ac 5) ae) (aC<|dC<|.str "sound") aE)
  (jH ad EE))
def n_(ad:Ad)(EE:DX):au:=
 (ao (av (ai<|aj (mq ad) EE 3<|aa (ac 2)<|aa (ai<|aj (uX ad) EE 2<|aa (ac 0)<|aa (ac 1) ae)<|aa (ac 5) ae)<|ah 6)
  (ig ad EE))
def uK(ad:Ad)(EE:DX):au:=
 (ao (av (ac 0)<|cU 4<|aP (ah 2)<|aP (ah 3)<|aP (ah 4)<|aP (ah 5) cD)
  (n_ ad EE))
def lg(ad:Ad):Sd:=aK ["_law_case_here","_law_mix","_law_plan_here","_law_one","_law_other","_law_most","_law_found"] (uK ad)
theorem Mb{ad:Ad}{n:Nat}{x0 x1:D}{M:Mem}{Q:DK}{E:DX}:lg ad [x0,x1] M Q E=uK ad (aw E) { nx:=λ_ M'=>drp Q .non M',rt:=drp Q } [some x0,some x1,none,none,none,none,none] M:=rfl
def fN(ad:Ad)(EE:DX):au:=
 (aC<|am cI (aQ da<|aa (ac 1) ae)<|aQ da<|aa (ai<|aW (cX<|ac 0) ["_law_one"] [1] (ah 0) (ar<|am uu (ac 0)<|ac 1)<|ac 0) ae)
def qW(ad:Ad)(EE:DX):au:=
 (ao (aL (dk<|bU<|aQ bZ<|aa (ac 1)<|aa (dC<|.ty "list") ae) (aC<|dC<|.bl false) aE)
  (fN ad EE))
def lO(ad:Ad):Sd:=aK ["_law_all","_law_thing"] (qW ad)
theorem Gc{ad:Ad}{n:Nat}{x0 x1:D}{M:Mem}{Q:DK}{E:DX}:lO ad [x0,x1] M Q E=qW ad (aw E) { nx:=λ_ M'=>drp Q .non M',rt:=drp Q } [some x0,some x1] M:=rfl
def nZ(ad:Ad)(EE:DX):au:=
 (av (am az (ac 4)<|dC<|.int 1)<|fg (ac 3)<|aQ aJ<|aa (am az (ac 4)<|dC<|.int 0) ae)
def pb(ad:Ad)(EE:DX):au:=
 (ao (aL (ar<|am iX (aQ da<|aa (am az (ac 4)<|dC<|.int 1) ae)<|aQ da<|aa (ai<|aj (lg ad) EE 2<|aa (ac 0)<|aa (am az (ac 4)<|dC<|.int 0) ae) ae) (aC<|dC<|.bl false) aE)
   (nZ ad EE))
def mj(ad:Ad)(EE:DX):au:=
 (ao (aL (mz (dk<|bU<|aQ bZ<|aa (ac 4)<|aa (dC<|.ty "tuple") ae)<|mz (ar<|am iX (aQ bh<|aa (ac 4) ae)<|dC<|.int 2)<|dk<|bU<|ai<|aj (lO ad) EE 2<|aa (ac 1)<|aa (am az (ac 4)<|dC<|.int 0) ae) (aC<|dC<|.bl false) aE)
   (pb ad EE))
def sJ(ad:Ad)(EE:DX):au:=
 (aL (ar<|am cI (qf (ac 3) (aQ aJ<|aa (ai<|am bj (ai<|gn (ac 5) aU<|br<|ac 6)<|ai<|gn (ac 5) (br<|am bj (ac 6)<|dC<|.int 1) aU) ae)<|dC<|.str "faulty")<|dC<|.str "faulty") (aC<|dC<|.bl false) aE)
def lL(ad:Ad)(EE:DX):au:=
 (ao (cJ (bR<|aa (aQ bh<|aa (ac 5) ae) ae) (ah 6)<|sJ ad EE)
  (aC<|dC<|.bl true))
def tE(ad:Ad)(EE:DX):au:=
 (ao (aL (mz (dk<|bU<|ai<|aj (lO ad) EE 2<|aa (ac 1)<|aa (ac 5) ae)<|ar<|am iX (rf (ac 3)<|aQ aJ<|aa (ac 5) ae)<|dC<|.str "faulty") (aC<|dC<|.bl false) aE)
  (lL ad EE))
def ox(ad:Ad)(EE:DX):au:=
 (ao (av (am az (ac 2)<|dC<|.int 1)<|ah 5)
  (tE ad EE))
def o5(ad:Ad)(EE:DX):au:=
 (ao (aL (mz (ar<|am ub (aQ ng<|aa (ac 3) ae)<|aQ bh<|aa (am az (ac 2)<|dC<|.int 0) ae)<|mz (ar<|am cI (am az (ac 2)<|dC<|.int 0)<|ai<|bn ae)<|ar<|am iX (am az (am az (am az (ac 2)<|dC<|.int 0)<|dC<|.int 0)<|dC<|.int 0)<|ac 1) (aC<|dC<|.bl false) aE)
  (ox ad EE))
def lI(ad:Ad)(EE:DX):au:=
 (ao (cJ (cX<|am az (ac 2)<|dC<|.int 0) (ah 4)<|mj ad EE)
  (o5 ad EE))
def CD(ad:Ad)(EE:DX):au:=
 (ao (aL (mz (dk<|bU<|aQ bZ<|aa (ac 2)<|aa (dC<|.ty "tuple") ae)<|mz (ar<|am iX (aQ bh<|aa (ac 2) ae)<|dC<|.int 2)<|dk<|bU<|aQ bZ<|aa (am az (ac 2)<|dC<|.int 0)<|aa (dC<|.ty "list") ae) (aC<|dC<|.bl false) aE)
  (ao (av qJ<|ah 3)
  (lI ad EE)))
def sE(ad:Ad):Sd:=aK ["_law_case_here","_law_all","_law_found","_law_known","_law_row","_law_cause","_law_k"] (CD ad)
theorem Ln{ad:Ad}{n:Nat}{x0 x1 x2:D}{M:Mem}{Q:DK}{E:DX}:sE ad [x0,x1,x2] M Q E=CD ad (aw E) { nx:=λ_ M'=>drp Q .non M',rt:=drp Q } [some x0,some x1,some x2,none,none,none,none] M:=rfl
def oC(ad:Ad)(EE:DX):au:=
 (ao (cJ (bR<|aa (ac 0) ae) (ah 2)<|av (am i8 (ac 1)<|dC<|.int 2)<|ah 1)
  (aC<|ac 1))
def yg(ad:Ad)(EE:DX):au:=
 (ao (av (dC<|.int 1)<|ah 1)
  (oC ad EE))
def qK(ad:Ad):Sd:=aK ["_law_many","_law_found","_law_turn"] (yg ad)
theorem Ku{ad:Ad}{n:Nat}{x0:D}{M:Mem}{Q:DK}{E:DX}:qK ad [x0] M Q E=yg ad (aw E) { nx:=λ_ M'=>drp Q .non M',rt:=drp Q } [some x0,none,none] M:=rfl
def vN(ad:Ad)(EE:DX):au:=
 (aC<|aW (bR<|aa (aQ bh<|aa (ac 0) ae) ae) ["_law_k"] [1,0] (ah 0) (ar<|am cI (am dW (am rg (ac 1)<|ai<|aj (qK ad) iF 1<|aa (ac 0) ae)<|dC<|.int 2)<|dC<|.int 1)<|am az (ac 2)<|ac 0)
def xz(ad:Ad):Sd:=aK ["_law_all","_law_number"] (vN ad)
theorem Lg{ad:Ad}{n:Nat}{x0 x1:D}{M:Mem}{Q:DK}{E:DX}:xz ad [x0,x1] M Q E=vN ad (aw E) { nx:=λ_ M'=>drp Q .non M',rt:=drp Q } [some x0,some x1] M:=rfl
def jz(ad:Ad)(EE:DX):au:=
 (ao (av (ac 6)<|ah 3)
    (av (dC<|.int 0)<|ah 4))
def kC(ad:Ad)(EE:DX):au:=
 (aL (ar<|am cI (ai<|aj (lg ad) EE 2<|aa (ac 1)<|aa (ac 6) ae)<|dC<|.str "faulty") (jz ad EE)<|av (am bj (ac 4)<|dC<|.int 1)<|ah 4)
def jG(ad:Ad)(EE:DX):au:=
 (ao (av (ai<|am bj (ai<|gn (ac 3) aU<|br<|ac 5)<|ai<|gn (ac 3) (br<|am bj (ac 5)<|dC<|.int 1) aU)<|ah 6)
   (kC ad EE))
def fU(ad:Ad)(EE:DX):au:=
 (ao (av (am dW (ai<|am bj (ac 4)<|ai<|aj (aX ad) EE 2<|aa (ac 0)<|aa (aQ bh<|aa (ac 3) ae) ae)<|aQ bh<|aa (ac 3) ae)<|ah 5)
   (jG ad EE))
def og(ad:Ad)(EE:DX):au:=
 (ao (de (ar<|am ub (ac 4)<|aQ bh<|aa (ac 3) ae)<|fU ad EE)
  (aC<|ac 3))
def oi(ad:Ad)(EE:DX):au:=
 (ao (av (dC<|.int 0)<|ah 4)
  (og ad EE))
def uD(ad:Ad)(EE:DX):au:=
 (ao (av (ai<|aQ dN<|aa (ac 2) ae)<|ah 3)
  (oi ad EE))
def vd(ad:Ad):Sd:=aK ["_law_tape_here","_law_case_here","_law_all","_law_mix","_law_at","_law_spot","_law_less"] (uD ad)
theorem Mn{ad:Ad}{n:Nat}{x0 x1 x2:D}{M:Mem}{Q:DK}{E:DX}:vd ad [x0,x1,x2] M Q E=uD ad (aw E) { nx:=λ_ M'=>drp Q .non M',rt:=drp Q } [some x0,some x1,some x2,none,none,none,none] M:=rfl
def ki(ad:Ad)(EE:DX):au:=
 (cb<|rV "list" cC (ac 5)<|aa (b9<|aa (ac 6)<|aa (ai<|aj (lg ad) EE 2<|aa (ac 1)<|aa (ac 6) ae) ae) ae)
def kA(ad:Ad)(EE:DX):au:=
 (aL (ar<|am yU (ai<|aj (aX ad) EE 2<|aa (ac 0)<|aa (dC<|.int 12) ae)<|dC<|.int 0) (ki ad EE) aE)
def fM(ad:Ad)(EE:DX):au:=
 (ao (av (rV "list" Ff (ac 4)<|aa (ai<|aj (aX ad) EE 2<|aa (ac 0)<|aa (aQ bh<|aa (ac 4) ae) ae) ae)<|ah 6)
   (kA ad EE))
def nS(ad:Ad)(EE:DX):au:=
 (ao (de (ar<|am iX (ac 4)<|ai<|bn ae)<|fM ad EE)
  (aC<|b9<|aa (ac 5)<|aa (ac 3) ae))
def kj(ad:Ad)(EE:DX):au:=
 (ao (av (bn<|aa (b9<|aa (ai<|aQ dN<|aa (ac 2) ae)<|aa (dC<|.str "faulty") ae) ae)<|ah 5)
  (nS ad EE))
def jW(ad:Ad)(EE:DX):au:=
 (ao (oZ 4<|aW (bR<|aa (am iP (ai<|aj (qK ad) EE 1<|aa (aQ bh<|aa (ac 2) ae) ae)<|dC<|.int 1) ae) ["_law_number"] [2] (ah 0) bX<|ai<|aj (xz ad) iF 2<|aa (ac 1)<|aa (ac 0) ae)
  (kj ad EE))
def xj(ad:Ad)(EE:DX):au:=
 (ao (av (ai<|aj (vd ad) EE 3<|aa (ac 0)<|aa (ac 1)<|aa (ac 2) ae)<|ah 3)
  (jW ad EE))
def uO(ad:Ad):Sd:=aK ["_law_tape_here","_law_case_here","_law_all","_law_cause","_law_mixes","_law_rows","_law_mix"] (xj ad)
theorem Ls{ad:Ad}{n:Nat}{x0 x1 x2:D}{M:Mem}{Q:DK}{E:DX}:uO ad [x0,x1,x2] M Q E=xj ad (aw E) { nx:=λ_ M'=>drp Q .non M',rt:=drp Q } [some x0,some x1,some x2,none,none,none,none] M:=rfl
def jJ(ad:Ad)(EE:DX):au:=
 (aC<|am bj (ac 1)<|ai<|bn<|aa (am az (ai<|bn<|aa (dC .non)<|aa (ai<|bn ae) ae)<|ac 2) ae)
def jC(ad:Ad)(EE:DX):au:=
 (aC<|aW (cX<|ac 1) ["_law_one"] [2] (ah 0) bX<|am az (ai<|bn<|aa (am cI (ac 0)<|dC<|.int 1)<|aa (ai<|bn<|aa (ac 0) ae) ae)<|am iP (ac 1)<|dC<|.int 2)
def jy(ad:Ad)(EE:DX):au:=
 (ao (aL (ar<|am ub (ac 2)<|dC<|.int 2) (jJ ad EE) aE)
  (jC ad EE))
def y4(ad:Ad)(EE:DX):au:=
 (ao (av (ai<|aj (aX ad) EE 2<|aa (ac 0)<|aa (dC<|.int 4) ae)<|ah 2)
  (jy ad EE))
def mW(ad:Ad):Sd:=aK ["_law_tape_here","_law_mix","_law_way"] (y4 ad)
theorem Lz{ad:Ad}{n:Nat}{x0 x1:D}{M:Mem}{Q:DK}{E:DX}:mW ad [x0,x1] M Q E=y4 ad (aw E) { nx:=λ_ M'=>drp Q .non M',rt:=drp Q } [some x0,some x1,none] M:=rfl
def gH(ad:Ad)(EE:DX):au:=
 (aC<|b9<|aa (am bj (ai<|gn (ac 2) aU<|br<|ac 4)<|ai<|gn (ac 2) (br<|am bj (ac 4)<|dC<|.int 1) aU)<|aa (ac 3) ae)
def gw(ad:Ad)(EE:DX):au:=
 (aC<|b9<|aa (am bj (ac 2)<|ai<|bn<|aa (am az (ac 2)<|ac 4) ae)<|aa (ac 3) ae)
def jM(ad:Ad)(EE:DX):au:=
 (aC<|b9<|aa (am bj (ai<|am bj (ai<|gn (ac 2) aU<|br<|ac 4)<|ai<|bn<|aa (am az (ac 8)<|ai<|aj (aX ad) EE 2<|aa (ac 0)<|aa (dC<|.int 9) ae) ae)<|ai<|gn (ac 2) (br<|am bj (ac 4)<|dC<|.int 1) aU)<|aa (ac 3) ae)
def gL(ad:Ad)(EE:DX):au:=
 (ao (av (ai<|bn<|aa (b9<|aa (ac 5)<|aa (am az (ai<|bn<|aa (dC<|.str "sound")<|aa (dC<|.str "faulty")<|aa (dC<|.str "other")<|aa (dC<|.str "Sound")<|aa (dC .non) ae)<|ai<|aj (aX ad) EE 2<|aa (ac 0)<|aa (dC<|.int 5) ae) ae)<|aa (ai<|bn<|aa (ac 5)<|aa (ac 6) ae)<|aa (b9<|aa (aQ aJ<|aa (ac 5) ae)<|aa (ac 6) ae)<|aa (b9<|aa (ai<|qw (ac 5)<|br<|yA<|dC<|.int 1)<|aa (ac 6) ae)<|aa (b9<|aa (ac 5) ae)<|aa (dC .non)<|aa (b9<|aa (ai<|am bj (ac 5)<|ai<|bn<|aa (dC<|.str "q") ae)<|aa (ac 6) ae)<|aa (b9<|aa (ai<|am bj (ac 5)<|ai<|gn (ac 5) (br<|yA<|dC<|.int 1) aU)<|aa (ac 6) ae)<|aa (b9<|aa (ai<|aj (mW ad) EE 2<|aa (ac 0)<|aa (ac 5) ae)<|aa (ac 6) ae) ae)<|ah 8)
   (jM ad EE))
def gC(ad:Ad)(EE:DX):au:=
 (aC<|b9<|aa (am bj (ai<|gn (ac 2) (br<|ac 4) aU)<|ai<|gn (ac 2) aU<|br<|ac 4)<|aa (ac 3) ae)
def gx(ad:Ad)(EE:DX):au:=
 (aC<|b9<|aa (ac 2)<|aa (am az (ai<|bn<|aa (ac 5)<|aa (aQ aJ<|aa (ac 3) ae)<|aa (dC .non)<|aa (ai<|qw (ac 3)<|br<|yA<|dC<|.int 1)<|aa (ai<|aj (mW ad) EE 2<|aa (ac 0)<|aa (ac 3) ae) ae)<|ai<|aj (aX ad) EE 2<|aa (ac 0)<|aa (dC<|.int 5) ae) ae)
def h_(ad:Ad)(EE:DX):au:=
 (aC<|am az (ai<|bn<|aa (ai<|aQ dN<|aa (ac 1) ae)<|aa (b9<|aa (aQ aJ<|aa (ac 2) ae)<|aa (ac 3) ae)<|aa (b9<|aa (ac 2) ae)<|aa (b9<|aa (ai<|bn ae)<|aa (ac 3) ae)<|aa (dC .non)<|aa (b9<|aa (ac 2)<|aa (ac 3)<|aa (dC<|.int 0) ae) ae)<|ai<|aj (aX ad) EE 2<|aa (ac 0)<|aa (dC<|.int 6) ae)
def pG(ad:Ad)(EE:DX):au:=
 (ao (aL (ar<|am cI (ac 7)<|dC<|.int 7) (gx ad EE) aE)
  (h_ ad EE))
def pc(ad:Ad)(EE:DX):au:=
 (ao (aL (ar<|am cI (ac 7)<|dC<|.int 6) (gC ad EE) aE)
  (pG ad EE))
def lW(ad:Ad)(EE:DX):au:=
 (ao (aL (ar<|am cI (ac 7)<|dC<|.int 5) (gL ad EE) aE)
  (pc ad EE))
def kI(ad:Ad)(EE:DX):au:=
 (ao (aL (ar<|am cI (ac 7)<|dC<|.int 4) (gw ad EE) aE)
  (lW ad EE))
def lN(ad:Ad)(EE:DX):au:=
 (ao (aL (ar<|am cI (ac 7)<|dC<|.int 3) (gH ad EE) aE)
  (kI ad EE))
def iq(ad:Ad)(EE:DX):au:=
 (ao (aL (ar<|am ub (ac 7)<|dC<|.int 3) (aC<|ac 1) aE)
  (lN ad EE))
def lf(ad:Ad)(EE:DX):au:=
 (ao (av (ai<|aj (aX ad) EE 2<|aa (ac 0)<|aa (dC<|.int 9) ae)<|ah 7)
  (iq ad EE))
def gP(ad:Ad)(EE:DX):au:=
 (ao (av (am az (ac 2)<|ac 4)<|cU 2<|aP (ah 5)<|aP (ah 6) cD)
  (lf ad EE))
def mv(ad:Ad)(EE:DX):au:=
 (ao (av (ai<|aj (aX ad) EE 2<|aa (ac 0)<|aa (aQ bh<|aa (ac 2) ae) ae)<|ah 4)
  (gP ad EE))
def xg(ad:Ad)(EE:DX):au:=
 (ao (av (ac 1)<|cU 2<|aP (ah 2)<|aP (ah 3) cD)
  (mv ad EE))
def vK(ad:Ad):Sd:=aK ["_law_tape_here","_law_told","_law_rows","_law_cause","_law_at","_law_mix","_law_word","_law_way","_law_odd"] (xg ad)
theorem LL{ad:Ad}{n:Nat}{x0 x1:D}{M:Mem}{Q:DK}{E:DX}:vK ad [x0,x1] M Q E=xg ad (aw E) { nx:=λ_ M'=>drp Q .non M',rt:=drp Q } [some x0,some x1,none,none,none,none,none,none,none] M:=rfl
def jD(ad:Ad)(EE:DX):au:=
 (aL (ar<|am iX (ac 7)<|ai<|aj (sE ad) EE 3<|aa (ac 2)<|aa (ac 3)<|aa (ac 5) ae) (aC<|dC<|.bl false) aE)
def jN(ad:Ad)(EE:DX):au:=
 (ao (aL (mz (dk<|bU<|aQ bZ<|aa (ac 7)<|aa (dC<|.ty "bool") ae)<|ar<|am iX (aQ da<|aa (ac 5) ae)<|ac 6) (aC<|dC<|.bl false) aE)
   (jD ad EE))
def kg(ad:Ad)(EE:DX):au:=
 (ao (av (ai<|aj (lX ad) EE 2<|aa (ac 2)<|aa (ac 5) ae)<|ah 7)
   (jN ad EE))
def gG(ad:Ad)(EE:DX):au:=
 (ao (av (aQ da<|aa (ac 5) ae)<|ah 6)
   (kg ad EE))
def ib(ad:Ad)(EE:DX):au:=
 (ao (av (qa<|aj (vK ad) EE 2<|aa (ac 1)<|aa (qa<|aj (uO ad) EE 3<|aa (ac 1)<|aa (ac 2)<|aa (ac 3) ae) ae)<|ah 5)
   (gG ad EE))
def jB(ad:Ad)(EE:DX):au:=
 (ao (cJ (bR<|aa (dC<|.int 6) ae) (ah 4)<|ib ad EE)
  (aC<|dC<|.bl true))
def nP(ad:Ad)(EE:DX):au:=
 (ao (av (ai<|aj (xG ad) EE 3<|aa (am az (ac 2)<|dC<|.int 0)<|aa (am az (ac 2)<|dC<|.int 1)<|aa (am az (ac 2)<|dC<|.int 2) ae)<|ah 3)
  (jB ad EE))
def p9(ad:Ad)(EE:DX):au:=
 (ao (av (ai<|aj (uA ad) EE 4<|aa (ac 1)<|aa (dC<|.int 7)<|aa (dC<|.int 50)<|aa (dC<|.int 4) ae)<|ah 2)
  (nP ad EE))
def wE(ad:Ad)(EE:DX):au:=
 (ao (av (aj (uN ad) EE 1<|aa (ac 0) ae)<|ah 1)
  (p9 ad EE))
def Ag(ad:Ad):Sd:=aK ["_law_script","_law_tape_here","_law_case_here","_law_all","_law_k","_law_thing","_law_kept","_law_found"] (wE ad)
theorem MK{ad:Ad}{n:Nat}{x0:D}{M:Mem}{Q:DK}{E:DX}:Ag ad [x0] M Q E=wE ad (aw E) { nx:=λ_ M'=>drp Q .non M',rt:=drp Q } [some x0,none,none,none,none,none,none,none] M:=rfl
set_option genInjectivity false in
structure En(P:Program)(w:World)(K:Ng)(mg:Str->Option Value)(base:Heap)(ad:Ad):Prop where
 u0:Cls K ad.C_Askings
 u1:mg "Askings"=some (.ref ad.C_Askings)
 u2:Cls K ad.C_Walk
 u3:mg "Walk"=some (.ref ad.C_Walk)
 u4:NoAttr K ad.C_Askings "case"
 u5:NoAttr K ad.C_Askings "told"
 u6:NoAttr K ad.C_Askings "two"
 u7:NoAttr K ad.C_Walk "most"
 u8:NoAttr K ad.C_Walk "numbers"
 u9:NoAttr K ad.C_Walk "pieces"
 u10:NoAttr K ad.C_Walk "plan"
 u11:NoAttr K ad.C_Walk "steps"
 u12:ExcAt K ad.C_Dry
 u13:mg "Dry"=some (.ref ad.C_Dry)
 u14:ExcAt K ad.C_NoCase
 u15:mg "NoCase"=some (.ref ad.C_NoCase)
 u16:mg "all"=none
 u17:mg "any"=none
 u18:mg "bool"=none
 u19:mg "dict"=none
 u20:mg "enumerate"=none
 u21:mg "int"=none
 u22:mg "isinstance"=none
 u23:mg "len"=none
 u24:mg "list"=none
 u25:mg "min"=none
 u26:mg "range"=none
 u27:mg "repr"=none
 u28:mg "str"=none
 u29:mg "tuple"=none
 u30:mg "zip"=none
 f2:GI K ad.C_Walk "__init__" "Walk.__init__" Mp ad.a2 ad.d2 ["self","plan","stand","most"]
 f3:GM K ad.C_Walk "note_step" "Walk.note_step" KZ ad.a3 ad.d3 ["self","place","number"]
 f4:GM K ad.C_Walk "look" "Walk.look" FG ad.a4 ad.d4 ["self","place","name"]
 f5:GF K mg "run" FZ ad.a5 ad.d5 ["plan","stand","most"]
 f6:GF K mg "mark" G3 ad.a6 ad.d6 ["plan","stand","most"]
 f7:GF K mg "do_rows" FA ad.a7 ad.d7 ["walk","rows","place"]
 f8:GF K mg "do_row" Gk ad.a8 ad.d8 ["walk","row","place"]
 f9:GF K mg "do_if" G6 ad.a9 ad.d9 ["walk","row","place"]
 f10:GF K mg "do_again" Gp ad.a10 ad.d10 ["walk","row","place"]
 f11:GF K mg "number_of" FR ad.a11 ad.d11 ["plan","numbers","pieces","row"]
 f12:GF K mg "piece_read" GN ad.a12 ad.d12 ["plan","numbers","row"]
 f13:GF K mg "joined" FD ad.a13 ad.d13 ["word","y","z","wheel"]
 f14:GF K mg "all_things" G1 ad.a14 ad.d14 ["plan"]
 f15:GF K mg "number_in" GC ad.a15 ad.d15 ["plan","stand","thing"]
 f16:GF K mg "is_just" FN ad.a16 ad.d16 ["thing","told"]
 f17:GF K mg "are_just" FK ad.a17 ad.d17 ["things","told"]
 f18:GF K mg "unlike" G7 ad.a18 ad.d18 ["plan","one","other"]
 f19:GF K mg "marks" G9 ad.a19 ad.d19 ["case"]
 f20:GF K mg "unlike_of" Gb ad.a20 ad.d20 ["case"]
 f21:GF K mg "is_mix" FP ad.a21 ad.d21 ["things","thing"]
 f22:GF K mg "stand_of" Gj ad.a22 ad.d22 ["case","mix"]
 f23:GF K mg "number_mixed" Gm ad.a23 ad.d23 ["case","mix","thing"]
 f24:GF K mg "verdict_of" Gu ad.a24 ad.d24 ["two","one"]
 f25:GI K ad.C_Askings "__init__" "Askings.__init__" Mo ad.a25 ad.d25 ["self","case"]
 f26:GM K ad.C_Askings "ask" "Askings.ask" Fz ad.a26 ad.d26 ["self","mix"]
 f28:GF K mg "all_one_less" KF ad.a28 ad.d28 ["mix"]
 f29:GF K mg "is_narrowed" G4 ad.a29 ad.d29 ["case","thing"]
 f30:GF K mg "has_narrowed_form" Kv ad.a30 ad.d30 ["things","thing"]
 f31:GF K mg "is_asking" Gx ad.a31 ad.d31 ["things","thing"]
 f32:GF K mg "_law_tape" Gw ad.a32 ad.d32 ["_law_script"]
 f33:GF K mg "_law_draw" FQ ad.a33 ad.d33 ["_law_tape_here","_law_many"]
 f34:GF K mg "_law_names" GH ad.a34 ad.d34 ["_law_tape_here"]
 f35:GF K mg "_law_one_row" FY ad.a35 ad.d35 ["_law_tape_here","_law_frame"]
 f36:GF K mg "_law_loop" GD ad.a36 ad.d36 ["_law_tape_here","_law_frame","_law_deep"]
 f37:GF K mg "_law_some_rows" My ad.a37 ad.d37 ["_law_tape_here","_law_frame","_law_many","_law_deep"]
 f38:GF K mg "_law_plan" Go ad.a38 ad.d38 ["_law_tape_here","_law_most"]
 f39:GF K mg "_law_stand" FW ad.a39 ad.d39 ["_law_tape_here","_law_plan_here"]
 f40:GF K mg "_law_set" FU ad.a40 ad.d40 ["_law_here","_law_row"]
 f41:GF K mg "_law_do" GJ ad.a41 ad.d41 ["_law_here","_law_rows"]
 f42:GF K mg "_law_begun" Gn ad.a42 ad.d42 ["_law_plan_here","_law_stand_here","_law_most"]
 f43:GF K mg "_law_mark_by" FT ad.a43 ad.d43 ["_law_plan_here","_law_stand_here","_law_most"]
 f44:GF K mg "_law_two_stands" Lr ad.a44 ad.d44 ["_law_tape_here","_law_plan_here"]
 f45:GF K mg "_law_fewer" GL ad.a45 ad.d45 ["_law_tape_here","_law_plan_here","_law_one","_law_other","_law_few"]
 f46:GF K mg "_law_last_row" KR ad.a46 ad.d46 ["_law_tape_here","_law_plan_here"]
 f47:GF K mg "_law_case" Gy ad.a47 ad.d47 ["_law_tape_here","_law_rows","_law_most","_law_few"]
 f48:GF K mg "_law_things" G8 ad.a48 ad.d48 ["_law_plan_here"]
 f49:GF K mg "_law_unlike" FF ad.a49 ad.d49 ["_law_plan_here","_law_one","_law_other"]
 f50:GF K mg "_law_mixed" Ga ad.a50 ad.d50 ["_law_case_here","_law_mix"]
 f51:GF K mg "_law_verdict" FV ad.a51 ad.d51 ["_law_case_here","_law_mix"]
 f52:GF K mg "_law_is_mix" Gg ad.a52 ad.d52 ["_law_all","_law_thing"]
 f53:GF K mg "_law_is_narrowed" Ma ad.a53 ad.d53 ["_law_case_here","_law_all","_law_found"]
 f54:GF K mg "_law_power" Gd ad.a54 ad.d54 ["_law_many"]
 f55:GF K mg "_law_mix_of" GK ad.a55 ad.d55 ["_law_all","_law_number"]
 f56:GF K mg "_law_bare" Gh ad.a56 ad.d56 ["_law_tape_here","_law_case_here","_law_all"]
 f57:GF K mg "_law_made" Gq ad.a57 ad.d57 ["_law_tape_here","_law_case_here","_law_all"]
 f58:GF K mg "_law_odd_mix" Ge ad.a58 ad.d58 ["_law_tape_here","_law_mix"]
 f59:GF K mg "_law_bent" FS ad.a59 ad.d59 ["_law_tape_here","_law_told"]
 f60:GF K mg "law" dI ad.a60 ad.d60 ["_law_script"]
section
section
variable {X:Cx}{B:Bd}{a b c o e:Expr}{es:List Expr}{ta tb tc to:bp}{t:fj}{i:Nat}{x:Str}{pos p apos cpos:Pos}(hU:X.A.units+64<cLine)(hu:X.A.units+1<cLine)(hg:X.A.guards=some [])(hc:X.calm=true)(ha:DE X B a ta)(hb:DE X B b tb)(hd:DE X B c tc)
def v0:=kP (pos:=pos) F6 ha hb
def v1:=kP (pos:=pos) Ev ha hb
def v2:=kP (pos:=pos) Ek ha hb
def v3:=kP (pos:=pos) BO ha hb
def v4:=kP (pos:=pos) D8 ha hb
def v5:=kP (pos:=pos) Dn ha hb
def v6:=kP (pos:=pos) DB ha hb
def v7:=uj (pos:=pos) (zR hU) ha hb
def v8:=uj (pos:=pos) C8 ha hb
def v9:=uj (pos:=pos) (Bz hU) ha hb
def v10:=cO (X:=X) (B:=B) (p:=p) (pos:=pos) (e:=e) (es:=es) (t:=t) yE xq
def v11:=eP (X:=X) (B:=B) (p:=p) (pos:=pos) (e:=e) (es:=es) (t:=t) qo nc
def v12:=eP (X:=X) (B:=B) (p:=p) (pos:=pos) (e:=e) (es:=es) (t:=t) tQ kS
def v13:=cO (X:=X) (B:=B) (p:=p) (pos:=pos) (e:=e) (es:=es) (t:=t) pQ lE
def v14:=cO (X:=X) (B:=B) (p:=p) (pos:=pos) (e:=e) (es:=es) (t:=t) (yO hc) Eo
def v15:=eP (X:=X) (B:=B) (p:=p) (pos:=pos) (e:=e) (es:=es) (t:=t) (qt hc hU) Bt
def v16:=cO (X:=X) (B:=B) (p:=p) (pos:=pos) (e:=e) (es:=es) (t:=t) sf xq
def v17:=cO (X:=X) (B:=B) (p:=p) (pos:=pos) (e:=e) (es:=es) (t:=t) (yB hc) DR
def v18:=cO (X:=X) (B:=B) (p:=p) (pos:=pos) (e:=e) (es:=es) (t:=t) (zx hc) E9
def v19:=eP (X:=X) (B:=B) (p:=p) (pos:=pos) (e:=e) (es:=es) (t:=t) zb Ei
def v20:=cO (X:=X) (B:=B) (p:=p) (pos:=pos) (e:=e) (es:=es) (t:=t) (uo hg hU) By
def v21:=nO (X:=X) (B:=B) (pos:=pos) CN
def v22:=nO (X:=X) (B:=B) (pos:=pos) nc
def v23:=nO (X:=X) (B:=B) (pos:=pos) kS
def v24:=nO (X:=X) (B:=B) (pos:=pos) AB
def v25:=sv (X:=X) (B:=B) (apos:=apos) (cpos:=cpos) (o:=o) (e:=e) (es:=es) (t:=t) (to:=to) Qa Qx PySem.F.type_list_append sj
def v26:=sv (X:=X) (B:=B) (apos:=apos) (cpos:=cpos) (o:=o) (e:=e) (es:=es) (t:=t) (to:=to) Qa RY PySem.F.type_list_extend uq
def v27:=sv (X:=X) (B:=B) (apos:=apos) (cpos:=cpos) (o:=o) (e:=e) (es:=es) (t:=t) (to:=to) Qa QY PySem.F.type_list_pop E4
def v28:=GW (X:=X) (B:=B) (apos:=apos) (cpos:=cpos) (o:=o) (e:=e) (es:=es) (to:=to) (t:=t) Ri PySem.F.type_tuple_index tJ
def v29:=Ej (X:=X) (B:=B) (x:=x) (pos:=pos) (e:=e) (i:=i) (te:=ta) (pos':=p) Dk
def v30:=eV (pos:=pos) II ha hb
def v31:=eV (pos:=pos) (zR hU) ha hb
def v32:=eV (pos:=pos) C8 ha hb
def v33:=eV (pos:=pos) zX ha hb
def v34:=eV (pos:=pos) Fs ha hb
def v35:=eV (pos:=pos) (Bz hU) ha hb
def v36:=eV (pos:=pos) (Jk hU) ha hb
def v37:=eV (pos:=pos) (zC hU) ha hb
def v38:=eV (pos:=pos) JB ha hb
end
theorem idE{X:Cx}{B:Bd}{e:Expr}{t:bp}(h:DE X B e t):DE X B e t:=h
theorem idS{X:Cx}{B:Bd}{e:Stmt}{t:au}(h:DS X B e t):DS X B e t:=h
theorem idT{X:Cx}{B:Bd}{e:Expr}{t:eG}(h:DT X B e t):DT X B e t:=h
theorem idO{X:Cx}{B:Bd}{e:Expr}{r:g9}{a b:bp}(h:DE X B e (am r a b)):DE X B e (am r a b):=h
theorem idB{X:Cx}{B:Bd}{e:Expr}{r:oH}{t:fj}(h:DE X B e (aQ r t)):DE X B e (aQ r t):=h
theorem idC{X:Cx}{B:Bd}{e:Expr}{c:D}(h:DE X B e (dC c)):DE X B e (dC c):=h
theorem idM{X:Cx}{B:Bd}{e:Expr}{s:String}{r:zI}{o:bp}{t:fj}(h:DE X B e (rV s r o t)):DE X B e (rV s r o t):=h
theorem idQ{X:Cx}{B:Bd}{e:Expr}{t:bp}(h:DT X B e (ar t)):DT X B e (ar t):=h
local macro_rules | `(tactic| exists 2) => `(tactic| first
 |refine v0 ?_ ?_
 |refine v1 ?_ ?_
 |refine v2 ?_ ?_
 |refine v3 ?_ ?_
 |refine v4 ?_ ?_
 |refine v5 ?_ ?_
 |refine v6 ?_ ?_
 |refine v7 ?_ ?_ ?_ ?_
 |refine v8 ?_ ?_ ?_
 |refine v9 ?_ ?_ ?_ ?_)
local macro_rules | `(tactic| exists 3) => `(tactic| first
 |refine v10 ?_ ?_ ?_ ?_ ?_ ?_ ?_
 |refine v11 ?_ ?_ ?_ ?_ ?_ ?_ ?_
 |refine v12 ?_ ?_ ?_ ?_ ?_ ?_ ?_
 |refine v13 ?_ ?_ ?_ ?_ ?_ ?_ ?_
 |refine v14 ?_ ?_ ?_ ?_ ?_ ?_ ?_ ?_
 |refine v15 ?_ ?_ ?_ ?_ ?_ ?_ ?_ ?_ ?_
 |refine v16 ?_ ?_ ?_ ?_ ?_ ?_ ?_
 |refine v17 ?_ ?_ ?_ ?_ ?_ ?_ ?_ ?_
 |refine v18 ?_ ?_ ?_ ?_ ?_ ?_ ?_ ?_
 |refine v19 ?_ ?_ ?_ ?_ ?_ ?_ ?_
 |refine v20 ?_ ?_ ?_ ?_ ?_ ?_ ?_ ?_ ?_)
local macro_rules | `(tactic| exists 4) => `(tactic| first
 |refine v21 ?_ ?_ ?_ ?_
 |refine v22 ?_ ?_ ?_ ?_
 |refine v23 ?_ ?_ ?_ ?_
 |refine v24 ?_ ?_ ?_ ?_)
local macro_rules | `(tactic| exists 5) => `(tactic| first
 |refine v25 ?_ ?_ ?_ ?_ ?_ ?_ ?_ ?_
 |refine v26 ?_ ?_ ?_ ?_ ?_ ?_ ?_ ?_
 |refine v27 ?_ ?_ ?_ ?_ ?_ ?_ ?_ ?_)
local macro_rules | `(tactic| exists 8) => `(tactic| first
 |refine v30 ?_ ?_ ?_
 |refine v31 ?_ ?_ ?_ ?_
 |refine v32 ?_ ?_ ?_
 |refine v33 ?_ ?_ ?_
 |refine v34 ?_ ?_ ?_
 |refine v35 ?_ ?_ ?_ ?_
 |refine v36 ?_ ?_ ?_ ?_
 |refine v37 ?_ ?_ ?_ ?_
 |refine v38 ?_ ?_ ?_)
local macro_rules | `(tactic| exists 1) => `(tactic| first
 |refine dnm _ ?_ ?_ ?_ ?_
 |exact Kb
 |refine GT ?_
 |refine LN (JV ?_) ?_ ?_ ?_
 |exact IL
 |refine B0 ?_ ?_ ?_ ?_ ?_ ?_
 |(refine idO ?_;exists 2)
 |(refine idB ?_;exists 3)
 |refine Hs ?_
 |refine Il ?_
 |refine Ii ?_ ?_ ?_ ?_
 |refine Bl ?_ ?_ ?_
 |exact Le
 |exact Js
 |(refine idC ?_;exists 4)
 |(refine idM ?_;exists 5)
 |refine v28 ?_ ?_ ?_ ?_ ?_ ?_ ?_
 |refine A0 ?_ ?_ ?_
 |refine Iw ?_
 |refine GZ ?_ ?_
 |refine IU ?_
 |refine F0 ?_
 |exact EF
 |refine Dp ?_ ?_
 |refine tu ?_ ?_ ?_ ?_ ?_ ?_ ?_ ?_ ?_
 |refine tN ?_ ?_ ?_ ?_ ?_ ?_ ?_ ?_
 |refine Fn ?_ ?_ ?_ ?_
 |refine Di ?_ ?_ ?_ ?_ ?_
 |refine Bo ?_ ?_ ?_ ?_ ?_
 |apply Af
 |apply AO
 |apply BR)
local macro_rules | `(tactic| exists 7) => `(tactic| first
 |(refine idQ ?_;exists 8)
 |refine IH ?_
 |refine Hv ?_ ?_
 |refine MP ?_)
local macro_rules | `(tactic| exists 6) => `(tactic| first
 |refine L9 ?_ ?_ ?_
 |refine Ho ?_ ?_ ?_ ?_ ?_ ?_
 |refine G_ ?_ ?_ ?_ ?_ ?_
 |refine Jh ?_
 |refine EJ ?_ ?_
 |refine I_ ?_ ?_ ?_ ?_ ?_
 |refine J3 ?_ ?_ ?_ ?_ ?_ ?_
 |refine CF ?_ ?_ ?_
 |exact ds_pass
 |refine Cg ?_ ?_ ?_ ?_ ?_ ?_
 |refine v29 ?_ ?_ ?_ ?_ ?_
 |apply Ae
 |apply E6)
local macro_rules | `(tactic| exists 9) => `(tactic| first
 |refine gs ?_ ?_
 |refine jS ?_
 |exact EY
 |refine F8 ?_
 |refine Jq ?_
 |refine JP ?_ ?_
 |refine Mx ?_ ?_
 |exact EO
 |refine Db ?_
 |refine Fk ?_ ?_ ?_ ?_
 |refine J6 ?_ ?_ ?_ ?_
 |refine HJ ?_ ?_ ?_ ?_
 |refine Hf ?_ ?_ ?_ ?_
 |refine BG ?_ ?_ ?_
 |exact CQ
 |refine EC ?_ ?_ ?_ ?_
 |refine yG ?_ ?_ ?_ ?_
 |refine Ic ?_ ?_ ?_ ?_ ?_
 |refine IE ?_
 |apply FC.nil
 |apply FC.cons
 |exact D9
 |refine EU ?_
 |refine AU ?_ ?_
 |exact Fc)
local macro_rules | `(tactic| exists 0) => `(tactic| first
 |exact Or.inl rfl
 |exact⟨_,_,_,_,_,_,_,by assumption,by assumption,Room.mono (by assumption) (by first|decide|lia),GG,by assumption⟩
 |exact⟨_,_,_,_,_,_,_,by assumption,by assumption,Room.mono (by assumption) (by first|decide|lia),AR,uxN⟩
 |assumption
 |exact Room.mono (by assumption) (by first|decide|lia)
 |with_reducible exact GG
 |with_reducible exact AR
 |with_reducible exact uxN
 |exact FnScope.nd (by assumption)
 |(apply nomark;decide)
 |(apply nodC;decide)
 |exact PassesOwn.leaving
 |exact λ_ _=>rfl
 |exact Or.inr (Or.inl rfl)
 |exact Or.inr rfl
 |exact Or.inr (Or.inr rfl)
 |rfl
 |exact λ_=>rfl
 |decide
 |exact⟨rfl,rfl,rfl,rfl⟩
 |with_reducible intro _)
local macro_rules | `(tactic| trivial) => `(tactic| first
 |eq_refl
 |(with_reducible first
 |(refine idE ?_;exists 1)
 |refine da_c ?_ ?_ ?_
 |exact IA
 |(refine idT ?_;exists 7)
 |(refine idS ?_;exists 6)
 |exists 9)
 |exists 0)
set_option hygiene false in
local macro_rules | `(tactic| exists $t:ident, $g) => `(tactic| exact fnS rfl ($g).F ($g).b ⟨rfl, rfl, rfl, by decide +kernel, rfl, by decide +kernel, by decide +kernel⟩ fun hS _ A _ s _ _ _ _ hr ux => (by have hU := hr.units; have hu := BU hr; have hg := hr.gd; have E2 := E; cases E2; unfold $t:ident; (first | refine gs ?_ ?_ | refine jS ?_); repeat' trivial))
set_option hygiene false in
local macro_rules | `(tactic| exists $t:ident, $g, $[$ps:ident],*) => `(tactic| exact fnS rfl ($g).F ($g).b ⟨rfl, rfl, rfl, by decide +kernel, rfl, by decide +kernel, by decide +kernel⟩ fun hS _ A _ s _ _ _ _ hr ux => (by have hU := hr.units; have hu := BU hr; have hg := hr.gd; have E2 := E; cases E2; unfold $t:ident $[$ps:ident]*; (first | refine gs ?_ ?_ | refine jS ?_); repeat' trivial))
set_option hygiene false in
local macro_rules | `(tactic| exists ($k), $t:ident, $g, $[$ps:ident],*) => `(tactic| exact fnS (k := $k) rfl ($g).F ($g).b ⟨rfl, rfl, rfl, by decide +kernel, rfl, by decide +kernel, by decide +kernel⟩ fun hS _ A _ s _ _ _ _ hr ux => (by have hU := hr.units; have hu := BU hr; have hg := hr.gd; have E2 := E; cases E2; unfold $t:ident $[$ps:ident]*; (first | refine gs ?_ ?_ | refine jS ?_); repeat' trivial))
variable {P:Program}{w:World}{K:Ng}{mg:Str->Option Value}{base:Heap}{ad:Ad}(E:En P w K mg base ad)
include E
theorem LQ:cG P w mg base E.f2.F E.f2.b 1 (E3 ad):=by
 exists Es,E.f2,Bw,Aj,Ah
theorem Gv:cG P w mg base E.f3.F E.f3.b 1 (tI ad):=by
 exists Dd,E.f3,C6
theorem JZ:cG P w mg base E.f4.F E.f4.b 2 (mZ ad):=by
 have:=Gv E
 exists uH,E.f4,vq
theorem IK:cG P w mg base E.f13.F E.f13.b 1 (vX ad):=by
 exists wC,E.f13,wm,xQ,wk,xE,y8
theorem IN:cG P w mg base E.f12.F E.f12.b 1 (vF ad):=by
 exists m9,E.f12,xC,vB
theorem GS:cG P w mg base E.f11.F E.f11.b 2 (qO ad):=by
 have:=IK E;have:=IN E
 exists lC,E.f11,vw,y9,uP
theorem q_:∀n:Nat,cG P w mg base E.f7.F E.f7.b (2+n) (Sz ad n)/\cG P w mg base E.f8.F E.f8.b (2+n) (SD ad n)/\cG P w mg base E.f9.F E.f9.b (2+n) (SE ad n)/\cG P w mg base E.f10.F E.f10.b (2+n) (SF ad n):=by
 have:=JZ E;have:=Gv E;have:=GS E;intro n
 induction n with
 |zero=>exact⟨eI,eI,eI,eI⟩
 |succ n ih=>
  obtain⟨_,_,_,_⟩:=ih;refine⟨?_,?_,?_,?_⟩
  .exists (2+n),xZ,E.f7,uT
  .exists (2+n),ij,E.f8,xn,uW,wV,wF,wz,wU
  .exists (2+n),yj,E.f9,xS
  .exists (2+n),wr,E.f10,vi,vV
theorem IV:cG P w mg base E.f5.F E.f5.b 27 (ql ad):=by
 have:=LQ E;obtain⟨_,_,_,_⟩:=q_ E 24
 exists xV,E.f5,wJ,y0
theorem AL:cG P w mg base E.f6.F E.f6.b 28 (lP ad):=by
 have:=IV E
 exists uV,E.f6,x_,x9
theorem HU:cG P w mg base E.f14.F E.f14.b 1 (wO ad):=by
 exists vJ,E.f14
theorem A_:cG P w mg base E.f15.F E.f15.b 1 (mV ad):=by
 exists rb,E.f15,xJ
theorem j6:∀n:Nat,cG P w mg base E.f16.F E.f16.b (0+n) (SG ad n)/\cG P w mg base E.f17.F E.f17.b (0+n) (SH ad n):=by
 intro n
 induction n with
 |zero=>exact⟨eI,eI⟩
 |succ n ih=>
  obtain⟨_,_⟩:=ih;refine⟨?_,?_⟩
  .exists (0+n),rq,E.f16,jF,jV,k9,jY
  .exists (0+n),vP,E.f17,jK
theorem JM:cG P w mg base E.f18.F E.f18.b 2 (xc ad):=by
 have:=HU E;have:=A_ E
 exists vM,E.f18
theorem Iy:cG P w mg base E.f19.F E.f19.b 29 (w_ ad):=by
 have:=AL E
 exists uF,E.f19,oP,jQ,pF
theorem J5:cG P w mg base E.f20.F E.f20.b 3 (xh ad):=by
 have:=JM E
 exists v_,E.f20
theorem Bf:cG P w mg base E.f21.F E.f21.b 25 (i_ ad):=by
 obtain⟨_,_⟩:=j6 E 24
 exists qI,E.f21
theorem HV:cG P w mg base E.f23.F E.f23.b 2 (nJ ad):=by
 have:=A_ E
 exists xY,E.f23
theorem HB:cG P w mg base E.f22.F E.f22.b 3 (vQ ad):=by
 have:=HV E
 exists ye,E.f22,oO,gz
theorem Je:cG P w mg base E.f24.F E.f24.b 1 (xm ad):=by
 exists qy,E.f24,uR
theorem MN:cG P w mg base E.f25.F E.f25.b 30 (DZ ad):=by
 have:=Iy E
 exists EN,E.f25,ur
theorem Jp:cG P w mg base E.f26.F E.f26.b 29 (lD ad):=by
 have:=AL E;have:=HB E;have:=Je E
 exists uI,E.f26,ii,ka
theorem Lv:cG P w mg base E.f28.F E.f28.b 1 (DH ad):=by
 exists CV,E.f28
theorem JO:cG P w mg base E.f31.F E.f31.b 26 (uY ad):=by
 have:=Bf E
 exists uL,E.f31
theorem Kg:cG P w mg base E.f30.F E.f30.b 27 (zP ad):=by
 have:=JO E;have:=Bf E
 exists Bk,E.f30,oQ,p7
theorem HQ:cG P w mg base E.f29.F E.f29.b 32 (lX ad):=by
 have:=MN E;have:=Jp E;have:=Lv E;have:=Kg E;obtain⟨_,_⟩:=j6 E 24;have:=J5 E
 exists qM,E.f29,fR,jE,gY,oJ,ie,ik,jR
theorem JQ:cG P w mg base E.f32.F E.f32.b 1 (uN ad):=by
 exists vO,E.f32
theorem cN:cG P w mg base E.f33.F E.f33.b 1 (aX ad):=by
 exists wI,E.f33,fE,kT,lF,gX,gO,eU,vH,vj,ir,o9,ve,xI
theorem HH:cG P w mg base E.f34.F E.f34.b 2 (vm ad):=by
 have:=cN E
 exists wj,E.f34,xL,w4,vt
theorem JD:cG P w mg base E.f35.F E.f35.b 2 (vx ad):=by
 have:=cN E
 exists xo,E.f35,uJ,xa,wW,wN,vg,ww,uM,uU,wX
theorem mB:∀n:Nat,cG P w mg base E.f36.F E.f36.b (2+n) (Sw ad n)/\cG P w mg base E.f37.F E.f37.b (2+n) (SA ad n):=by
 have:=cN E;have:=JD E;intro n
 induction n with
 |zero=>exact⟨eI,eI⟩
 |succ n ih=>
  obtain⟨_,_⟩:=ih;refine⟨?_,?_⟩
  .exists (2+n),xD,E.f36,yb,xp,y6,uZ,wy,x8,xP,wb,wY
  .exists (2+n),EZ,E.f37,vT,yf,wl,p8,sF,o4,zM,BJ,AJ,BN,BK,Aw
theorem Jf:cG P w mg base E.f38.F E.f38.b 27 (vh ad):=by
 have:=cN E;have:=HH E;obtain⟨_,_⟩:=mB E 24
 exists xb,E.f38,yi,xR,wa,xM,wv
theorem J1:cG P w mg base E.f39.F E.f39.b 2 (rm ad):=by
 have:=cN E
 exists wT,E.f39,oz,gJ,nM,k6,nQ
theorem GO:cG P w mg base E.f40.F E.f40.b 1 (vb ad):=by
 exists lj,E.f40,eA,dY,fq,kQ,gr,nN,gB,jx,fV,j_,xU,uv,xf
theorem j8:∀n:Nat,cG P w mg base E.f41.F E.f41.b (1+n) (Sy ad n):=by
 have:=GO E;intro n
 induction n with
 |zero=>exact eI
 |succ n ih=>
  exists (1+n),xX,E.f41,cV,i9,dL,we,iw,pw,o_,dj,kE,pe
theorem BQ:cG P w mg base E.f42.F E.f42.b 1 (kU ad):=by
 exists xw,E.f42
theorem Jz:cG P w mg base E.f43.F E.f43.b 26 (mq ad):=by
 have:=BQ E;have:=j8 E 24
 exists uw,E.f43,kF,kd
theorem KC:cG P w mg base E.f44.F E.f44.b 3 (EH ad):=by
 have:=cN E;have:=J1 E
 exists Fe,E.f44,um,sB,uf,pj,pB
theorem Hg:cG P w mg base E.f45.F E.f45.b 2 (vD ad):=by
 have:=cN E
 exists vW,E.f45,pA,pv,oF,k4,pK,gA,pz,nU
theorem Mw:cG P w mg base E.f46.F E.f46.b 2 (Df ad):=by
 have:=cN E
 exists Ey,E.f46,sQ,sC,pT
theorem HA:cG P w mg base E.f47.F E.f47.b 28 (uA ad):=by
 have:=BQ E;have:=j8 E 24;have:=cN E;have:=Hg E;have:=Mw E;have:=Jf E;have:=KC E
 exists xN,E.f47,lm,fI,fJ,m7,kW,gF,il,nX,oo,nY,gu,hV,oR,jv,o6
theorem Bp:cG P w mg base E.f48.F E.f48.b 1 (nw ad):=by
 exists wK,E.f48
theorem He:cG P w mg base E.f49.F E.f49.b 2 (xG ad):=by
 have:=Bp E
 exists xr,E.f49,oa,oU,gq
theorem Jr:cG P w mg base E.f50.F E.f50.b 2 (uX ad):=by
 have:=Bp E
 exists xl,E.f50,pM,pk,oh,pL,kh,oj,gy
theorem su:cG P w mg base E.f51.F E.f51.b 27 (lg ad):=by
 have:=Jz E;have:=Jr E
 exists uK,E.f51,n_,ig,jH
theorem Io:cG P w mg base E.f52.F E.f52.b 1 (lO ad):=by
 exists qW,E.f52,fN
theorem Md:cG P w mg base E.f53.F E.f53.b 28 (sE ad):=by
 have:=Io E;have:=su E
 exists CD,E.f53,lI,o5,ox,tE,lL,sJ,mj,pb,nZ
theorem Br:cG P w mg base E.f54.F E.f54.b 1 (qK ad):=by
 exists yg,E.f54,oC
theorem HN:cG P w mg base E.f55.F E.f55.b 2 (xz ad):=by
 have:=Br E
 exists vN,E.f55
theorem IF:cG P w mg base E.f56.F E.f56.b 28 (vd ad):=by
 have:=cN E;have:=su E
 exists uD,E.f56,oi,og,fU,jG,kC,jz
theorem HD:cG P w mg base E.f57.F E.f57.b 29 (uO ad):=by
 have:=IF E;have:=cN E;have:=HN E;have:=Br E;have:=su E
 exists xj,E.f57,jW,kj,nS,fM,kA,ki
theorem IC:cG P w mg base E.f58.F E.f58.b 2 (mW ad):=by
 have:=cN E
 exists y4,E.f58,jy,jC,jJ
theorem JE:cG P w mg base E.f59.F E.f59.b 3 (vK ad):=by
 have:=cN E;have:=IC E
 exists xg,E.f59,mv,gP,lf,iq,lN,kI,lW,pc,pG,h_,gx,gC,gL,jM,gw,gH
theorem HG:cG P w mg base E.f60.F E.f60.b 33 (Ag ad):=by
 have:=JE E;have:=HA E;have:=Md E;have:=HD E;have:=JQ E;have:=He E;have:=HQ E
 exists wE,E.f60,p9,nP,jB,ib,gG,kg,jN,jD
end
end Tw
namespace L3
open PySem L2
theorem aG{T:Sd}{EE:DX}{ds:List D}{M:Mem}{Q:DK}{b:BxQ EE Q}{d:D}(hm:∀Q' E',Q' d M->T ds M Q' E')(h:Q d M):calls T EE ds M Q b:=
 aA λQ' E' a _=>hm Q' E' (a d M h)
theorem bO{α:Type}{xs:List α}{i:Int}(h:0<=i):atI xs i=xs[i.toNat]?:=by
 unfold atI r_;rw[if_pos h]
 by_cases a:i<xs.length
 .rw[if_pos a];rfl
 .rw[if_neg a,OP (by lia)];rfl
@[simp] theorem atI_0 {α:Type} {xs:List α}:atI xs 0=xs[0]?:=bO (by decide)
@[simp] theorem atI_1 {α:Type} {xs:List α}:atI xs 1=xs[1]?:=bO (by decide)
@[simp] theorem atI_2 {α:Type} {xs:List α}:atI xs 2=xs[2]?:=bO (by decide)
@[simp] theorem atI_3 {α:Type} {xs:List α}:atI xs 3=xs[3]?:=bO (by decide)
@[simp] theorem atI_4 {α:Type} {xs:List α}:atI xs 4=xs[4]?:=bO (by decide)
theorem bA{g:jn}{tb:au}{DD:DEnds}{ok:Mem->Prop}{b:BxF g tb DD ok}(I:List D->Dl->Mem->Prop)(hok:∀xs U M,I xs U M->ok M)(h0:∀U M,I [] U M->DD.nx U M)
  (hs:∀x xs U M,I (x::xs) U M->∀D':DEnds,(∀δ' M',I xs δ' M'->D'.nx δ' M')->(∀δ' M',I xs δ' M'->D'.ct δ' M')->D'.rt=DD.rt->D'.bk=DD.nx->g x U M λδ2 M2=>tb D' δ2 M2):∀xs U M,I xs U M->ua g tb DD ok b xs U M
 |[],U,M,h=>⟨hok _ _ _ h,h0 U M h⟩
 |x::xs,U,M,h=>⟨hok _ _ _ h,hs x xs U M h _ (λδ' M' a=>bA I hok h0 hs xs δ' M' a) (λδ' M' a=>bA I hok h0 hs xs δ' M' a) rfl rfl⟩
theorem bM{g:jn}{tt:eG}{te:bp}{ok:Mem->Prop}{Q:List D->Mem->Prop}{b:BxC g tt te ok Q}(I:List D->List D->Dl->Mem->Prop)(hok:∀xs acc U M,I xs acc U M->ok M)(h0:∀acc U M,I [] acc U M->Q acc M)
  (hs:∀x xs acc U M,I (x::xs) acc U M->∀N:Bool->D->Dl->Mem->Prop,(∀y δ' M',acc.length<sizeLine->I xs (acc++[y]) δ' M'->N true y δ' M')->(∀y δ' M',I xs acc δ' M'->N false y δ' M')->g x U M λδ2 M2=>tt δ2 M2 λc M3=>if c=true then te δ2 M3 λy M4=>N true y δ2 M4 else N false .non δ2 M3)
  (hl:∀x xs acc U M,I (x::xs) acc U M->acc.length<sizeLine):∀xs acc U M,I xs acc U M->cF g tt te ok Q b xs acc U M
 |[],acc,U,M,h=>⟨hok _ _ _ _ h,h0 acc U M h⟩
 |x::xs,acc,U,M,h=>⟨hok _ _ _ _ h,hs x xs acc U M h (λk y δ' M'=>if k=true then acc.length<sizeLine/\cF g tt te ok Q b xs (acc++[y]) δ' M' else cF g tt te ok Q b xs acc δ' M')
   (λy δ' M' a e=>by rw[if_pos rfl];exact⟨a,bM I hok h0 hs hl xs _ δ' M' e⟩) (λy δ' M' e=>by rw[if_neg (by simp)];exact bM I hok h0 hs hl xs _ δ' M' e) |> λz=>by simpa using z⟩
theorem aZ{n:Nat}(h:n<=1000000):n<=sizeLine:=Ny h (by decide)
theorem fS{n:Nat}(h:n<1000000):n<sizeLine:=Nt h (by decide)
end L3
namespace Tw
open PySem L2 L3
inductive Rw where
 |put (x:Str) (k:Int)|take (x:Str) (i:Int)|pick (x y:Str)|two (w x y z:Str)|ifr (x:Str) (a b:List Rw)|again (x:Str) (a:List Rw)
mutual
def Rw.d:Rw->D
 |.put x k=>.tup [.str "put",.str x,.int k]
 |.take x i=>.tup [.str "take",.str x,.int i]
 |.pick x y=>.tup [.str "pick",.str x,.str y]
 |.two w x y z=>.tup [.str w,.str x,.str y,.str z]
 |.ifr x a b=>.tup [.str "if",.str x,.tup (ay a),.tup (ay b)]
 |.again x a=>.tup [.str "again",.str x,.tup (ay a)]
def ay:List Rw->List D
 |[]=>[]
 |r::rs=>r.d::ay rs
end
abbrev iA:=List (Str×Int)
def gN(n:iA)(x:Str):Option Int:=(n.find? λp=>decide (p.1=x)).map (·.2)
def nm(n:iA)(x:Str):Int:=(gN n x).getD 0
def sN(n:iA)(x:Str)(v:Int):iA:=n.map λp=>if p.1=x then (p.1,v) else p
def dG(n:iA):List (ax×D):=n.map λp=>(Nm p.1,D.int p.2)
theorem FJ:∀{n:iA} {x:Str},x∈n.map (·.1)->gN n x=some (nm n x)
 |[],_,h=>by simp at h
 |(y,v)::n,x,h=>by
  by_cases e:y=x
  .simp[gN,nm,e]
  .have:=FJ (n:=n) (x:=x) (by simpa [N8 e,eq_comm,e] using h)
   simpa [gN,nm,e] using this
theorem cQ:∀{n:iA} {x:Str},ba (dG n) (Nm x)=(gN n x).map D.int
 |[],x=>rfl
 |(y,v)::n,x=>by
  by_cases e:y=x
  .simp[ba,dG,gN,e]
  .have:=cQ (n:=n) (x:=x)
   simpa [ba,dG,gN,e] using this
theorem AM:∀{n:iA} {x:Str},x∈n.map (·.1)->((dG n).any λkv=>decide (kv.1=Nm x))=true
 |[],_,h=>by simp at h
 |(y,v)::n,x,h=>by
  by_cases e:y=x
  .simp[dG,e]
  .have:=AM (n:=n) (x:=x) (by simpa [N8 e,eq_comm,e] using h)
   simp only[dG,Nb,OU,Bool.or_eq_true]at this ⊢;exact .inr this
theorem ku{n:iA}{x:Str}{v:Int}(h:x∈n.map (·.1)):bL (dG n) (Nm x) (.int v)=dG (sN n x v):=by
 unfold bL;rw[AM h,if_pos rfl];simp only[dG,sN,NQ];apply Og;intro p _
 by_cases e:p.1=x
 .simp[e]
 .simp[e]
theorem El{n:iA}{x:Str}{v:Int}:(sN n x v).map (·.1)=n.map (·.1):=by
 simp only[sN,NQ];apply Og;intro p _
 by_cases e:p.1=x<;>simp[e]
structure Cf where
 m:Int
 pieces:List Int
 most:Nat
structure Sx where
 nums:iA
 steps:List (List Int×Int)
def Dj(w:Str)(y z m:Int):Int:=if w="sum" then (y+z) % m else if w="by" then y*z % m else if w="less" then (if y<z then 1 else 0) else if y=z then 1 else 0
def fc(c:Cf)(n:iA):Rw->Int
 |.put _ k=>k
 |.take _ i=>(c.pieces[i.toNat]?).getD 0
 |.pick _ y=>(c.pieces[(nm n y % (c.pieces.length:Int)).toNat]?).getD 0
 |.two w _ y z=>Dj w (nm n y) (nm n z) c.m
 |_=>0
def rZ:Rw->Str
 |.put x _=>x
 |.take x _=>x
 |.pick x _=>x
 |.two _ x _ _=>x
 |.ifr x _ _=>x
 |.again x _=>x
def nt(c:Cf)(pl:List Int)(v:Int)(s:Sx):Bool×Sx:=if s.steps.length<c.most then (true,⟨s.nums,s.steps++[(pl,v)]⟩) else (false,s)
def lk(n:iA)(x:Str):Int:=if nm n x=0 then 0 else 1
def bK(c:Cf)(x:Str)(pl:List Int)(body:Nat->Sx->Bool×Sx):Nat->Nat->Sx->Bool×Sx
 |0,_,s=>(false,s)
 |f+1,t,s=>if (nt c (pl++[(t:Int)]) (lk s.nums x) s).1=true then
   (if lk s.nums x=1 then
    (if (body t (nt c (pl++[(t:Int)]) (lk s.nums x) s).2).1=true then bK c x pl body f (t+1) (body t (nt c (pl++[(t:Int)]) (lk s.nums x) s).2).2 else body t (nt c (pl++[(t:Int)]) (lk s.nums x) s).2)
   else nt c (pl++[(t:Int)]) (lk s.nums x) s)
  else nt c (pl++[(t:Int)]) (lk s.nums x) s
mutual
def df(c:Cf):Rw->List Int->Sx->Bool×Sx
 |.ifr x a b,pl,s=>if (nt c pl (lk s.nums x) s).1=true then (if lk s.nums x=1 then bg c a (pl++[lk s.nums x]) 0 (nt c pl (lk s.nums x) s).2 else bg c b (pl++[lk s.nums x]) 0 (nt c pl (lk s.nums x) s).2) else nt c pl (lk s.nums x) s
 |.again x a,pl,s=>bK c x pl (λt s=>bg c a (pl++[(t:Int)]) 0 s) (c.most+1) 0 s
 |.put x k,pl,s=>if (nt c pl (fc c s.nums<|.put x k) s).1=true then (true,⟨sN s.nums x (fc c s.nums<|.put x k),(nt c pl (fc c s.nums<|.put x k) s).2.steps⟩) else nt c pl (fc c s.nums<|.put x k) s
 |.take x i,pl,s=>if (nt c pl (fc c s.nums<|.take x i) s).1=true then (true,⟨sN s.nums x (fc c s.nums<|.take x i),(nt c pl (fc c s.nums<|.take x i) s).2.steps⟩) else nt c pl (fc c s.nums<|.take x i) s
 |.pick x y,pl,s=>if (nt c pl (fc c s.nums<|.pick x y) s).1=true then (true,⟨sN s.nums x (fc c s.nums<|.pick x y),(nt c pl (fc c s.nums<|.pick x y) s).2.steps⟩) else nt c pl (fc c s.nums<|.pick x y) s
 |.two w x y z,pl,s=>if (nt c pl (fc c s.nums<|.two w x y z) s).1=true then (true,⟨sN s.nums x (fc c s.nums<|.two w x y z),(nt c pl (fc c s.nums<|.two w x y z) s).2.steps⟩) else nt c pl (fc c s.nums<|.two w x y z) s
def bg(c:Cf):List Rw->List Int->Nat->Sx->Bool×Sx
 |[],_,_,s=>(true,s)
 |r::rs,pl,j,s=>if (df c r (pl++[(j:Int)]) s).1=true then bg c rs pl (j+1) (df c r (pl++[(j:Int)]) s).2 else df c r (pl++[(j:Int)]) s
end
def dZ(c:Cf)(r:Rw)(pl:List Int)(s:Sx):Bool×Sx:=if s.steps.length<c.most then (true,⟨sN s.nums (rZ r) (fc c s.nums r),s.steps++[(pl,fc c s.nums r)]⟩) else (false,s)
def vI:Rw->Bool
 |.ifr _ _ _=>false
 |.again _ _=>false
 |_=>true
theorem bc{c:Cf}{r:Rw}{pl:List Int}{s:Sx}(h:vI r=true):df c r pl s=dZ c r pl s:=by
 cases r with
 |ifr x a b=>simp[vI]at h
 |again x a=>simp[vI]at h
 |put x k=>simp only[df,dZ,nt,rZ];split<;>simp_all
 |take x k=>simp only[df,dZ,nt,rZ];split<;>simp_all
 |pick x k=>simp only[df,dZ,nt,rZ];split<;>simp_all
 |two w x y z=>simp only[df,dZ,nt,rZ];split<;>simp_all
theorem bo(a b:String):(Oh a=Oh b)=(a=b):=by
 refine propext ⟨λh=>?_,λh=>by rw[h]⟩
 rw[Str.ofString_eq_byList]at h;have c:=congrArg (λx:Str=>x.cps.toList) h;simp only[Str.ofStringByList]at c;exact String.toList_inj.mp ((QL λx y e=>Char.toNat_inj.mp e).mp c)
end Tw
open PySem L2 L3 Tw
local macro_rules | `(tactic| simp! [$a,*]) => do let p <- ("Ah Aj Bw C6 vq y8 xE wk xQ wm vB xC uP y9 vw uT wU wz wF wV uW xn xS vV vi y0 wJ x9 x_ xJ jY k9 jV jF jK pF jQ oP gz oO uR ur ka ii p7 oQ jR ik ie oJ gY jE fR xI ve o9 ir vj vH eU gO gX lF kT fE vt w4 xL wX uU uM ww vg wN wW xa uJ wY wb xP x8 wy uZ y6 xp yb Aw BK BN AJ BJ zM o4 sF p8 wl yf vT wv xM wa xR yi nQ k6 nM gJ oz xf uv xU j_ fV jx gB nN gr kQ fq dY eA pe kE dj o_ pw iw we dL i9 cV kd kF pB pj uf sB um nU pz gA pK k4 oF pv pA pT sC sQ o6 jv oR hV gu nY oo nX il gF kW m7 fJ fI lm gq oU oa gy oj kh pL oh pk pM jH ig n_ fN nZ pb mj sJ lL tE ox o5 lI oC jz kC jG fU og oi ki kA fM nS kj jW jJ jC jy gH gw jM gL gC gx h_ pG pc lW kI lN iq lf gP mv jD jN kg gG ib jB nP p9 qX BC lM Jx Bg CY g_ qJ rf qf ng da pI FX Iz qw aK startN ao aL ar bU zH am cI iX dv bw bV aI fX ac dC aC Ke aE dk jp mz iW oI yw i8 az bt cP ai frz bj Cb AC AW yA av ah cU aP cD fg C5 aa ae b9 bn aQ bh dN aJ bZ cK tG m8 Eu dF ia cb rV cC oy Ff dTM o8 iH kJ bP bI mD mC pE Ch oSl gn br aU aj eh uz cX bR G5 t_ cq oZ bX qa qi frzs JT qk uu k_".splitOn " ").toArray.mapM (fun s => `(Lean.Parser.Tactic.simpLemma| ↓$(Lean.mkIdent s.toName):ident)); let q <- ("List.map_cons List.map_nil List.cons_append List.nil_append List.length_cons List.length_nil List.getElem?_cons_succ List.getElem?_cons_zero List.set_cons_succ List.set_cons_zero Nat.zero_add Nat.reduceAdd Nat.reduceSub List.replicate_succ List.replicate_zero List.append_nil true_and and_true if_true if_false Bool.false_eq_true decide_eq_true_eq decide_eq_false_iff_not Bool.not_true Bool.not_false Bool.and_true Bool.true_and Bool.and_false Bool.false_and Mem.upd_same Option.isSome_some Option.isSome_none bo String.reduceEq".splitOn " ").toArray.mapM (fun s => `(Lean.Parser.Tactic.simpLemma| $(Lean.mkIdent s.toName):ident)); let r : Lean.TSyntaxArray [`Lean.Parser.Tactic.simpStar, `Lean.Parser.Tactic.simpErase, `Lean.Parser.Tactic.simpLemma] := (p.map (⟨·.raw⟩)) ++ (q.map (⟨·.raw⟩)) ++ a.getElems; `(tactic| simp -dsimp only [$r,*])
namespace Tw
open PySem L2 L3
theorem qc{ad:Ad}{M:Mem}{Q:DK}{E:DX}{w:Str}{y z m:Int}(hm:0<m)(hy:0<=y)(hy2:y<1000)(h:Q (.int<|Dj w y z m) M):vX ad [.str w,.int y,.int z,.int m] M Q E:=by
 have b:CMul y z:=.inl ⟨by lia,by lia⟩
 unfold Dj at h;simp![Ky,wC]
 split
 .rename_i e;rw[if_pos e]at h;exact⟨hm,aq h⟩
 .rename_i e;rw[if_neg e]at h
  split
  .rename_i e;rw[if_pos e]at h;exact⟨b,hm,aq h⟩
  .rename_i e;rw[if_neg e]at h
   split
   .rename_i e;rw[if_pos e]at h
    split<;>rename_i a
    .rw[if_pos a]at h;exact aq h
    .rw[if_neg a]at h;exact aq h
   .rename_i e;rw[if_neg e]at h
    split<;>rename_i a
    .rw[if_pos a]at h;exact aq h
    .rw[if_neg a]at h;exact aq h
def RwOk(names:List Str)(m many:Int):Rw->Prop
 |.put x k=>x∈names/\0<=k/\k<m
 |.take x i=>x∈names/\0<=i/\i<many
 |.pick x y=>x∈names/\y∈names/\0<many
 |.two w x y z=>(w="sum"\/w="by"\/w="less"\/w="same")/\x∈names/\y∈names/\z∈names
 |_=>False
structure NOk(names:List Str)(m:Int)(n:iA):Prop where
 keys:n.map (·.1)=names
 rng:∀p∈n,0<=p.2/\p.2<m
theorem NOk.at{names:List Str}{m:Int}{n:iA}(h:NOk names m n){x:Str}(hx:x∈names):gN n x=some (nm n x)/\0<=nm n x/\nm n x<m:=by
 have e:gN n x=some (nm n x):=FJ (by rw[h.keys];exact hx)
 refine⟨e,?_⟩;unfold gN at e;obtain⟨p,a,b⟩:=OZ.mp e;rw[<- b];exact h.rng p (Rx a)
theorem EI{w:Str}{y z m:Int}(h2:2<=m):0<=Dj w y z m/\Dj w y z m<m:=by
 unfold Dj;have c:=Pu (y+z) (show m≠0 by lia)
 have e:=O3 (y+z) (show 0<m by lia)
 have a:=Pu (y*z) (show m≠0 by lia)
 have b:=O3 (y*z) (show 0<m by lia)
 repeat' split
 all_goals lia
structure COk(c:Cf):Prop where
 m2:2<=c.m
 m1:c.m<=997
 rng:∀v∈c.pieces,0<=v/\v<c.m
 few:c.pieces.length<=1000
 most:c.most<=10000
theorem COk.piece{c:Cf}(h:COk c){i:Nat}(hi:i<c.pieces.length):c.pieces[i]?=some ((c.pieces[i]?).getD 0)/\0<=(c.pieces[i]?).getD 0/\(c.pieces[i]?).getD 0<c.m:=by
 rw[MY hi];exact⟨rfl,h.rng _<|Om hi⟩
theorem Ez{c:Cf}(h:COk c){names:List Str}{n:iA}(hn:NOk names c.m n){r:Rw}(hr:RwOk names c.m c.pieces.length r):0<=fc c n r/\fc c n r<c.m:=by
 cases r with
 |put x k=>exact hr.2
 |take x i=>exact(h.piece (i:=i.toNat)<|by have:=hr.2;lia).2
 |pick x y=>
  have a:=hr.2.2;have b:=Pu (nm n y) (show (c.pieces.length:Int)≠0 by lia)
  have e:=O3 (nm n y) a;exact(h.piece (i:=(nm n y % (c.pieces.length:Int)).toNat)<|by lia).2
 |two w x y z=>exact EI h.m2
 |ifr=>exact hr.elim
 |again=>exact hr.elim
def aT(c:Cf)(names:List Str)(rows:List Rw)(mk:Str):D:=.tup [.int c.m,.tup (names.map D.str),.int (c.pieces.length:Nat),.tup (ay rows),.str mk]
theorem db{ad:Ad}{M:Mem}{Q:DK}{E:DX}{c:Cf}{names:List Str}{rows:List Rw}{mk:Str}{dn:Addr}{n:iA}{r:Rw}(hn:NOk names c.m n)(hr:RwOk names c.m c.pieces.length r)(hd:M dn=some (.dK<|dG n))
  (h:Q (match r with|.take _ i=>.int i|.pick _ y=>.int (nm n y % (c.pieces.length:Int))|_=>.non) M):vF ad [aT c names rows mk,.ref dn,r.d] M Q E:=by
 cases r with
 |put x k=>(simp![xK,m9,aT,Rw.d,atI_0,atI_2];exact aq h)
 |take x i=>(simp![xK,m9,aT,Rw.d,atI_0,atI_2];exact aq h)
 |pick x y=>
  simp![xK,m9,aT,Rw.d,atI_0,atI_2,hd,cQ,(hn.at hr.2.1).1,OG];exact⟨hr.2.2,aq h⟩
 |two w x y z=>
  obtain⟨a,_⟩:=hr;rcases a with rfl|rfl|rfl|rfl<;>(simp![xK,m9,aT,Rw.d,atI_0,atI_2];exact aq h)
 |ifr=>exact hr.elim
 |again=>exact hr.elim
theorem kY{ad:Ad}{M:Mem}{Q:DK}{E:DX}{c:Cf}{names:List Str}{rows:List Rw}{mk:Str}{dn:Addr}{n:iA}{r:Rw}(hc:COk c)(hn:NOk names c.m n)(hr:RwOk names c.m c.pieces.length r)(hd:M dn=some (.dK<|dG n))
  (h:Q (.int<|fc c n r) M):qO ad [aT c names rows mk,.ref dn,.tup (c.pieces.map D.int),r.d] M Q E:=by
 have s:=hc.m1;have u:=hc.m2;cases r with
 |put x k=>
  simp![wZ,lC,aT,Rw.d,atI_0,atI_2];exact aq h
 |take x i=>
  have a:=hr;obtain⟨l,f,C⟩:=a;have e:=hc.piece (i:=i.toNat) (by lia)
  have g:(c.pieces.map D.int)[i.toNat]?=some (.int<|fc c n<|.take x i):=by rw[Nr,e.1];rfl
  simp![wZ,lC,aT,Rw.d,atI_0,atI_2];refine aG (d:=.int i) (λ_ _ q=>db (c:=c) (names:=names) (rows:=rows) (mk:=mk) (r:=.take x i) hn hr hd q) ?_;simp![bO f,g];exact aq h
 |pick x y=>
  have a:=hr;obtain⟨l,j,f⟩:=a;have A:=Pu (nm n y) (show (c.pieces.length:Int)≠0 by lia)
  have F:=O3 (nm n y) f;have e:=hc.piece (i:=(nm n y % (c.pieces.length:Int)).toNat) (by lia)
  have g:(c.pieces.map D.int)[(nm n y % (c.pieces.length:Int)).toNat]?=some (.int<|fc c n<|.pick x y):=by rw[Nr,e.1];rfl
  simp![wZ,lC,aT,Rw.d,atI_0,atI_2];refine aG (d:=.int (nm n y % (c.pieces.length:Int))) (λ_ _ q=>db (c:=c) (names:=names) (rows:=rows) (mk:=mk) (r:=.pick x y) hn hr hd q) ?_;simp![bO A,g];exact aq h
 |two w x y z=>
  have a:=hr;obtain⟨p,l,j,o⟩:=a;have B:=hn.at j;have v:=hn.at o;have b:((w=Oh "put")=False):=by rcases p with rfl|rfl|rfl|rfl<;>exact eq_false (by decide +kernel)
  simp![wZ,lC,aT,Rw.d,atI_0,atI_2,b];refine aG (d:=.non) (λ_ _ q=>db (c:=c) (names:=names) (rows:=rows) (mk:=mk) (r:=.two w x y z) hn hr hd q) ?_;simp![atI_0,atI_2,atI_3,hd,cQ,B.1,v.1,OG];exact aG (d:=.int (fc c n<|.two w x y z)) (λ_ _ q=>qc (by lia) (by lia) (by lia) q) (aq h)
 |ifr=>exact hr.elim
 |again=>exact hr.elim
structure Wk where
 a:Addr
 dn:Addr
 ls:Addr
 h1:a≠dn
 h2:a≠ls
 h3:dn≠ls
def oE(l:List Int):D:=.tup (l.map D.int)
def Gf(l:List (List Int×Int)):List D:=l.map λp=>.tup [oE p.1,.int p.2]
def wM(ad:Ad)(k:Wk)(c:Cf)(pD:D)(s:Sx)(M:Mem):Mem:=
 ((M.upd k.a<|.ins ad.C_Walk [("plan",pD),("numbers",.ref k.dn),("pieces",.tup (c.pieces.map D.int)),("most",.int (c.most:Nat)),("steps",.ref k.ls)]).upd k.dn<|.dK<|dG s.nums).upd k.ls (.lst<|Gf s.steps)
section
variable {ad:Ad}{k:Wk}{c:Cf}{pD:D}{s:Sx}{M:Mem}
theorem fZ:wM ad k c pD s M k.a=some (.ins ad.C_Walk [("plan",pD),("numbers",.ref k.dn),("pieces",.tup (c.pieces.map D.int)),("most",.int (c.most:Nat)),("steps",.ref k.ls)]):=by
 unfold wM;rw[ag k.h2,ag k.h1,Mem.upd_same]
theorem lx:wM ad k c pD s M k.dn=some (.dK<|dG s.nums):=by unfold wM;rw[ag k.h3,Mem.upd_same]
theorem G2:wM ad k c pD s M k.ls=some (.lst<|Gf s.steps):=by unfold wM;rw[Mem.upd_same]
theorem AE{x:List (List Int×Int)}:(wM ad k c pD s M).upd k.ls (.lst<|Gf x)=wM ad k c pD ⟨s.nums,x⟩ M:=by unfold wM;rw[Mem.upd_upd]
theorem EW{x:iA}:(wM ad k c pD s M).upd k.dn (.dK<|dG x)=wM ad k c pD ⟨x,s.steps⟩ M:=by
 unfold wM;rw[aR (N8 k.h3),Mem.upd_upd]
theorem lf0:N0 ("plan":Str) [(("plan":Str),x0),(("numbers":Str),x1),(("pieces":Str),x2),(("most":Str),x3),(("steps":Str),x4)]=some (x0:D):=rfl
theorem CL:N0 ("numbers":Str) [(("plan":Str),x0),(("numbers":Str),x1),(("pieces":Str),x2),(("most":Str),x3),(("steps":Str),x4)]=some (x1:D):=rfl
theorem lf2:N0 ("pieces":Str) [(("plan":Str),x0),(("numbers":Str),x1),(("pieces":Str),x2),(("most":Str),x3),(("steps":Str),x4)]=some (x2:D):=rfl
theorem lf3:N0 ("most":Str) [(("plan":Str),x0),(("numbers":Str),x1),(("pieces":Str),x2),(("most":Str),x3),(("steps":Str),x4)]=some (x3:D):=rfl
theorem lf4:N0 ("steps":Str) [(("plan":Str),x0),(("numbers":Str),x1),(("pieces":Str),x2),(("most":Str),x3),(("steps":Str),x4)]=some (x4:D):=rfl
theorem lfm:N0 ("note_step":Str) [(("plan":Str),x0),(("numbers":Str),x1),(("pieces":Str),x2),(("most":Str),x3),(("steps":Str),x4)]=(none:Option D):=rfl
theorem lfl:N0 ("look":Str) [(("plan":Str),x0),(("numbers":Str),x1),(("pieces":Str),x2),(("most":Str),x3),(("steps":Str),x4)]=(none:Option D):=rfl
theorem fo{Q:DK}{E:DX}{pl:List Int}{v:Int}(hc:c.most<=10000)(h1:(nt c pl v s).1=true->Q .non (wM ad k c pD (nt c pl v s).2 M))(h2:(nt c pl v s).1=false->E ad.C_Dry (wM ad k c pD (nt c pl v s).2 M)):
  tI ad [.ref k.a,oE pl,.int v] (wM ad k c pD s M) Q E:=by
 unfold nt at h1 h2;simp![u_q6,Dd,fZ,G2,lf3,lf4,Gf,MW]
 split
 .rename_i e
  have:¬s.steps.length<c.most:=by lia
  rw[if_neg this]at h2;exact dP (h2 rfl)
 .rename_i e
  have b:s.steps.length<c.most:=by lia
  rw[if_pos b]at h1;refine⟨aZ (by decide),fS (by lia),aq ?_⟩
  have:=h1 rfl;rw[<- AE]at this;simpa [Gf] using this
end
end Tw
namespace L3
open PySem L2
def lz:Nat->List D->List D
 |_,[]=>[]
 |k,x::xs=>.tup [.int (k:Nat),x]::lz (k+1) xs
theorem rD:∀(xs:List D) (k:Nat),(xs.zipIdx k).map (λp=>D.tup [.int (p.2:Nat),p.1])=lz k xs
 |[],_=>rfl
 |x::xs,k=>by rw[Q5,Nb,rD xs (k+1)];rfl
theorem Cy(xs:List D):qD xs=lz 0 xs:=rD xs 0
theorem bd{xs:List D}{M:Mem}:DIt.ok ⟨xs,[]⟩ M:=λ_ h=>by cases h
end L3
namespace Tw
open PySem L2 L3
mutual
def jw(names:List Str)(m many:Int):Rw->Prop
 |.ifr x a b=>x∈names/\cL names m many a/\cL names m many b
 |.again x a=>x∈names/\cL names m many a
 |.put x k=>RwOk names m many (.put x k)
 |.take x k=>RwOk names m many (.take x k)
 |.pick x k=>RwOk names m many (.pick x k)
 |.two w x y z=>RwOk names m many (.two w x y z)
def cL(names:List Str)(m many:Int):List Rw->Prop
 |[]=>True
 |r::rs=>jw names m many r/\cL names m many rs
end
mutual
def hR:Rw->Nat
 |.ifr _ a b=>1+max (g7 a) (g7 b)
 |.again _ a=>1+g7 a
 |_=>0
def g7:List Rw->Nat
 |[]=>0
 |r::rs=>max (hR r) (g7 rs)
end
section
variable {c:Cf}{names:List Str}
theorem LK{n:iA}(hn:NOk names c.m n){x:Str}{v:Int}(hv:0<=v/\v<c.m):NOk names c.m (sN n x v):=by
 refine⟨by rw[El];exact hn.keys,λp a=>?_⟩
 simp only[sN,Nu]at a;obtain⟨q,b,rfl⟩:=a
 split
 .exact hv
 .exact hn.rng q b
theorem ko{pl:List Int}{v:Int}{s:Sx}:(nt c pl v s).2.nums=s.nums:=by unfold nt;split<;>rfl
theorem kx(hc:COk c){r:Rw}(hr:RwOk names c.m c.pieces.length r){pl:List Int}{s:Sx}(hn:NOk names c.m s.nums):NOk names c.m (dZ c r pl s).2.nums:=by
 unfold dZ
 split
 .exact LK hn (Ez hc hn hr)
 .exact hn
theorem wn{x:Str}{pl:List Int}{body:Nat->Sx->Bool×Sx}(hb:∀t s,NOk names c.m s.nums->NOk names c.m (body t s).2.nums):∀(f t:Nat) (s:Sx),NOk names c.m s.nums->NOk names c.m (bK c x pl body f t s).2.nums
 |0,_,s,h=>h
 |f+1,t,s,h=>by
  have a:NOk names c.m (nt c (pl++[(t:Int)]) (lk s.nums x) s).2.nums:=by rw[ko];exact h
  unfold bK
  split
  .split
   .split
    .exact wn hb f (t+1) _ (hb t _ a)
    .exact hb t _ a
   .exact a
  .exact a
mutual
theorem ou(hc:COk c):∀(r:Rw),jw names c.m c.pieces.length r->∀(pl:List Int) (s:Sx),NOk names c.m s.nums->NOk names c.m (df c r pl s).2.nums
 |.ifr x a b,h,pl,s,hn=>by
  have e:NOk names c.m (nt c pl (lk s.nums x) s).2.nums:=by rw[ko];exact hn
  simp only[jw]at h;unfold df
  split
  .split
   .exact cS hc a h.2.1 _ _ _ e
   .exact cS hc b h.2.2 _ _ _ e
  .exact e
 |.again x a,h,pl,s,hn=>by
  simp only[jw]at h;unfold df;exact wn (λt s f=>cS hc a h.2 _ _ _ f) _ _ _ hn
 |.put x k,h,pl,s,hn=>by rw[bc rfl];exact kx hc (by simpa only[jw] using h) hn
 |.take x k,h,pl,s,hn=>by rw[bc rfl];exact kx hc (by simpa only[jw] using h) hn
 |.pick x k,h,pl,s,hn=>by rw[bc rfl];exact kx hc (by simpa only[jw] using h) hn
 |.two w x y z,h,pl,s,hn=>by rw[bc rfl];exact kx hc (by simpa only[jw] using h) hn
theorem cS(hc:COk c):∀(rs:List Rw),cL names c.m c.pieces.length rs->∀(pl:List Int) (j:Nat) (s:Sx),NOk names c.m s.nums->NOk names c.m (bg c rs pl j s).2.nums
 |[],_,_,_,s,hn=>by simpa only[bg] using hn
 |r::rs,h,pl,j,s,hn=>by
  simp only[cL]at h;unfold bg
  split
  .exact cS hc rs h.2 _ _ _ (ou hc r h.1 _ _ hn)
  .exact ou hc r h.1 _ _ hn
end
end
def Post(ad:Ad)(k:Wk)(c:Cf)(pD:D)(r:Bool×Sx)(M:Mem)(d:D)(Q:DK)(E:DX):Prop:=(r.1=true->Q d (wM ad k c pD r.2 M))/\(r.1=false->E ad.C_Dry (wM ad k c pD r.2 M))
theorem bE{ad:Ad}{k:Wk}{c:Cf}{pD:D}{r:Bool×Sx}{M M0:Mem}{d:D}{T:Sd}{ds:List D}{Q:DK}{E:DX}(hm:∀Q' E',Post ad k c pD r M d Q' E'->T ds M0 Q' E'){b:BxQ E Q}(h:Post ad k c pD r M d Q E):calls T E ds M0 Q b:=
 aA λQ' E' a f=>hm Q' E' ⟨λe=>a _ _ (h.1 e),λe=>f _ _ (h.2 e)⟩
theorem Post.drp{ad:Ad}{k:Wk}{c:Cf}{pD:D}{r:Bool×Sx}{M:Mem}{d:D}{Q:DK}{E:DX}(h:Post ad k c pD r M d Q E):Post ad k c pD r M d (L3.drp Q) (aw E):=⟨λe=>aq (h.1 e),λe=>dP (h.2 e)⟩
section
variable {ad:Ad}{k:Wk}{c:Cf}{s:Sx}{M:Mem}{names:List Str}{rows0:List Rw}{mk:Str}
theorem mR{Q:DK}{E:DX}{pl:List Int}{x:Str}(hc:COk c)(hn:NOk names c.m s.nums)(hx:x∈names)(h:Post ad k c (aT c names rows0 mk) (nt c pl (lk s.nums x) s) M (.int<|lk s.nums x) Q E):
  mZ ad [.ref k.a,oE pl,.str x] (wM ad k c (aT c names rows0 mk) s M) Q E:=by
 have f:=hn.at hx;have b:∀v:Int,v=lk s.nums x->calls (tI ad) (aw E) [.ref k.a,oE pl,.int v] (wM ad k c (aT c names rows0 mk) s M) (λ_ M1=>L3.drp Q (.int v) M1) ⟨⟩:=by
  rintro v rfl
  exact bE (d:=.non) (λQ' E' z=>fo hc.most z.1 z.2) ⟨λe=>aq (h.1 e),λe=>dP (h.2 e)⟩
 simp![MH,uH,fZ,lx,CL,lfm,cQ,f.1,OG]
 split
 .rename_i e
  exact b 0 (by unfold lk;rw[if_pos e])
 .rename_i e
  exact b 1 (by unfold lk;rw[if_neg e])
theorem dh{n:Nat}{Q:DK}{E:DX}{pl:List Int}{r:Rw}(hnl:names.length<=1000)(hc:COk c)(hn:NOk names c.m s.nums)(hr:RwOk names c.m c.pieces.length r)(h:Post ad k c (aT c names rows0 mk) (dZ c r pl s) M .non Q E):
  SD ad (n+1) [.ref k.a,r.d,oE pl] (wM ad k c (aT c names rows0 mk) s M) Q E:=by
 have fin:calls (qO ad) (aw E) [aT c names rows0 mk,.ref k.dn,.tup (c.pieces.map D.int),r.d] (wM ad k c (aT c names rows0 mk) s M) (λd M'=>frz d M' λx M1=>
   ah 3 x [some (.ref k.a),some r.d,some (oE pl),none] M1 λU M2=>ao (cb<|eh ad.C_Walk "note_step" (tI ad) (aw E) 3 (ac 0)<|aa (ac 2)<|aa (ac 3) ae)
    (av (ac 3)<|fg (dF ad.C_Walk (ac 0) "numbers")<|am az (ac 1)<|dC<|.int 1) { nx:=λ_ M'=>L3.drp Q .non M',rt:=L3.drp Q } U M2) ⟨⟩:=by
  refine aG (d:=.int (fc c s.nums r)) (λ_ _ q=>kY hc hn hr lx q) ?_;simp![fZ,lfm];refine bE (r:=nt c pl (fc c s.nums r) s) (d:=.non) (λQ' E' z=>fo hc.most z.1 z.2) ?_;unfold dZ at h;unfold nt;have g:rZ r∈s.nums.map (·.1):=by
   rw[hn.keys];cases r with
   |put x k=>exact hr.1
   |take x k=>exact hr.1
   |pick x k=>exact hr.1
   |two w x y z=>exact hr.2.1
   |ifr=>exact hr.elim
   |again=>exact hr.elim
  split
  .rename_i l
   rw[if_pos l]at h;refine⟨λ_=>?_,λe=>by simp at e⟩
   have i:=h.1 rfl;have p:wM ad k c (aT c names rows0 mk) ⟨sN s.nums (rZ r) (fc c s.nums r),s.steps++[(pl,fc c s.nums r)]⟩ M=(wM ad k c (aT c names rows0 mk) ⟨s.nums,s.steps++[(pl,fc c s.nums r)]⟩ M).upd k.dn (.dK<|bL (dG s.nums) (Nm<|rZ r)<|.int<|fc c s.nums r):=by
    rw[ku g,EW]
   rw[p]at i;have b:(dG s.nums).length<sizeLine:=by rw[dG,MW,<- MW (f:=(·.1)),hn.keys];exact fS (by lia)
   cases r with
   |put x kk=>simp![Rw.d,fZ,lx,CL,atI_1];exact⟨b,aq i⟩
   |take x kk=>simp![Rw.d,fZ,lx,CL,atI_1];exact⟨b,aq i⟩
   |pick x kk=>simp![Rw.d,fZ,lx,CL,atI_1];exact⟨b,aq i⟩
   |two w x y z=>simp![Rw.d,fZ,lx,CL,atI_1];exact⟨b,aq i⟩
   |ifr=>exact hr.elim
   |again=>exact hr.elim
  .rename_i l
   rw[if_neg l]at h;exact⟨λe=>by simp at e,λ_=>dP (h.2 rfl)⟩
 cases r with
 |put x kk=>simp![nC,ij,Rw.d,fZ,lf0,CL,lf2,atI_0];exact fin
 |take x kk=>simp![nC,ij,Rw.d,fZ,lf0,CL,lf2,atI_0];exact fin
 |pick x kk=>simp![nC,ij,Rw.d,fZ,lf0,CL,lf2,atI_0];exact fin
 |two w x y z=>
  have j:((w=Oh "if")=False):=by rcases hr.1 with rfl|rfl|rfl|rfl<;>exact eq_false (by decide +kernel)
  have o:((w=Oh "again")=False):=by rcases hr.1 with rfl|rfl|rfl|rfl<;>exact eq_false (by decide +kernel)
  simp![nC,ij,Rw.d,fZ,lf0,CL,lf2,atI_0,j,o];exact fin
 |ifr=>exact hr.elim
 |again=>exact hr.elim
end
section
variable {c:Cf}
def Gr(c:Cf)(s s':Sx):Prop:=s.steps.length<=s'.steps.length/\(s.steps.length<=c.most->s'.steps.length<=c.most)
theorem Gr.refl{s:Sx}:Gr c s s:=⟨Ni _,id⟩
theorem Gr.trans{s s1 s2:Sx}(a:Gr c s s1)(b:Gr c s1 s2):Gr c s s2:=⟨Ny a.1 b.1,λh=>b.2 (a.2 h)⟩
theorem nt_gr{pl:List Int}{v:Int}{s:Sx}:Gr c s (nt c pl v s).2:=by
 unfold nt
 split
 .refine⟨by simp,λ_=>?_⟩;simp;lia
 .exact Gr.refl
theorem jU{r:Rw}{pl:List Int}{s:Sx}:Gr c s (dZ c r pl s).2:=by
 unfold dZ
 split
 .refine⟨by simp,λ_=>?_⟩;simp;lia
 .exact Gr.refl
theorem xi{x:Str}{pl:List Int}{body:Nat->Sx->Bool×Sx}(hb:∀t s,Gr c s (body t s).2):∀(f t:Nat) (s:Sx),Gr c s (bK c x pl body f t s).2
 |0,_,s=>Gr.refl
 |f+1,t,s=>by
  unfold bK
  split
  .split
   .split
    .exact nt_gr.trans ((hb t _).trans<|xi hb f (t+1) _)
    .exact nt_gr.trans (hb t _)
   .exact nt_gr
  .exact nt_gr
mutual
theorem mh:∀(r:Rw) (pl:List Int) (s:Sx),Gr c s (df c r pl s).2
 |.ifr x a b,pl,s=>by
  unfold df
  split
  .split
   .exact nt_gr.trans (cB a _ _ _)
   .exact nt_gr.trans (cB b _ _ _)
  .exact nt_gr
 |.again x a,pl,s=>by
  unfold df;exact xi (λt s=>cB a _ _ _) _ _ _
 |.put x k,pl,s=>by rw[bc rfl];exact jU
 |.take x k,pl,s=>by rw[bc rfl];exact jU
 |.pick x k,pl,s=>by rw[bc rfl];exact jU
 |.two w x y z,pl,s=>by rw[bc rfl];exact jU
theorem cB:∀(rs:List Rw) (pl:List Int) (j:Nat) (s:Sx),Gr c s (bg c rs pl j s).2
 |[],_,_,s=>by unfold bg;exact Gr.refl
 |r::rs,pl,j,s=>by
  unfold bg
  split
  .exact(mh r _ _).trans (cB rs _ _ _)
  .exact mh r _ _
end
end
theorem fG{pl:List Int}{v:Int}:D.tup (pl.map D.int++[D.int v])=oE (pl++[v]):=by simp[oE]
section
variable {ad:Ad}{k:Wk}{c:Cf}{names:List Str}{rows0:List Rw}{mk:Str}
def xu(ad:Ad)(k:Wk)(c:Cf)(names:List Str)(rows0:List Rw)(mk:Str)(n:Nat):Prop:=∀(rs:List Rw) (pl:List Int) (s:Sx) (M:Mem) (Q:DK) (E:DX),cL names c.m c.pieces.length rs->3*g7 rs+2<=n->pl.length+2*g7 rs+2<=1000->NOk names c.m s.nums->s.steps.length<=c.most->
 Post ad k c (aT c names rows0 mk) (bg c rs pl 0 s) M .non Q E->Sz ad n [.ref k.a,.tup (ay rs),oE pl] (wM ad k c (aT c names rows0 mk) s M) Q E
def Iv(ad:Ad)(k:Wk)(c:Cf)(names:List Str)(rows0:List Rw)(mk:Str)(n:Nat):Prop:=∀(r:Rw) (pl:List Int) (s:Sx) (M:Mem) (Q:DK) (E:DX),jw names c.m c.pieces.length r->3*hR r+1<=n->pl.length+2*hR r+1<=1000->NOk names c.m s.nums->s.steps.length<=c.most->
 Post ad k c (aT c names rows0 mk) (df c r pl s) M .non Q E->SD ad n [.ref k.a,r.d,oE pl] (wM ad k c (aT c names rows0 mk) s M) Q E
def PIf(ad:Ad)(k:Wk)(c:Cf)(names:List Str)(rows0:List Rw)(mk:Str)(n:Nat):Prop:=∀(x:Str) (a b:List Rw) (pl:List Int) (s:Sx) (M:Mem) (Q:DK) (E:DX),jw names c.m c.pieces.length (.ifr x a b)->3*hR (.ifr x a b)<=n->pl.length+2*hR (.ifr x a b)+1<=1000->NOk names c.m s.nums->s.steps.length<=c.most->
 Post ad k c (aT c names rows0 mk) (df c (.ifr x a b) pl s) M .non Q E->SE ad n [.ref k.a,(Rw.ifr x a b).d,oE pl] (wM ad k c (aT c names rows0 mk) s M) Q E
def PAg(ad:Ad)(k:Wk)(c:Cf)(names:List Str)(rows0:List Rw)(mk:Str)(n:Nat):Prop:=∀(x:Str) (a:List Rw) (pl:List Int) (s:Sx) (M:Mem) (Q:DK) (E:DX),jw names c.m c.pieces.length (.again x a)->3*hR (.again x a)<=n->pl.length+2*hR (.again x a)+1<=1000->NOk names c.m s.nums->s.steps.length<=c.most->
 Post ad k c (aT c names rows0 mk) (df c (.again x a) pl s) M .non Q E->SF ad n [.ref k.a,(Rw.again x a).d,oE pl] (wM ad k c (aT c names rows0 mk) s M) Q E
theorem yq(hc:COk c){n:Nat}(ih:Iv ad k c names rows0 mk n):xu ad k c names rows0 mk (n+1):=by
 intro u pl s M Q E f w o g i h;simp![Mt,xZ,cJ,Cy]
 refine bA (λB U M'=>∃(b:List Rw) (j:Nat) (l:Sx) (y A:Option D),B=lz j (ay b)/\U=[some (.ref k.a),some (.tup<|ay u),some (oE pl),y,A]/\M'=wM ad k c (aT c names rows0 mk) l M/\cL names c.m c.pieces.length b/\3*g7 b+2<=n+1/\pl.length+2*g7 b+2<=1000/\NOk names c.m l.nums/\l.steps.length<=c.most/\
  Post ad k c (aT c names rows0 mk) (bg c b pl j l) M .non Q E) (λ_ _ _ _=>bd) ?_ ?_ _ _ _ ⟨u,0,s,none,none,rfl,rfl,rfl,f,w,o,g,i,h⟩
 .rintro U M' ⟨b,j,l,y,A,p,rfl,rfl,f,w,o,g,i,h⟩
  cases b with
  |nil=>exact aq (by simpa [bg] using h.1 (by simp[bg]))
  |cons r u=>simp[ay,lz]at p
 .rintro x B U M' ⟨b,j,l,y,A,p,rfl,rfl,f,w,o,g,i,h⟩ D' v _ _ _
  cases b with
  |nil=>simp[ay,lz]at p
  |cons r b=>
   simp only[ay,lz,NU]at p;obtain⟨rfl,rfl⟩:=p;simp only[cL]at f;have C:hR r<=g7 (r::b)/\g7 b<=g7 (r::b):=by simp only[g7];lia
   simp![oE,Nd,MW];refine⟨aZ (by decide),aZ (by lia),?_⟩
   rw[fG];refine bE (r:=df c r (pl++[(j:Int)]) l) (d:=.non) (λQ' E' z=>ih r (pl++[(j:Int)]) l M Q' E' f.1 (by lia) (by simp;lia) g i z) ?_
   simp only[bg]at h;cases q:(df c r (pl++[(j:Int)]) l).1 with
   |true=>
    rw[if_pos q]at h;refine⟨λ_=>v _ _ ⟨b,j+1,_,_,_,rfl,rfl,rfl,f.2,by lia,by lia,ou hc r f.1 _ _ g,(mh r _ _).2 i,h⟩,λe=>by rw[q]at e;cases e⟩
   |false=>
    rw[if_neg (by rw[q];simp)]at h
    exact⟨λe=>(by rw[q]at e;cases e),λ_=>dP (h.2 q)⟩
theorem Am(hnl:names.length<=1000)(hc:COk c){n:Nat}(ihf:PIf ad k c names rows0 mk n)(iha:PAg ad k c names rows0 mk n):Iv ad k c names rows0 mk (n+1):=by
 intro r pl s M Q E e l g f i h;cases r with
 |put x kk=>rw[bc rfl]at h;exact dh hnl hc f (by simpa only[jw] using e) h
 |take x kk=>rw[bc rfl]at h;exact dh hnl hc f (by simpa only[jw] using e) h
 |pick x kk=>rw[bc rfl]at h;exact dh hnl hc f (by simpa only[jw] using e) h
 |two w x y z=>rw[bc rfl]at h;exact dh hnl hc f (by simpa only[jw] using e) h
 |ifr x a b=>
  have j:=λQ' E' z=>ihf x a b pl s M Q' E' e (by lia) g f i z
  simp only[Rw.d]at j;simp![nC,ij,Rw.d,atI_0];exact bE j h.drp
 |again x a=>
  have j:=λQ' E' z=>iha x a pl s M Q' E' e (by lia) g f i z
  simp only[Rw.d]at j;simp![nC,ij,Rw.d,atI_0];exact bE j h.drp
theorem CZ(hc:COk c){n:Nat}(ih:xu ad k c names rows0 mk n):PIf ad k c names rows0 mk (n+1):=by
 intro x a b pl s M Q E i q o j p h;simp only[jw]at i;simp only[hR]at q o;simp![L4,yj,Rw.d,fZ,lfl,atI_1,atI_2,atI_3];refine bE (r:=nt c pl (lk s.nums x) s) (d:=.int (lk s.nums x)) (λQ' E' z=>mR hc j i.1 z) ?_;have hl:lk s.nums x=0\/lk s.nums x=1:=by unfold lk;split<;>simp
 have g:NOk names c.m (nt c pl (lk s.nums x) s).2.nums:=by rw[ko];exact j
 have f:=(nt_gr (c:=c) (pl:=pl) (v:=lk s.nums x) (s:=s)).2 p;unfold df at h;cases l:(nt c pl (lk s.nums x) s).1 with
 |false=>
  rw[if_neg (by rw[l];simp)]at h
  exact⟨λe=>(by rw[l]at e;cases e),λ_=>dP (h.2 l)⟩
 |true=>
  rw[if_pos l]at h;refine⟨λ_=>?_,λe=>by rw[l]at e;cases e⟩
  rcases hl with hl|hl
  .rw[if_neg (by rw[hl];decide)]at h
   rw[hl]at h g f ⊢;simp![atI_2,atI_3,oE,Nd,MW,show ((0:Int)=1)=False from eq_false (by decide)]
   refine⟨aZ (by decide),aZ (by lia),?_⟩
   rw[fG];exact bE (λQ' E' z=>ih b (pl++[0]) _ M Q' E' i.2.2 (by lia) (by simp;lia) g f z) h.drp
  .rw[if_pos hl]at h
   rw[hl]at h g f ⊢;simp![atI_2,atI_3,oE,Nd,MW];refine⟨aZ (by decide),aZ (by lia),?_⟩
   rw[fG];exact bE (λQ' E' z=>ih a (pl++[1]) _ M Q' E' i.2.1 (by lia) (by simp;lia) g f z) h.drp
end
section
variable {ad:Ad}{k:Wk}{c:Cf}{names:List Str}{rows0:List Rw}{mk:Str}
theorem tV(hc:COk c){n:Nat}(ih:xu ad k c names rows0 mk n):PAg ad k c names rows0 mk (n+1):=by
 intro x a pl s M Q E u K F i p h;simp only[jw]at u;simp only[hR]at K F;simp![Lx,wr,Rw.d,de];refine⟨c.most+1,?_⟩;unfold df at h
 have G:∀(f t:Nat) (s:Sx) (w:eG) (B:au) (DD:DEnds) (b:BxW w B DD),NOk names c.m s.nums->s.steps.length<=c.most->c.most<s.steps.length+f->
   w=ar (am cI (ai<|eh ad.C_Walk "look" (mZ ad) (aw E) 3 (ac 0)<|aa (am bj (ac 2)<|b9<|aa (ac 3) ae)<|aa (am az (ac 1)<|dC<|.int 1) ae)<|dC<|.int 1)->
   B=ao (cb<|aj (Sz ad n) (aw E) 3<|aa (ac 0)<|aa (am az (ac 1)<|dC<|.int 2)<|aa (am bj (ac 2)<|b9<|aa (ac 3) ae) ae) (Ch 3 (dC<|.int 1) A7)->
   DD.nx=(λ_ M'=>L3.drp Q .non M')->
   Post ad k c (aT c names rows0 mk) (bK c x pl (λt s=>bg c a (pl++[(t:Int)]) 0 s) f t s) M .non Q E->
   bu w B DD b f [some (.ref k.a),some (.tup [.str "again",.str x,.tup (ay a)]),some (oE pl),some (.int (t:Int))] (wM ad k c (aT c names rows0 mk) s M):=by
  intro f
  induction f with
  |zero=>intro t s w B DD b i p J;lia
  |succ f ihf=>
   intro t s w B DD b i p J C H y h;unfold bu;subst C;simp![fZ,lfl,atI_1,oE,Nd,MW];refine⟨aZ (by decide),aZ (by lia),?_⟩
   rw[fG];refine bE (r:=nt c (pl++[(t:Int)]) (lk s.nums x) s) (d:=.int (lk s.nums x)) (λQ' E' z=>mR hc i u.1 z) ?_;have hl:lk s.nums x=0\/lk s.nums x=1:=by unfold lk;split<;>simp
   have j:NOk names c.m (nt c (pl++[(t:Int)]) (lk s.nums x) s).2.nums:=by rw[ko];exact i
   have l:=(nt_gr (c:=c) (pl:=pl++[(t:Int)]) (v:=lk s.nums x) (s:=s)).2 p;unfold bK at h;cases o:(nt c (pl++[(t:Int)]) (lk s.nums x) s).1 with
   |false=>
    rw[if_neg (by rw[o];simp)]at h
    exact⟨λe=>(by rw[o]at e;cases e),λ_=>dP (h.2 o)⟩
   |true=>
    rw[if_pos o]at h;refine⟨λ_=>?_,λe=>by rw[o]at e;cases e⟩
    have A:(nt c (pl++[(t:Int)]) (lk s.nums x) s).2.steps.length=s.steps.length+1:=by
     unfold nt at o ⊢
     split at o
     .rename_i q;rw[if_pos q];simp
     .cases o
    rcases hl with hl|hl
    .rw[if_neg (by rw[hl];decide)]at h
     rw[hl]at h ⊢;simp![show ((0:Int)=1)=False from eq_false (by decide)]
     rw[y];rw[hl]at o;exact aq (h.1 o)
    .rw[if_pos hl]at h
     rw[hl]at h j l A ⊢;simp![];subst H;simp![atI_2,oE,Nd,MW];refine⟨aZ (by decide),aZ (by lia),?_⟩
     rw[fG];refine bE (r:=bg c a (pl++[(t:Int)]) 0 (nt c (pl++[(t:Int)]) 1 s).2) (λQ' E' z=>ih a (pl++[(t:Int)]) _ M Q' E' u.2 (by lia) (by simp;lia) j l z) ?_
     have I:=cB (c:=c) a (pl++[(t:Int)]) 0 (nt c (pl++[(t:Int)]) 1 s).2;cases g:(bg c a (pl++[(t:Int)]) 0 (nt c (pl++[(t:Int)]) 1 s).2).1 with
     |true=>
      rw[if_pos g]at h;refine⟨λ_=>?_,λe=>by rw[g]at e;cases e⟩
      simp![];exact ihf (t+1) _ _ _ _ _ (cS hc a u.2 _ _ _ j) (I.2 l) (by have:=I.1;lia) rfl rfl y h
     |false=>
      rw[if_neg (by rw[g];simp)]at h
      exact⟨λe=>(by rw[g]at e;cases e),λ_=>dP (h.2 g)⟩
 exact G (c.most+1) 0 s _ _ _ _ i p (by lia) rfl rfl rfl h
theorem rF(hnl:names.length<=1000)(hc:COk c):∀n:Nat,xu ad k c names rows0 mk n/\Iv ad k c names rows0 mk n/\PIf ad k c names rows0 mk n/\PAg ad k c names rows0 mk n
 |0=>⟨λj pl s M Q E _ h=>by lia,λr pl s M Q E _ h=>by lia,λx a b pl s M Q E _ h=>by simp only[hR]at h;lia,λx a pl s M Q E _ h=>by simp only[hR]at h;lia⟩
 |n+1=>by
  obtain⟨e,g,i,f⟩:=rF hnl hc n;exact⟨yq hc g,Am hnl hc i f,CZ hc e,tV hc e⟩
end
theorem qp:∀(names:List Str) (nums:List Int) (acc:iA),names.length=nums.length->(acc.map (·.1)++names).Nodup->
  ((names.map λx=>(Nm x:ax)).zip<|nums.map D.int).foldl (λa p=>bL a p.1 p.2) (dG acc)=dG (acc++names.zip nums)
 |[],nums,acc,_,_=>by simp
 |x::names,[],acc,h,_=>by simp at h
 |x::names,v::nums,acc,h,nd=>by
  have g:x∉acc.map (·.1):=by
   have:=(QT.mp nd).2.2;exact λhm=>this x hm x (by simp) rfl
  have b:((dG acc).any λj=>decide (j.1=Nm x))=false:=by
   rw[List.any_eq_false];intro p c;simp only[dG,Nu]at c;obtain⟨q,f,rfl⟩:=c;simp only[decide_eq_true_eq];intro e;have:q.1=x:=Sum.inr.inj e;exact g (by rw[<- this];exact OL f)
  simp only[Nb,Pr,Oe];have i:bL (dG acc) (Nm x) (.int v)=dG (acc++[(x,v)]):=by
   unfold bL;rw[b];simp[dG]
  rw[i,qp names nums (acc++[(x,v)]) (by simpa using h) (by simpa using nd)]
  simp
theorem fA:∀names:List Str,bP (names.map D.str)=some (names.map λx=>(Nm x:ax))
 |[]=>rfl
 |x::names=>by simp[bP,bI,fA names]
theorem iY{names:List Str}{nums:List Int}(h:names.length=nums.length)(nd:names.Nodup):eY (names.map λx=>(Nm x:ax)) (nums.map D.int)=dG (names.zip nums):=by
 have:=qp names nums [] h (by simpa using nd)
 simpa [eY,dG] using this
theorem dp1{d:D}:d_ "plan" d []=[(("plan":Str),d)]:=rfl
theorem dp2{a d:D}:d_ "numbers" d [(("plan":Str),a)]=[(("plan":Str),a),(("numbers":Str),d)]:=rfl
theorem dp3{a b d:D}:d_ "pieces" d [(("plan":Str),a),(("numbers":Str),b)]=[(("plan":Str),a),(("numbers":Str),b),(("pieces":Str),d)]:=rfl
theorem dp4{a b e d:D}:d_ "most" d [(("plan":Str),a),(("numbers":Str),b),(("pieces":Str),e)]=[(("plan":Str),a),(("numbers":Str),b),(("pieces":Str),e),(("most":Str),d)]:=rfl
theorem dp5{a b e g d:D}:d_ "steps" d [(("plan":Str),a),(("numbers":Str),b),(("pieces":Str),e),(("most":Str),g)]=[(("plan":Str),a),(("numbers":Str),b),(("pieces":Str),e),(("most":Str),g),(("steps":Str),d)]:=rfl
def cy(nums pieces:List Int):D:=.tup [.tup (nums.map D.int),.tup (pieces.map D.int)]
section
variable {ad:Ad}{c:Cf}{names:List Str}{rows:List Rw}{mk:Str}{M:Mem}{nums:List Int}
theorem yo{a:Addr}{Q:DK}{E:DX}(ha:M a=none)(hl:names.length=nums.length)(nd:names.Nodup)(h0:0<names.length)(h1:names.length<=1000)
  (h:∀(k:Wk),k.a=a->M k.dn=none->M k.ls=none->Q .non (wM ad k c (aT c names rows mk) ⟨names.zip nums,[]⟩ M)):
  E3 ad [.ref a,aT c names rows mk,cy nums c.pieces,.int (c.most:Nat)] (M.upd a<|.ins ad.C_Walk []) Q E:=by
 simp![u_q7,Es,aT,cy,Mem.upd_upd,atI_0,atI_1,fA,MW,dp1];refine⟨by decide,hl,h0,h1,λdn g=>?_⟩
 have f:a≠dn:=Mem.ne Mem.upd_same g;have i:M dn=none:=by rw[ag (N8 f)]at g;exact g
 simp![ag f,Mem.upd_same,dp2,aR (N8 f),Mem.upd_upd,iY hl nd];refine⟨by simp,?_⟩
 simp![ag f,Mem.upd_same,dp3,aR (N8 f),Mem.upd_upd];refine⟨by simp,?_⟩
 simp![ag f,Mem.upd_same,dp4,aR (N8 f),Mem.upd_upd];refine⟨by simp,aZ (by simp),λls b=>?_⟩
 have l:a≠ls:=by
  intro e;subst e;rw[ag f,Mem.upd_same]at b;cases b
 have m:dn≠ls:=by
  intro e;subst e;rw[Mem.upd_same]at b;cases b
 have j:M ls=none:=by rw[ag (N8 m),ag (N8 l)]at b;exact b
 simp![ag l,ag f,Mem.upd_same,dp5];refine⟨by simp,aq ?_⟩
 have:=h ⟨a,dn,ls,f,l,m⟩ rfl i j;have e:wM ad ⟨a,dn,ls,f,l,m⟩ c (aT c names rows mk) ⟨names.zip nums,[]⟩ M=(((M.upd a<|.ins ad.C_Walk [("plan",aT c names rows mk),("numbers",.ref dn),("pieces",.tup (c.pieces.map D.int)),("most",.int (c.most:Nat))]).upd dn<|.dK<|dG<|names.zip nums).upd ls<|.lst []).upd a (.ins ad.C_Walk [("plan",aT c names rows mk),("numbers",.ref dn),("pieces",.tup (c.pieces.map D.int)),("most",.int (c.most:Nat)),("steps",.ref ls)]):=by
  unfold wM;rw[aR (N8 l),aR (N8 f),Mem.upd_upd];rfl
 rw[e]at this;exact this
def f_(c:Cf)(names:List Str)(rows:List Rw)(nums:List Int):Bool×Sx:=bg c rows [] 0 ⟨names.zip nums,[]⟩
def tX(names:List Str)(r:Bool×Sx):D:=if r.1=true then .tup (names.map λx=>.int (nm r.2.nums x)) else .non
structure PlOk(c:Cf)(names:List Str)(rows:List Rw)(nums:List Int):Prop where
 co:COk c
 ln:names.length=nums.length
 nd:names.Nodup
 l0:0<names.length
 l1:names.length<=1000
 rng:∀v∈nums,0<=v/\v<c.m
 ok:cL names c.m c.pieces.length rows
 h:g7 rows<=7
theorem qQ:∀{names:List Str} {nums:List Int},names.length=nums.length->(names.zip nums).map (·.1)=names
 |[],[],_=>rfl
 |[],_::_,h=>by simp at h
 |_::_,[],h=>by simp at h
 |x::xs,v::vs,h=>by simp[qQ (by simpa using h)]
theorem PlOk.nok(p:PlOk c names rows nums):NOk names c.m (names.zip nums):=⟨qQ p.ln,λq a=>p.rng _ (PQ a).2⟩
theorem A8{Q:DK}{E:DX}(p:PlOk c names rows nums)(h:∀l,M l=none->Q (.tup [.ref l,tX names (f_ c names rows nums)]) (M.upd l<|.lst<|Gf (f_ c names rows nums).2.steps)):
  ql ad [aT c names rows mk,cy nums c.pieces,.int (c.most:Nat)] M Q E:=by
 simp![L_,xV];intro a I;refine aA λQ' E' w _=>yo I p.ln p.nd p.l0 p.l1 λk S v s=>w _ _ ?_;subst S;have i:∀(G:Sx),∀b o,(M.upd k.ls<|.lst<|Gf G.steps) b=some o->wM ad k c (aT c names rows mk) G M b=some o:=by
  intro G b o e
  by_cases A:b=k.ls
  .subst A;rw[Mem.upd_same]at e;rw[G2];exact e
  .rw[ag A]at e
   have T:b≠k.dn:=by rintro rfl;rw[v]at e;cases e
   have O:b≠k.a:=by rintro rfl;rw[I]at e;cases e
   unfold wM;rw[ag A,ag T,ag O];exact e
 have J:=(rF (ad:=ad) (k:=k) (rows0:=rows) (mk:=mk) p.l1 p.co 24).1 rows [] ⟨names.zip nums,[]⟩ M;unfold aT at J;simp![aT,atI_3];refine⟨aZ (by decide),?_⟩
 refine aA λQ2 E2 B H=>J Q2 E2 p.ok (by have:=p.h;lia) (by have:=p.h;simp;lia) p.nok (N5 _) ⟨λe=>B _ _ ?_,λe=>H _ _ ⟨rfl,?_⟩⟩
 .have P:NOk names c.m (f_ c names rows nums).2.nums:=cS p.co rows p.ok [] 0 ⟨names.zip nums,[]⟩ p.nok
  have F:(f_ c names rows nums).1=true:=e;simp![fZ,lf4,atI_1,aW]
  refine bM (λz g U M'=>∃n f u,names=n++f/\z=f.map D.str/\g=n.map (λx=>D.int (nm (f_ c names rows nums).2.nums x))/\U=[u,some (.ref k.a)]/\M'=wM ad k c (aT c names rows mk) (f_ c names rows nums).2 M)
   (λ_ _ _ _ _=>bd) ?_ ?_ ?_ _ _ _ _ ⟨[],names,none,rfl,rfl,rfl,rfl,rfl⟩
  .rintro g U M' ⟨n,f,u,j,r,rfl,rfl,rfl⟩
   have:f=[]:=by cases f with|nil=>rfl|cons _ _=>simp at r
   subst this;intro q w;simp![Mem.upd_upd,Mem.upd_del,af w];refine⟨aZ (by decide),⟨_,i _,?_⟩⟩
   have:=h k.ls s;unfold tX at this;rw[if_pos F]at this;have R:n=names:=by simpa using j.symm
   rw[R];exact this
  .rintro x z g U M' ⟨n,f,u,j,r,rfl,rfl,rfl⟩ N L _
   cases f with
   |nil=>simp at r
   |cons y f=>
    simp only[Nb,NU]at r;obtain⟨rfl,rfl⟩:=r;have K:y∈names:=by rw[j];simp
    simp![fZ,lx,CL,cQ,(P.at K).1,OG];refine L _ _ _ ?_ ⟨n++[y],f,_,by simp[j],rfl,by simp,rfl,rfl⟩
    have C:=congrArg Oj j;have:=p.l1;simp at C ⊢;exact fS (by lia)
  .rintro x z g U M' ⟨n,f,u,j,r,rfl,rfl,rfl⟩
   have C:=congrArg Oj j;have:=p.l1;simp at C ⊢;exact fS (by lia)
 .have F:(f_ c names rows nums).1=false:=e
  simp![fZ,lf4];refine⟨aZ (by decide),⟨_,i _,?_⟩⟩
  have:=h k.ls s;unfold tX at this;rw[if_neg (by rw[F];simp)]at this
  exact this
end
structure Pt where
 p:Addr
 q:Addr
 ne:p≠q
def Has(k:Pt)(b:Nat)(M:Mem):Prop:=∃(cells:List Int) (t h:Int),cells.length<=63/\0<=t/\t+b<=2 ^ 50/\M k.p=some (.lst [.ref k.q,.int t,.int h])/\M k.q=some (.lst<|cells.map D.int)
def Dr(k:Pt)(b:Nat)(M M':Mem):Prop:=Has k b M'/\∀x,x≠k.p->x≠k.q->M' x=M x
section
variable {k:Pt}{b c:Nat}{M M1 M2:Mem}{l:Addr}{o:MO}
theorem Has.le(h:Has k b M)(e:c<=b):Has k c M:=by
 obtain⟨a,t,f,j,g,n,m,i⟩:=h;exact⟨a,t,f,j,g,by lia,m,i⟩
theorem Dr.le(h:Dr k b M M1)(e:c<=b):Dr k c M M1:=⟨h.1.le e,h.2⟩
theorem Has.refl(h:Has k b M):Dr k b M M:=⟨h,λ_ _ _=>rfl⟩
theorem Dr.trans(x:Dr k b M M1)(y:Dr k c M1 M2):Dr k c M M2:=⟨y.1,λz a e=>(y.2 z a e).trans (x.2 z a e)⟩
theorem Has.nep(h:Has k b M)(hl:M l=none):l≠k.p/\l≠k.q:=by
 obtain⟨a,t,i,_,_,_,g,f⟩:=h;exact⟨λe=>(by rw[e,g]at hl;cases hl),λe=>(by rw[e,f]at hl;cases hl)⟩
theorem Has.upd(h:Has k b M)(h1:l≠k.p/\l≠k.q):Has k b (M.upd l o):=by
 obtain⟨a,t,f,j,g,e,m,i⟩:=h;exact⟨a,t,f,j,g,e,by rw[ag (N8 h1.1)];exact m,by rw[ag (N8 h1.2)];exact i⟩
theorem Dr.none(h0:Has k c M)(h:Dr k b M M1)(hl:M l=none):M1 l=none:=by
 have:=h0.nep hl;rw[h.2 l this.1 this.2];exact hl
end
theorem Ki{α:Type}{x:α}{xs:List α}:atI (x::xs) 0=some x:=by rw[atI_0];rfl
theorem cY{a m:Int}(h:0<m):0<=a % m/\a % m<m:=⟨Pu _ (by lia),O3 _ h⟩
theorem tZ{n:Nat}{i:Int}(h:0<=i)(h2:i<n):r_ n i=some i.toNat:=by unfold r_;rw[if_pos h,if_pos h2]
theorem KO:r_ 3 1=some 1:=rfl
theorem G0:r_ 3 2=some 2:=rfl
section
variable {ad:Ad}{EE:DX}{D0:DEnds}{M:Mem}{k:Pt}
theorem Ao{t cell many:Int}{x0:D}{c2 c5:Option D}(h0:0<many)(ht:0<=t)(ht2:t<2 ^ 51)(h:∀r,D0.rt (.int<|r % many) M):
  eU ad EE D0 [some x0,some (.int many),c2,some (.int t),some (.int cell),c5] M:=by
 simp![];have b:=cY (a:=cell) (m:=1000003) (by decide)
 have c:=cY (a:=(cell % 1000003+1)*(7919*t*t+104729*t+12345)) (m:=2147483647) (by decide)
 exact⟨by decide,.inl ⟨by decide,by decide⟩,.inr ⟨by lia,by lia⟩,.inl ⟨by decide,by decide⟩,.inl ⟨by lia,by lia⟩,by decide,.inl ⟨by lia,by lia⟩,.inl ⟨by decide,by decide⟩,by decide,by decide,⟨by decide,by decide⟩,h0,h _⟩
theorem za{Q:DK}{E:DX}{b:Nat}{many:Int}(hp:Has k (b+1) M)(h0:0<many)(h1:many<2 ^ 62)(h:∀r M',0<=r->r<many->Dr k b M M'->Q (.int r) M'):aX ad [.ref k.p,.int many] M Q E:=by
 obtain⟨cells,t,j,S,R,U,F,J⟩:=hp;have i:=k.ne;have fin:∀(r u A:Int) (M':Mem),(u=t\/u=t+1)->(∀x,x≠k.p->M' x=M x)->M' k.p=some (.lst [.ref k.q,.int u,.int A])->drp Q (.int<|r % many) M':=λr u A M' s m w=>
  aq (h _ _ (cY h0).1 (cY h0).2 ⟨⟨cells,u,A,S,by lia,by lia,w,by rw[m _ (N8 i)];exact J⟩,λx h1 _=>m x h1⟩)
 have P:∀o,(M.upd k.p o) k.q=some (.lst<|cells.map D.int):=λo=>by rw[ag (N8 i)];exact J
 rw[MD (n:=0)];unfold wI;generalize N:({ nx:=λ_ M'=>drp Q .non M',rt:=drp Q }:DEnds)=G;have rt:G.rt=drp Q:=by rw[<- N]
 generalize f:M.upd k.p (.lst [.ref k.q,.int (t+1),.int j])=M1;have v:M1 k.p=some (.lst [.ref k.q,.int (t+1),.int j]):=by rw[<- f];exact Mem.upd_same
 have H:M1 k.q=some (.lst<|cells.map D.int):=by rw[<- f];exact P _
 have K:∀x,x≠k.p->M1 x=M x:=λx g=>by rw[<- f];exact ag g
 have B:∀e:Int,gO ad (aw E) G [some (.ref k.p),some (.int many),none,some (.int t),some (.int e),none] M1:=λe=>by
  unfold gO;have z:eU ad (aw E) G [some (.ref k.p),some (.int many),none,some (.int t),some (.int e),none] M1:=
   Ao h0 R (by lia) λr=>by rw[rt];exact fin r (t+1) j _ (.inr rfl) K v
  have C:ir ad (aw E) { G with nx:=eU ad (aw E) G } [some (.ref k.p),some (.int many),none,some (.int t),some (.int e),none] M1:=by
   unfold ir;generalize eU ad (aw E) G=K7;simp![v,G0,rt];exact⟨⟨h0,by lia⟩,h0,fin e (t+1) _ _ (.inr rfl) (λx g=>by rw[ag g];exact K x g) Mem.upd_same⟩
  generalize eU ad (aw E)=K7 at z C ⊢;generalize ir ad (aw E)=K4 at C ⊢;simp![v,Ki,H,MW]
  by_cases m:t<(cells.length:Nat)
  .rw[if_pos m]
   refine⟨⟨by decide,by decide,by decide⟩,?_⟩
   by_cases w:10 ^ Py 18<=e
   .rw[if_pos w];exact C
   .rw[if_neg w];exact z
  .rw[if_neg m];exact z
 have I:gX ad (aw E) G [some (.ref k.p),some (.int many),none,some (.int t),some (.int 0),none] M1:=by
  unfold gX o9;generalize gO ad (aw E)=K8 at B ⊢;simp![v,Ki,H,MW]
  by_cases s:(0:Int)<(cells.length:Nat)
  .rw[if_pos s]
   have O:=cY (a:=t) s;obtain⟨y,L⟩:∃y,atI (cells.map D.int) (t % (cells.length:Nat))=some (.int y):=by
    have T:(t % (cells.length:Nat)).toNat<cells.length:=by lia
    exact⟨cells[(t % (cells.length:Nat)).toNat],by rw[bO O.1,Nr,MY T];rfl⟩
   refine⟨s,?_⟩;rw[L];exact B y
  .rw[if_neg s]
   exact B 0
 have l:fE ad (aw E) G [some (.ref k.p),some (.int many),none,none,none,none] M:=by
  unfold fE kT lF;generalize gX ad (aw E)=K9 at I ⊢;simp![F,atI_1,KO];rw[f];exact I
 generalize fE ad (aw E)=K12 at l ⊢;simp![F,atI_2]
 by_cases c:0<j
 .rw[if_pos c]
  simp![F,atI_2,G0,rt];exact⟨h0,⟨h0,by lia⟩,fin j t _ _ (.inl rfl) (λx g=>ag g) Mem.upd_same⟩
 .rw[if_neg c]
  exact l
theorem aB{Q:DK}{b:Nat}{many:Int}{bx:BxQ EE Q}(hp:Has k (b+1) M)(h0:0<many)(h1:many<2 ^ 62)(h:∀r M',0<=r->r<many->Dr k b M M'->Q (.int r) M'):calls (aX ad) EE [.ref k.p,.int many] M Q bx:=
 aA λQ' E' c _=>za hp h0 h1 λr M' a b d=>c _ _ (h r M' a b d)
theorem bT{xs:List D}{k:Nat}:ff xs none (some (k:Int))=xs.take k:=by
 unfold ff;rw[HT.rG,HT.vR,List.drop_zero,Nat.sub_zero];rcases Nat.le_total k xs.length with h|h
 .rw[Nat.min_eq_left h]
 .rw[Nat.min_eq_right h,PC (Ni _),PC h]
theorem cR{xs:List D}{k:Nat}:ff xs (some (k:Int)) none=xs.drop k:=by
 unfold ff;rw[HT.rG,HT.vR];rcases Nat.le_total k xs.length with h|h
 .rw[Nat.min_eq_left h,PC (by simp)]
 .rw[Nat.min_eq_right h,RS (Ni _),RS h];simp
theorem yp{Q:DK}{E:DX}{ns:List Int}(h:∀(k:Pt) M',Has k (2 ^ 49) M'->(∀b,b≠k.p->b≠k.q->M' b=M b)->Q (.ref k.p) M'):uN ad [.ml (ns.map D.int)] M Q E:=by
 have a:ff (ns.map D.int) none (some 63)=(ns.take 63).map D.int:=by rw[PL];exact bT (k:=63)
 simp![Ly,vO,a];intro b f;rw[Mem.upd_del,af f];intro q j;refine⟨aZ (by decide),λp c=>?_⟩
 have ne:p≠q:=by intro e;subst e;rw[Mem.upd_same]at c;cases c
 refine aq (h ⟨p,q,ne⟩ _ ⟨ns.take 63,0,0,by simp;lia,by decide,by decide,Mem.upd_same,?_⟩ λb g i=>?_)
 .show ((M.upd q _).upd p _) q=_
  rw[ag (N8 ne),Mem.upd_same]
 .rw[ag g,ag i]
end
def pool:List (List Str):=[["a","b","c","d","e"],["x","xx","xxx","xxxx","xxxxx"],["if","end","else","piece","pick"],["mark","again","names","plan","wheel"]]
def nE(i j l:Nat):List Str:=(((pool[i]?).getD []).drop j++((pool[i]?).getD []).take j).take (1+l)
structure NmOk(names:List Str):Prop where
 nd:names.Nodup
 n0:0<names.length
 n1:names.length<=5
 w:∀x∈names,x∈pool.flatten
theorem A6:∀i<4,∀j<5,∀l<5,0<(nE i j l).length/\(nE i j l).length<=5:=by decide +kernel
theorem DF:∀i<4,((pool[i]?).getD []).Pairwise (λa b=>¬a=b):=by decide +kernel
theorem rO{i:Nat}{x:Str}(h:x∈(pool[i]?).getD []):x∈pool.flatten:=by
 cases e:pool[i]? with
 |none=>rw[e]at h;simp at h
 |some l=>rw[e]at h;exact List.mem_flatten.mpr ⟨l,Qt e,h⟩
theorem zS{i j l:Nat}{x:Str}(h:x∈nE i j l):x∈pool.flatten:=by
 rcases Nx.mp (Ow h) with z|z
 .exact rO (OR z)
 .exact rO (Ow z)
theorem E7{i j l:Nat}(hi:i<4)(hj:j<5)(hl:l<5):NmOk (nE i j l):=by
 obtain⟨a,b⟩:=A6 i hi j hj l hl;refine⟨?_,a,b,λx c=>zS c⟩;have e:((pool[i]?).getD []).Nodup:=DF i hi;have p:(((pool[i]?).getD []).drop j++((pool[i]?).getD []).take j).Perm ((pool[i]?).getD []):=List.perm_append_comm.trans (by rw[List.take_append_drop])
 exact(p.nodup_iff.mpr e).sublist (List.take_sublist ..)
theorem Ft{r:Int}(h0:0<=r)(h1:r<4):atI (pool.map λl=>D.lst (l.map D.str)) r=some (.lst<|((pool[r.toNat]?).getD []).map D.str):=by
 have a:r.toNat<pool.length:=by show r.toNat<4;lia
 rw[bO h0,Nr,MY a];rfl
section
variable {ad:Ad}{M:Mem}{k:Pt}{Q:DK}{E:DX}
theorem sm{b:Nat}(hp:Has k (b+3) M)(h:∀names M' q,NmOk names->Dr k b M M'->M' q=none->Q (.ref q) (M'.upd q<|.lst<|names.map D.str)):vm ad [.ref k.p] M Q E:=by
 simp![MM,wj];refine⟨aZ (by decide),λH g=>?_⟩
 simp only[Mem.upd_del,af g];refine⟨aZ (by decide),λX G=>?_⟩
 simp only[Mem.upd_del,af G];refine⟨aZ (by decide),λP z=>?_⟩
 simp only[Mem.upd_del,af z];refine⟨aZ (by decide),λO B=>?_⟩
 simp only[Mem.upd_del,af B];refine⟨aZ (by decide),λU y=>?_⟩
 simp only[Mem.upd_del,af y];refine aB (b:=b+2) hp (by decide) (by decide) λa M1 C u e=>?_
 have c:=Ft C u;have m:((pool[a.toNat]?).getD []).length<=5:=by
  have:∀i<4,((pool[i]?).getD []).length<=5:=by decide +kernel
  exact this _ (by lia)
 generalize F:(pool[a.toNat]?).getD []=L at c m;simp only[pool,Nb,NM]at c;simp![c];refine aB (b:=b+1) e.1 (by decide) (by decide) λW M2 s I d2=>?_
 obtain⟨j,rfl⟩:=OJ s;simp![cR,bT];intro N o;simp only[Mem.upd_del,af o];intro T n;simp only[Mem.upd_del,af n];refine⟨aZ (by simp only[NY,NP,MW];lia),λS f=>?_⟩
 simp![Mem.upd_del,af f];refine aB (b:=b) d2.1 (by decide) (by decide) λR M3 x K A=>?_
 obtain⟨l,rfl⟩:=OJ x;have w:(1:Int)+(l:Nat)=((1+l:Nat):Int):=by lia
 simp![w,bT];intro J v;have r:((L.map D.str).drop j++(L.map D.str).take j).take (1+l)=(nE a.toNat j l).map D.str:=by
  unfold nE;rw[F,<- QE,<- PL,<- Ol,<- PL]
 rw[r];exact aq (h _ _ _ (E7 (by lia) (by lia)<|by lia) (e.trans<|d2.trans A) v)
end
def pY(w:Int)(names:List Str)(left many:Int):List (ax×D):=[(Nm "wheel",.int w),(Nm "names",.lst (names.map D.str)),(Nm "left",.int left),(Nm "many",.int many)]
section
variable {w left many:Int}{names:List Str}
theorem lq:ba (pY w names left many) (Nm "wheel")=some (.int w):=by simp[ba,pY,bo]
theorem fB:ba (pY w names left many) (Nm "names")=some (.lst<|names.map D.str):=by simp[ba,pY,bo]
theorem vo:ba (pY w names left many) (Nm "left")=some (.int left):=by simp[ba,pY,bo]
theorem pO:ba (pY w names left many) (Nm "many")=some (.int many):=by simp[ba,pY,bo]
theorem HC{v:Int}:bL (pY w names left many) (Nm "left") (.int v)=pY w names v many:=by simp[bL,pY,bo]
end
structure FrOk(w many:Int)(names:List Str):Prop where
 w2:2<=w
 w1:w<=997
 m0:0<=many
 m1:many<=6
 nm:NmOk names
structure Tf(k:Pt)(f:Addr)(b:Nat)(w many:Int)(names:List Str)(M:Mem):Prop where
 has:Has k b M
 f1:f≠k.p
 f2:f≠k.q
 fr:∃left,M f=some (.dK<|pY w names left many)
section
variable {ad:Ad}{k:Pt}{f:Addr}{b c:Nat}{w many:Int}{names:List Str}{M M':Mem}{Q:DK}{E:DX}
theorem Tf.dr(t:Tf k f b w many names M)(d:Dr k c M M'):Tf k f c w many names M':=⟨d.1,t.f1,t.f2,by obtain⟨l,e⟩:=t.fr;exact⟨l,by rw[d.2 f t.f1 t.f2];exact e⟩⟩
theorem Tf.le(t:Tf k f b w many names M)(e:c<=b):Tf k f c w many names M:=⟨t.has.le e,t.f1,t.f2,t.fr⟩
theorem xF{r:Int}(h0:0<=r)(h1:r<names.length):∃y,y∈names/\atI (names.map D.str) r=some (.str y):=by
 have a:r.toNat<names.length:=by lia
 exact⟨names[r.toNat],Om a,by rw[bO h0,Nr,MY a];rfl⟩
theorem qj{n:Nat}(hn:n<=3)(nm:NmOk names)(hp:Has k (b+n) M){c0:Option D}{xs:List D}(hx:xs.length=n){Q:List D->Mem->Prop}{bx:BxC (ah 0) bX (am az (ac 2)<|ai<|aj (aX ad) iF 2<|aa (ac 1)<|aa (aQ bh<|aa (ac 2) ae) ae) (DIt.ok ⟨xs,[]⟩) Q}
  (h:∀(ys:List Str) M',ys.length=n->(∀y∈ys,y∈names)->Dr k b M M'->Q (ys.map D.str) M'):
  cF (ah 0) bX (am az (ac 2)<|ai<|aj (aX ad) iF 2<|aa (ac 1)<|aa (aQ bh<|aa (ac 2) ae) ae) (DIt.ok ⟨xs,[]⟩) Q bx xs [] [c0,some (.ref k.p),some (.lst<|names.map D.str)] M:=by
 have n0:=nm.n0;have n1:=nm.n1;refine bM (λxs a U N=>∃(ys:List Str) (c0:Option D),xs.length+ys.length=n/\a=ys.map D.str/\(∀y∈ys,y∈names)/\U=[c0,some (.ref k.p),some (.lst<|names.map D.str)]/\Dr k (b+xs.length) M N) (λ_ _ _ _ _=>bd) ?_ ?_ ?_ _ _ _ _ ⟨[],c0,by simpa using hx,rfl,by simp,rfl,by rw[hx];exact hp.refl⟩
 .rintro a U N ⟨ys,c0,e,rfl,g,rfl,d⟩
  exact h ys N (by simpa using e) g (by simpa using d)
 .rintro x xs a U N ⟨ys,c0,e,rfl,g,rfl,d⟩ N' u _
  simp only[MZ]at e d;simp![MW];refine aB (b:=b+xs.length) d.1 (by lia) (by lia) λr M1 o s m=>?_
  obtain⟨y,i,l⟩:=xF o s;simp![l];refine u _ _ _ (by simp;exact fS (by lia)) ⟨ys++[y],_,by simp;lia,by simp,λz j=>?_,rfl,d.trans m⟩
  rcases Nx.mp j with q|q
  .exact g z q
  .rw[NS]at q;subst q;exact i
 .rintro x xs a U N ⟨ys,c0,e,rfl,g,rfl,d⟩
  simp at e ⊢;exact fS (by lia)
def wds:List Str:=["sum","sum","by","less","same"]
theorem Kk{r:Int}(h0:0<=r)(h1:r<5):∃y:Str,(y="sum"\/y="by"\/y="less"\/y="same")/\atI (wds.map D.str) r=some (.str y):=by
 have:r=0\/r=1\/r=2\/r=3\/r=4:=by lia
 rcases this with rfl|rfl|rfl|rfl|rfl
 .exact⟨_,.inl rfl,rfl⟩
 .exact⟨_,.inl rfl,rfl⟩
 .exact⟨_,.inr (.inl rfl),rfl⟩
 .exact⟨_,.inr (.inr<|.inl rfl),rfl⟩
 .exact⟨_,.inr (.inr<|.inr rfl),rfl⟩
theorem rC(ok:FrOk w many names)(t:Tf k f (b+5) w many names M)(h:∀(r:Rw) M',RwOk names w many r->Dr k b M M'->Q r.d M'):vx ad [.ref k.p,.ref f] M Q E:=by
 obtain⟨left,e⟩:=t.fr;have w1:=ok.w1;have w2:=ok.w2;have m1:=ok.m1;simp![Lm,xo,e,fB,↓aW];refine⟨by decide,by decide,qj (n:=3) (b:=b+2) (by decide) ok.nm t.has ?_ λF M1 R o A=>?_⟩
 .rfl
 intro p J;obtain⟨x,y,z,rfl⟩:∃x y z,F=[x,y,z]:=by
  match F,R with
  |[x,y,z],_=>exact⟨x,y,z,rfl⟩
 have i:=o x (by simp)
 have g:=o y (by simp)
 have K:=o z (by simp)
 have O:=(t.dr A);simp![Mem.upd_del,af J];refine aB (b:=b+1) A.1 (by decide) (by decide) λa M2 U S j=>?_
 have L:=O.dr j;obtain⟨T,P⟩:=L.fr;have D12:=A.trans j;simp![]
 by_cases G:6<a
 .rw[if_pos G]
  obtain⟨v,I,B⟩:=Kk (r:=a % 5) (by lia) (by lia)
  simp only[wds,Nb,NM]at B;refine⟨aZ (by decide),λq N=>?_⟩
  simp![Mem.upd_del,af N,B];exact⟨by decide,aZ (by decide),aq<|h (.two v x y z) M2 ⟨I,i,g,K⟩<|D12.le<|by lia⟩
 .rw[if_neg G]
  simp![P,pO,lq];have put:calls (aX ad) (aw E) [D.ref k.p,D.int w] M2 (λd M'=>3<=sizeLine/\drp Q (.tup [.str "put",.str x,d]) M') ⟨⟩:=
   aB (b:=b) j.1 (by lia) (by lia) λr M3 s m u=>⟨aZ (by decide),aq<|h (.put x r) M3 ⟨i,s,m⟩<|D12.trans u⟩
  by_cases C:1<a
  .rw[if_pos C]
   by_cases l:0<many
   .rw[if_pos l]
    by_cases H:a=2
    .rw[if_pos H]
     exact⟨aZ (by decide),aq<|h (.pick x y) M2 ⟨i,g,l⟩<|D12.le<|by lia⟩
    .rw[if_neg H]
     exact aB (b:=b) j.1 l (by lia) λr M3 s m u=>⟨(aZ (by decide):3<=sizeLine),aq<|h (.take x r) M3 ⟨i,s,m⟩<|D12.trans u⟩
   .rw[if_neg l]
    exact put
  .rw[if_neg C]
   exact put
end
theorem cv:∀{a b:List Rw},ay (a++b)=ay a++ay b
 |[],b=>rfl
 |r::a,b=>by simp only[Nz,ay,cv]
theorem dq:∀{a:List Rw},(ay a).length=a.length
 |[]=>rfl
 |r::a=>by simp[ay,dq]
theorem OkRs_append{names:List Str}{m many:Int}:∀{a b:List Rw},cL names m many (a++b)↔cL names m many a/\cL names m many b
 |[],b=>by simp[cL]
 |r::a,b=>by simp[cL,OkRs_append,and_assoc]
theorem gh:∀{a b:List Rw},g7 (a++b)=max (g7 a) (g7 b)
 |[],b=>by simp[g7]
 |r::a,b=>by simp only[Nz,g7,gh];lia
mutual
def szR:Rw->Prop
 |.ifr _ a b=>(a.length<=7/\mJ a)/\(b.length<=7/\mJ b)
 |.again _ a=>a.length<=7/\mJ a
 |.put _ _=>True
 |.take _ _=>True
 |.pick _ _=>True
 |.two _ _ _ _=>True
def mJ:List Rw->Prop
 |[]=>True
 |r::rs=>szR r/\mJ rs
end
theorem szRs_append:∀{a b:List Rw},mJ (a++b)↔mJ a/\mJ b
 |[],b=>by simp[mJ]
 |r::a,b=>by simp[mJ,szRs_append,and_assoc]
mutual
def wR:Rw->Nat
 |.ifr _ a b=>1+(ja a+ja b)
 |.again _ a=>1+ja a
 |.put _ _=>1
 |.take _ _=>1
 |.pick _ _=>1
 |.two _ _ _ _=>1
def ja:List Rw->Nat
 |[]=>0
 |r::rs=>wR r+ja rs
end
theorem dy:∀{a b:List Rw},ja (a++b)=ja a+ja b
 |[],b=>by simp[ja]
 |r::a,b=>by simp only[Nz,ja,dy];lia
def wd:Nat->Nat
 |0=>1
 |d+1=>4+4*wd d
theorem Hw:∀d,1<=wd d
 |0=>Ni _
 |d+1=>by unfold wd;lia
theorem RwOk.wt{names:List Str}{m many:Int}{r:Rw}(h:RwOk names m many r):wR r=1:=by
 cases r with
 |ifr=>exact h.elim
 |again=>exact h.elim
 |put=>rfl
 |take=>rfl
 |pick=>rfl
 |two=>rfl
theorem RwOk.all{names:List Str}{m many:Int}{r:Rw}(h:RwOk names m many r):jw names m many r/\hR r=0/\szR r:=by
 cases r with
 |ifr=>exact h.elim
 |again=>exact h.elim
 |put=>exact⟨h,rfl,trivial⟩
 |take=>exact⟨h,rfl,trivial⟩
 |pick=>exact⟨h,rfl,trivial⟩
 |two=>exact⟨h,rfl,trivial⟩
structure Drn(names:List Str)(w many:Int)(deep:Nat)(rs:List Rw):Prop where
 ok:cL names w many rs
 h:g7 rs<=deep
 s:mJ rs
section
variable {names:List Str}{w many:Int}{deep d2:Nat}{a c:List Rw}
theorem Drn.nil:Drn names w many deep []:=⟨trivial,N5 _,trivial⟩
theorem Drn.app(x:Drn names w many deep a)(y:Drn names w many deep c):Drn names w many deep (a++c):=⟨OkRs_append.mpr ⟨x.ok,y.ok⟩,by rw[gh];have:=x.h;have:=y.h;lia,szRs_append.mpr ⟨x.s,y.s⟩⟩
theorem Drn.one{r:Rw}(x:RwOk names w many r):Drn names w many deep [r]:=⟨⟨x.all.1,trivial⟩,by simp only[g7,x.all.2.1];lia,⟨x.all.2.2,trivial⟩⟩
theorem Drn.again{x:Str}(hx:x∈names)(y:Drn names w many deep a)(hl:a.length<=7):Drn names w many (deep+1) [.again x a]:=⟨⟨⟨hx,y.ok⟩,trivial⟩,by simp only[g7,hR];have:=y.h;lia,⟨⟨hl,y.s⟩,trivial⟩⟩
theorem Drn.ifr{x:Str}(hx:x∈names)(y:Drn names w many deep a)(z:Drn names w many deep c)(hl:a.length<=7)(hl2:c.length<=7):Drn names w many (deep+1) [.ifr x a c]:=⟨⟨⟨hx,y.ok,z.ok⟩,trivial⟩,by simp only[g7,hR];have:=y.h;have:=z.h;lia,⟨⟨⟨hl,y.s⟩,⟨hl2,z.s⟩⟩,trivial⟩⟩
end
structure Kf(k:Pt)(f:Addr)(b:Nat)(w many:Int)(names:List Str)(M M':Mem):Prop where
 tf:Tf k f b w many names M'
 kp:∀x o,x≠k.p->x≠k.q->x≠f->M x=some o->M' x=some o
section
variable {ad:Ad}{k:Pt}{f:Addr}{b c:Nat}{w many:Int}{names:List Str}{M M1 M2:Mem}{Q:DK}{E:DX}
theorem Tf.kf(t:Tf k f b w many names M):Kf k f b w many names M M:=⟨t,λ_ _ _ _ _ e=>e⟩
theorem Kf.trans(x:Kf k f b w many names M M1)(y:Kf k f c w many names M1 M2):Kf k f c w many names M M2:=⟨y.tf,λz o a g h e=>y.kp z o a g h (x.kp z o a g h e)⟩
theorem Kf.dr(x:Kf k f b w many names M M1)(y:Dr k c M1 M2):Kf k f c w many names M M2:=⟨x.tf.dr y,λz o a g h e=>by rw[y.2 z a g];exact x.kp z o a g h e⟩
theorem Kf.le(x:Kf k f b w many names M M1)(e:c<=b):Kf k f c w many names M M1:=⟨x.tf.le e,x.kp⟩
theorem Kf.non(K:Kf k f b w many names M M1){l:Addr}(h:M1 l=none):M l=none:=by
 obtain⟨⟨a,t,u,_,_,_,r,n⟩,v,s,left,m⟩:=K.tf;cases e:M l with
 |none=>rfl
 |some o=>
  by_cases g:l=k.p
  .rw[g,r]at h;cases h
  .by_cases i:l=k.q
   .rw[i,n]at h;cases h
   .by_cases j:l=f
    .rw[j,m]at h;cases h
    .rw[K.kp l o g i j e]at h;cases h
theorem Tf.nep(t:Tf k f b w many names M){l:Addr}(hl:M l=none):l≠k.p/\l≠k.q/\l≠f:=by
 obtain⟨a,g⟩:=t.has.nep hl;obtain⟨left,e⟩:=t.fr;exact⟨a,g,λz=>by rw[z,e]at hl;cases hl⟩
theorem Tf.upd(t:Tf k f b w many names M){l:Addr}{o:MO}(h:l≠k.p/\l≠k.q/\l≠f):Tf k f b w many names (M.upd l o):=⟨t.has.upd ⟨h.1,h.2.1⟩,t.f1,t.f2,by obtain⟨left,e⟩:=t.fr;exact⟨left,by rw[ag (N8 h.2.2)];exact e⟩⟩
theorem Kf.new(K:Kf k f b w many names M M1){l:Addr}{o:MO}(h:M1 l=none):Kf k f b w many names M (M1.upd l o):=⟨K.tf.upd (K.tf.nep h),λx u a g i e=>by
 rw[ag (λz=>by rw[z,K.non h]at e;cases e)];exact K.kp x u a g i e⟩
theorem Tf.left(t:Tf k f b w many names M)(v:Int):Kf k f b w many names M (M.upd f<|.dK<|pY w names v many):=
 ⟨⟨t.has.upd ⟨t.f1,t.f2⟩,t.f1,t.f2,v,Mem.upd_same⟩,λx o _ _ a e=>by rw[ag a];exact e⟩
def PRo(ad:Ad)(k:Pt)(f:Addr)(w many:Int)(names:List Str)(n:Nat):Prop:=∀(m deep b:Nat) (M:Mem) (Q:DK) (E:DX),m<=9->2*deep+1<=n->Tf k f (b+m*100 ^ (deep+1)) w many names M->
 (∀(rs:List Rw) (l:Addr) (M':Mem),Drn names w many deep rs->(rs.length<=3*m/\ja rs<=m*wd deep)->Kf k f b w many names M M'->M' l=none->M l=none->Q (.ref l) (M'.upd l<|.lst<|ay rs))->SA ad n [.ref k.p,.ref f,.int (m:Nat),.int (deep:Nat)] M Q E
def PLo(ad:Ad)(k:Pt)(f:Addr)(w many:Int)(names:List Str)(n:Nat):Prop:=∀(deep b:Nat) (M:Mem) (Q:DK) (E:DX),2*deep+2<=n->Tf k f (b+(10+2*100 ^ (deep+1))) w many names M->
 (∀(rs:List Rw) (l:Addr) (M':Mem),Drn names w many (deep+1) rs->(rs.length<=3/\ja rs<=wd (deep+1))->Kf k f b w many names M M'->M' l=none->M l=none->Q (.ref l) (M'.upd l<|.lst<|ay rs))->Sw ad n [.ref k.p,.ref f,.int ((deep+1:Nat):Int)] M Q E
theorem z7(ok:FrOk w many names){n:Nat}(ih:PRo ad k f w many names n):PLo ad k f w many names (n+1):=by
 intro deep b M Q E hn t h;have w2:=ok.w2;have w1:=ok.w1;obtain⟨left,e⟩:=t.fr;simp![LI,xD,e,fB,↓aW];refine⟨by decide,by decide,qj (n:=2) (b:=b+(8+2*100 ^ (deep+1))) (by decide) ok.nm (t.has.le<|by lia) ?_ λR M1 l1 P T=>?_⟩
 .rfl
 intro p i;obtain⟨x,y,rfl⟩:∃x y,R=[x,y]:=by
  match R,l1 with
  |[x,y],_=>exact⟨x,y,rfl⟩
 have g:=P x (by simp)
 have A:=P y (by simp)
 simp![Mem.upd_del,af i];refine aB (b:=b+(7+2*100 ^ (deep+1))) (T.1.le<|by lia) (by decide) (by decide) λj M2 a2 b2 d2=>?_
 simp![];refine aB (b:=b+(6+2*100 ^ (deep+1))) (d2.1.le<|by lia) (by decide) (by decide) λm M3 a3 b3 d3=>?_
 obtain⟨m,rfl⟩:=OJ a3;have K3:=t.kf.dr (T.trans<|d2.trans d3);have ed:((deep+1:Nat):Int)-1=(deep:Nat):=by lia
 simp![ed];have hm:m*100 ^ (deep+1)<=2*100 ^ (deep+1):=Oa _ (by lia)
 refine aA λQ' E' hq _=>ih m deep (b+6) _ _ _ (by lia) (by lia) (K3.tf.le<|by lia) λq l M4 dr z K4 hl _=>hq _ _ ?_
 have lr:=z.1;have hw:ja q<=2*wd deep:=Ny z.2 (Oa _<|by lia)
 have K5:=K3.trans K4;have Z:(ay q).length<=6:=by rw[dq];lia
 simp![Mem.upd_del,af hl];have C:RwOk names w many (.put x 0):=⟨g,by decide,by lia⟩
 have a:∀(p:Addr),M4 p=none->drp Q (.ref p) (M4.upd p<|.lst [.tup [.str "again",.str x,.tup (ay q++[.tup [.str "put",.str x,.int 0]])]]):=λp i=>by
  have:=h [.again x (q++[.put x 0])] p M4 (Drn.again g (dr.app<|Drn.one C)<|by simp;lia) ⟨by simp,by simp only[ja,wR,dy,wd];lia⟩ (K5.le<|by lia) i (K5.non i)
  simp only[ay,Rw.d,cv]at this;exact aq this
 by_cases N:j=0
 .rw[if_pos N]
  refine⟨aZ (by decide),aZ (by decide),λp i=>?_⟩
  have:=h [.again x q] p M4 (Drn.again g dr<|by lia) ⟨by simp,by simp only[ja,wR,dy,wd];lia⟩ (K5.le<|by lia) i (K5.non i)
  simp only[ay,Rw.d]at this;exact aq this
 rw[if_neg N]
 by_cases S:j=1
 .rw[if_pos S]
  refine⟨aZ (by decide),aZ (by decide),λX H=>⟨aZ (by lia),λp2 G=>⟨aZ (by decide),aZ (by decide),λJ o=>?_⟩⟩⟩
  rw[af H]at G o ⊢;rw[af G]at o ⊢;exact a J o
 rw[if_neg S]
 by_cases O:x=y
 .rw[if_pos O]
  refine⟨aZ (by decide),aZ (by decide),λX H=>⟨aZ (by lia),λp2 G=>⟨aZ (by decide),aZ (by decide),λJ o=>?_⟩⟩⟩
  rw[af H]at G o ⊢;rw[af G]at o ⊢;exact a J o
 rw[if_neg O];obtain⟨l5,e5⟩:=K5.tf.fr;simp![e5,lq];refine aB (b:=b) (K5.tf.has.le<|by lia) (by split<;>lia) (by split<;>lia) λr M6 W b6 d6=>?_
 have U:r<w:=by split at b6<;>lia
 have K6:=K5.dr d6;obtain⟨l6,e6⟩:=K6.tf.fr;have B:RwOk names w many (.put x r):=⟨g,W,U⟩;have s:RwOk names w many (.put y (w-1)):=⟨A,by lia,by lia⟩
 have u:RwOk names w many (.two "sum" x x y):=⟨.inl rfl,g,g,A⟩;simp![];refine⟨aZ (by decide),aZ (by decide),λp6 h6=>?_⟩
 have K7:Kf k f b w many names M (M6.upd p6<|.lst [.tup [.str "put",.str x,.int r]]):=K6.new h6;obtain⟨l7,e7⟩:=K7.tf.fr;obtain⟨v,ev,L⟩:∃v:Int,(if j=2 then (1:Int) else 0)=v/\(v=0\/v=1):=⟨_,rfl,by split<;>simp⟩
 rw[ev];obtain⟨fs,ef,Y,hfl,hfw⟩:∃fs:List Rw,(Nh v.toNat [D.tup [.str "put",.str x,.int r]]).flatten=ay fs/\Drn names w many (deep+1) fs/\fs.length<=1/\ja fs<=1:=by
  rcases L with rfl|rfl
  .exact⟨[],rfl,Drn.nil,by simp,by simp[ja]⟩
  .exact⟨[.put x r],rfl,Drn.one B,by simp,by simp[ja,wR]⟩
 refine⟨by lia,by lia,by rcases L with rfl|rfl<;>decide,λq7 h7=>?_⟩
 rw[Mem.upd_del,af h7,ef];have K8:=K7.le (c:=b) (Ni _);simp![e7,lq];refine⟨aZ (by decide),aZ (by decide),aZ (by decide),λq8 h8=>?_⟩
 rw[Mem.upd_del,af h8];refine⟨aZ (by lia),λq9 h9=>?_⟩
 rw[Mem.upd_del,af h9];refine⟨aZ (by decide),aZ (by decide),λq10 K=>?_⟩
 rw[Mem.upd_del,af K];refine⟨aZ (by rw[dq];lia),λI F=>?_⟩
 have:=h (fs++[.put y (w-1),.again x (q++[.two "sum" x x y])]) I _ (Y.app<|(Drn.one (deep:=deep+1) s).app<|Drn.again g (dr.app<|Drn.one u)<|by simp;lia) ⟨by simp;lia,by simp only[ja,wR,dy,wd];lia⟩ K8 F (K8.non F)
 simp only[ay,Rw.d,cv]at this;exact aq this
end
section
variable {ad:Ad}{k:Pt}{f:Addr}{w many:Int}{names:List Str}
theorem s_(ok:FrOk w many names){n:Nat}(ihl:PLo ad k f w many names n)(ih:PRo ad k f w many names n):PRo ad k f w many names (n+1):=by
 intro m a b M Q E hm hn t h;have n0:=ok.nm.n0;have n1:=ok.nm.n1;simp![u_q5,EZ,↓cJ];refine⟨aZ (by decide),λl W=>?_⟩
 have g:=t.nep W;refine⟨by lia,by lia,?_⟩
 refine bA (λI U N=>∃(i:List Rw) (c5 P F G H s:Option D),I.length<=m/\U=[some (.ref k.p),some (.ref f),some (.int (m:Nat)),some (.int (a:Nat)),some (.ref l),c5,P,F,G,H,s]/\Drn names w many a i/\(i.length+3*I.length<=3*m/\ja i+I.length*wd a<=m*wd a)/\N l=some (.lst<|ay i)/\Kf k f (b+I.length*100 ^ (a+1)) w many names M N) (λ_ _ _ _=>bd) ?_ ?_ _ _ _ ⟨[],none,none,none,none,none,none,by simp[bD],rfl,Drn.nil,⟨by simp[bD],by simp[bD,ja]⟩,Mem.upd_same,by
  have e:(bD 0<|Py (m:Nat)).length=m:=by simp[bD]
  rw[e];exact t.kf.new W⟩
 .rintro U N ⟨i,c5,P,F,G,H,s,hx,rfl,dr,O,hN,K⟩
  simp![];have e:N=(N.del l).upd l (.lst<|ay i):=by
   funext x
   by_cases c:x=l
   .subst c;rw[Mem.upd_same];exact hN
   .rw[ag c];unfold Mem.del;rw[if_neg c]
  rw[e];have hd:(N.del l) l=none:=by unfold Mem.del;rw[if_pos rfl]
  have fd:∀x,x≠l->(N.del l) x=N x:=λx hx=>by unfold Mem.del;rw[if_neg hx]
  refine aq (h i l (N.del l) dr ⟨by have:=O.1;simp at this;lia,by have:=O.2;simp at this;lia⟩ ⟨⟨?_,K.tf.f1,K.tf.f2,?_⟩,λx o h1 h2 h3 e=>?_⟩ hd W)
  .obtain⟨J,t',hh,a1,a2,a3,e1,e2⟩:=K.tf.has
   exact⟨J,t',hh,a1,a2,by simp at a3;lia,by rw[fd _ (N8 g.1)];exact e1,by rw[fd _ (N8 g.2.1)];exact e2⟩
  .obtain⟨left,e3⟩:=K.tf.fr
   exact⟨left,by rw[fd _ (N8 g.2.2)];exact e3⟩
  .rw[fd x (λz=>by rw[z,W]at e;cases e)]
   exact K.kp x o h1 h2 h3 e
 .rintro x I U N ⟨i,c5,P,F,G,H,s,hx,rfl,dr,O,hN,K⟩ D' hnx _ _ _
  simp only[MZ]at hx O K;have law:=O.2;rw[QZ]at law
  replace O:=O.1
  have hP:1<=100 ^ a:=Nat.one_le_pow _ _ (by decide)
  have hPs:100 ^ (a+1)=100*100 ^ a:=by rw[R0,R1]
  have hsz:(ay i).length<=30:=by rw[dq];lia
  have K0:Kf k f (b+I.length*100 ^ (a+1)+100*100 ^ a) w many names M N:=K.le (by have:=QZ I.length (100 ^ (a+1));simp only[Nat.succ_eq_add_one]at this;lia)
  generalize hB:b+I.length*100 ^ (a+1)=B at K0;obtain⟨left,e⟩:=K0.tf.fr;simp![e,vo,HC];have K1:=K0.trans (K0.tf.left (left-4));have nl:l≠f:=g.2.2;refine⟨(fS (by decide):4<sizeLine),?_⟩
  refine aB (b:=B+(100*100 ^ a-1)) (K1.tf.has.le<|by lia) (by decide) (by decide) λv M2 a2 b2 d2=>?_
  have K2:=K1.dr d2;have A:M2 l=some (.lst<|ay i):=by rw[d2.2 l g.1 g.2.1,ag nl];exact hN
  obtain⟨l2,e2⟩:=K2.tf.fr;have fin:∀(C:List Rw) (P F G H s:Option D) (M':Mem),Drn names w many a C->(C.length<=3/\ja C<=wd a)->Kf k f B w many names M M'->M' l=some (.lst<|ay i)->D'.nx [some (.ref k.p),some (.ref f),some (.int (m:Nat)),some (.int (a:Nat)),some (.ref l),some x,P,F,G,H,s] (M'.upd l<|.lst (ay i++ay C)):=λC P F G H s M' d1 Z K' e'=>
   hnx _ _ ⟨i++C,_,_,_,_,_,_,by lia,rfl,dr.app d1,⟨by have:=Z.1;simp;lia,by have:=Z.2;rw[dy];lia⟩,by rw[Mem.upd_same,cv],by
    rw[hB];refine⟨K'.tf.upd g,λz o z1 z2 z3 ez=>?_⟩;rw[ag (λq=>by rw[q,W]at ez;cases ez)]
    exact K'.kp z o z1 z2 z3 ez⟩
  have one:o4 ad (Sw ad n) (SA ad n) (aw E) D' [some (.ref k.p),some (.ref f),some (.int (m:Nat)),some (.int (a:Nat)),some (.ref l),some x,some (.int v),F,G,H,s] M2:=by
   simp![A];refine aA λQ' E' L _=>rC (b:=B) ok (K2.tf.le<|by lia) λr M3 hr Y=>L _ _ ?_
   have u:M3 l=some (.lst<|ay i):=by rw[Y.2 l g.1 g.2.1];exact A
   have:=fin [r] (some<|.int v) F G H s M3 (Drn.one hr) ⟨by simp,by simp only[ja,hr.wt];have:=Hw a;lia⟩ (K2.dr Y) u
   simp only[ay]at this;cases r with
   |ifr=>exact hr.elim
   |again=>exact hr.elim
   |_=>
    simp only[Rw.d]at this;simp![Rw.d,u];exact⟨fS (by lia),this⟩
  show p8 ad (Sw ad n) (SA ad n) (aw E) D' [some (.ref k.p),some (.ref f),some (.int (m:Nat)),some (.int (a:Nat)),some (.ref l),some x,some (.int v),F,G,H,s] M2;unfold p8 sF;generalize o4 ad (Sw ad n) (SA ad n) (aw E)=K7 at one ⊢;simp![e2,vo]
  by_cases T:(0:Int)<(a:Nat)
  .rw[if_pos T]
   by_cases c1:0<l2
   .rw[if_pos c1]
    obtain⟨j,rfl⟩:∃j,a=j+1:=⟨a-1,by lia⟩
    have hQ:1<=100 ^ j:=Nat.one_le_pow _ _ (by decide)
    have hQs:100 ^ (j+1)=100*100 ^ j:=by rw[R0,R1]
    by_cases c2:v=0
    .rw[if_pos c2]
     simp![A];refine aA λQ' E' L _=>ihl j B _ _ _ (by lia) (K2.tf.le<|by lia) λC l3 M3 dr3 Z K3 h3 _=>L _ _ ?_
     have u:M3 l=some (.lst<|ay i):=K3.kp l _ g.1 g.2.1 g.2.2 A;have hrl:(ay C).length<=3:=by rw[dq];exact Z.1
     simp![Mem.upd_del,af h3,u];exact⟨aZ (by lia),fin C _ _ _ _ _ M3 dr3 Z (K2.trans K3) u⟩
    .rw[if_neg c2]
     rw[if_pos T,if_pos c1]
     by_cases c3:v<3
     .rw[if_pos c3]
      simp![e2,fB,MW];refine aB (b:=B+(100*100 ^ (j+1)-2)) (K2.tf.has.le<|by lia) (by lia) (by lia) λr3 M3 a3 b3 Y=>?_
      obtain⟨y,hy,ey⟩:=xF a3 b3;have K3:=K2.dr Y;have u:M3 l=some (.lst<|ay i):=by rw[Y.2 l g.1 g.2.1];exact A
      simp![ey];refine aB (b:=B+(100*100 ^ (j+1)-3)) (K3.tf.has.le<|by lia) (by decide) (by decide) λm4 M4 a4 b4 d4=>?_
      obtain⟨m4,rfl⟩:=OJ a4;have K4:=K3.dr d4;have h4l:M4 l=some (.lst<|ay i):=by rw[d4.2 l g.1 g.2.1];exact u
      have ed:((j+1:Nat):Int)-1=(j:Nat):=by lia
      have hm4:m4*100 ^ (j+1)<=2*100 ^ (j+1):=Oa _ (by lia)
      simp![ed];refine aA λQ' E' L _=>ih m4 j (B+(10+3*100 ^ (j+1))) _ _ _ (by lia) (by lia) (K4.tf.le<|by lia) λr5 l5 M5 dr5 S K5 h5 _=>L _ _ ?_
      have K5':=K4.trans K5;have h5l:M5 l=some (.lst<|ay i):=K5.kp l _ g.1 g.2.1 g.2.2 h4l;simp![Mem.upd_del,af h5];refine aB (b:=B+(9+3*100 ^ (j+1))) (K5'.tf.has.le<|by lia) (by decide) (by decide) λm6 M6 a6 b6 d6=>?_
      obtain⟨m6,rfl⟩:=OJ a6;have K6:=K5'.dr d6;have h6l:M6 l=some (.lst<|ay i):=by rw[d6.2 l g.1 g.2.1];exact h5l
      have hm6:m6*100 ^ (j+1)<=2*100 ^ (j+1):=Oa _ (by lia)
      simp![ed];refine aA λQ' E' L _=>ih m6 j B _ _ _ (by lia) (by lia) (K6.tf.le<|by lia) λr7 l7 M7 dr7 X K7' h7 _=>L _ _ ?_
      have R:M7 l=some (.lst<|ay i):=K7'.kp l _ g.1 g.2.1 g.2.2 h6l;have w5:ja r5<=2*wd j:=Ny S.2 (Oa _<|by lia)
      have w7:ja r7<=2*wd j:=Ny X.2 (Oa _<|by lia)
      have:=fin [.ifr y r5 r7] (some<|.int v) (some<|.lst<|names.map D.str) (some<|.str y) (some<|.lst<|ay r5) (some<|.lst<|ay r7) M7 (Drn.ifr hy dr5 dr7 (by have:=S.1;lia)<|by have:=X.1;lia) ⟨by simp,by simp only[ja,wR,wd];lia⟩ (K6.trans K7') R
      simp only[ay,Rw.d]at this;simp![Mem.upd_del,af h7,R];exact⟨aZ (by decide),fS (by lia),this⟩
     .rw[if_neg c3]
      exact one
   .rw[if_neg c1,if_pos T,if_neg c1]
    exact one
  .rw[if_neg T,if_neg T]
   exact one
theorem fW(ok:FrOk w many names):∀n,PLo ad k f w many names n/\PRo ad k f w many names n
 |0=>⟨λa b M Q E c=>by lia,λm a b M Q E hm c=>by lia⟩
 |n+1=>⟨z7 ok (fW ok n).2,s_ ok (fW ok n).1 (fW ok n).2⟩
end
structure PlT(w many:Int)(names:List Str)(rows:List Rw)(mk:Str):Prop where
 f:FrOk w many names
 r:Drn names w many 4 rows
 l:rows.length<=27
 m:mk∈names
 wt:ja rows<=5364
def rB(w many:Int)(names:List Str)(rows:List Rw)(mk:Str):D:=.tup [.int w,.tup (names.map D.str),.int many,.tup (ay rows),.str mk]
structure Kq(k:Pt)(b:Nat)(M M':Mem):Prop where
 has:Has k b M'
 kp:∀x o,x≠k.p->x≠k.q->M x=some o->M' x=some o
section
variable {ad:Ad}{k:Pt}{b c:Nat}{M M1 M2:Mem}{Q:DK}{E:DX}
theorem Dr.kq(d:Dr k b M M1):Kq k b M M1:=⟨d.1,λx o a f e=>by rw[d.2 x a f];exact e⟩
theorem Kq.trans(x:Kq k b M M1)(y:Kq k c M1 M2):Kq k c M M2:=⟨y.has,λz o a f e=>y.kp z o a f (x.kp z o a f e)⟩
theorem yX{most:Nat}(hm:most<=9)(hp:Has k (b+(10+9*100 ^ 5)) M)(h:∀(w many:Int) (names:List Str) (rows:List Rw) (mk:Str) (M':Mem),PlT w many names rows mk->Kq k b M M'->Q (rB w many names rows mk) M'):vh ad [.ref k.p,.int (most:Nat)] M Q E:=by
 simp![Mq,xb];refine⟨aZ (by decide),λp1 R=>?_⟩
 simp only[Mem.upd_del,af R];refine aB (b:=b+(9+9*100 ^ 5)) hp (by decide) (by decide) λg M1 a1 b1 u=>?_
 obtain⟨w,ew,w2,w1⟩:∃w:Int,atI [D.int 2,.int 3,.int 3,.int 5,.int 7,.int 11,.int 97,.int 997] g=some (.int w)/\2<=w/\w<=997:=by
  have:g=0\/g=1\/g=2\/g=3\/g=4\/g=5\/g=6\/g=7:=by omega
  rcases this with rfl|rfl|rfl|rfl|rfl|rfl|rfl|rfl
  all_goals exact⟨_,rfl,by decide,by decide⟩
 simp![ew];intro f I;have a:=u.1.nep I;refine aA λQ' E' v _=>sm (b:=b+(6+9*100 ^ 5)) (u.1.upd a) λnames M2 q2 nm C h2=>v _ _ ?_;have Y:M2 f=some (.dK []):=by rw[C.2 f a.1 a.2,Mem.upd_same]
 simp![Mem.upd_del,af h2,Y];refine⟨.inl ⟨by decide,by omega⟩,by decide,aZ (by decide),λf2 m=>?_⟩
 have O:eY [Nm "wheel",Nm "names",Nm "left"] [D.int w,.lst (names.map D.str),.int (4*(most:Nat))]=([(Nm "wheel",.int w),(Nm "names",.lst (names.map D.str)),(Nm "left",.int (4*(most:Nat)))]:List (ax×D)):=by simp[eY,bL,bo]
 rw[O]at m ⊢;generalize i:M2.upd f (MO.dK ([(Nm "wheel",.int w),(Nm "names",.lst (names.map D.str)),(Nm "left",.int (4*(most:Nat)))]:List (ax×D)))=M3 at m ⊢;have y:Has k (b+(6+9*100 ^ 5)) M3:=by rw[<- i];exact C.1.upd a
 have X:M3 f=some (MO.dK ([(Nm "wheel",.int w),(Nm "names",.lst (names.map D.str)),(Nm "left",.int (4*(most:Nat)))]:List (ax×D))):=by rw[<- i];exact Mem.upd_same
 simp only[Mem.upd_del,af m];refine aB (b:=b+(5+9*100 ^ 5)) y (by decide) (by decide) λj M4 a4 b4 F=>?_
 obtain⟨many,Z,W,m1⟩:∃w:Int,atI [D.int 0,.int 1,.int 2,.int 3,.int 4,.int 6] j=some (.int w)/\0<=w/\w<=6:=by
  have:j=0\/j=1\/j=2\/j=3\/j=4\/j=5:=by omega
  rcases this with rfl|rfl|rfl|rfl|rfl|rfl
  all_goals exact⟨_,rfl,by decide,by decide⟩
 have e4:M4 f=some (MO.dK ([(Nm "wheel",.int w),(Nm "names",.lst (names.map D.str)),(Nm "left",.int (4*(most:Nat)))]:List (ax×D))):=by rw[F.2 f a.1 a.2];exact X
 have ep:bL ([(Nm "wheel",.int w),(Nm "names",.lst (names.map D.str)),(Nm "left",.int (4*(most:Nat)))]:List (ax×D)) (Nm "many") (.int many)=pY w names (4*(most:Nat)) many:=by simp[bL,pY,bo]
 simp![Z,e4,ep];clear v O;refine⟨?_,?_⟩
 .exact fS (by decide)
 have K:Has k (b+(5+9*100 ^ 5)) (M4.upd f<|.dK<|pY w names (4*(most:Nat)) many):=F.1.upd a;refine aB (b:=b+(4+9*100 ^ 5)) K (by omega) (by omega) λx5 M5 P b5 L=>?_
 have U:M5 f=some (.dK<|pY w names (4*(most:Nat)) many):=by rw[L.2 f a.1 a.2,Mem.upd_same]
 obtain⟨J,rfl⟩:=OJ P;have ok:FrOk w many names:=⟨w2,w1,W,m1,nm⟩;have S:J*100 ^ 5<=9*100 ^ 5:=Oa _ (by omega)
 simp![];refine aA λQ' E' v _=>(fW ok 24).2 J 4 (b+4) _ _ _ (by omega) (by omega) ⟨L.1.le (by omega),a.1,a.2,_,U⟩ λrs l M6 B r K6 T h6'=>v _ _ ?_
 obtain⟨left,N⟩:=K6.tf.fr;simp![N,fB,pO,Mem.upd_del,af T,MW];have n0:=nm.n0;have n1:=nm.n1;refine aB (b:=b) (K6.tf.has.le<|by omega) (by omega) (by omega) λx7 M7 a7 b7 H=>?_
 obtain⟨mk,G,A⟩:=xF a7 b7;have e7:M7 f=some (.dK<|pY w names left many):=by rw[H.2 f a.1 a.2];exact N
 simp![A,e7,fB,pO];refine⟨aZ (by decide),aq<|h w many names rs mk M7 ⟨ok,B,by have:=r.1;omega,G,Ny r.2<|Ny (Oa _ (by omega:J<=9))<|by decide⟩ ⟨H.1,λx o n q e=>?_⟩⟩
 have s:x≠f:=λz=>by subst z;rw[u.2 x n q,e]at I;cases I
 rw[H.2 x n q];refine K6.kp x o n q s ?_;rw[L.2 x n q,ag s,F.2 x n q,<- i,ag s,C.2 x n q,ag s,u.2 x n q];exact e
end
structure Hk where
 h:Addr
 dn:Addr
 lr:Addr
 n1:h≠dn
 n2:h≠lr
 n3:dn≠lr
def hD(k:Hk)(c:Cf)(left:Int):List (ax×D):=[(Nm "numbers",.ref k.dn),(Nm "pieces",.tup (c.pieces.map D.int)),(Nm "read",.ref k.lr),(Nm "wheel",.int c.m),(Nm "left",.int left)]
def hM(k:Hk)(c:Cf)(left:Int)(n:iA)(rd:List Int)(M:Mem):Mem:=((M.upd k.h<|.dK<|hD k c left).upd k.dn<|.dK<|dG n).upd k.lr (.lst<|rd.map D.int)
section
variable {ad:Ad}{k:Hk}{c:Cf}{left v:Int}{n n':iA}{rd rd':List Int}{M:Mem}{names:List Str}{Q:DK}{E:DX}
theorem gl:ba (hD k c left) (Nm "numbers")=some (.ref k.dn):=by simp[ba,hD,bo]
theorem A2:ba (hD k c left) (Nm "pieces")=some (.tup<|c.pieces.map D.int):=by simp[ba,hD,bo]
theorem DN:ba (hD k c left) (Nm "read")=some (.ref k.lr):=by simp[ba,hD,bo]
theorem qL:ba (hD k c left) (Nm "wheel")=some (.int c.m):=by simp[ba,hD,bo]
theorem u_:ba (hD k c left) (Nm "left")=some (.int left):=by simp[ba,hD,bo]
theorem GQ:bL (hD k c left) (Nm "left") (.int v)=hD k c v:=by simp[bL,hD,bo]
theorem eQ:hM k c left n rd M k.h=some (.dK<|hD k c left):=by unfold hM;rw[ag k.n2,ag k.n1,Mem.upd_same]
theorem dg:hM k c left n rd M k.dn=some (.dK<|dG n):=by unfold hM;rw[ag k.n3,Mem.upd_same]
theorem nA:hM k c left n rd M k.lr=some (.lst<|rd.map D.int):=by unfold hM;rw[Mem.upd_same]
theorem Lp:(hM k c left n rd M).upd k.h (.dK<|hD k c v)=hM k c v n rd M:=by unfold hM;rw[aR k.n2.symm,aR k.n1.symm,Mem.upd_upd]
theorem zZ:(hM k c left n rd M).upd k.dn (.dK<|dG n')=hM k c left n' rd M:=by unfold hM;rw[aR k.n3.symm,Mem.upd_upd]
theorem Lb:(hM k c left n rd M).upd k.lr (.lst<|rd'.map D.int)=hM k c left n rd' M:=by unfold hM;rw[Mem.upd_upd]
theorem m_:∀rd:List Int,bV 60 (rd.map D.int)=true
 |[]=>rfl
 |v::rd=>by
  have:=m_ rd;simp only[Nb,bV,Oo];exact⟨rfl,this⟩
theorem n8{x:Str}{a:D}{rest:List D}{p:Int}{D':DEnds}{EE:DX}{c4 c5 c6:Option D}(hc:COk c)(hn:NOk names c.m n)(hnl:names.length<=1000)(hx:x∈names)(p0:0<=p)(p1:p<c.pieces.length)(hl:rd.length<=10000)
  (h:∀rd',rd'.length<=rd.length+1->D'.nx [some (.ref k.h),some (.tup (a::.str x::rest)),some (.ref k.dn),some (.int p),c4,c5,c6] (hM k c left (sN n x<|(c.pieces[p.toNat]?).getD 0) rd' M)):
  fV ad EE D' [some (.ref k.h),some (.tup (a::.str x::rest)),some (.ref k.dn),some (.int p),c4,c5,c6] (hM k c left n rd M):=by
 have j:(dG n).length<sizeLine:=by rw[dG,MW,<- MW (f:=(·.1)),hn.keys];exact fS (by lia)
 have l:∀{x:Str} {v:Int},x∈names->bL (dG n) (Nm x) (.int v)=dG (sN n x v):=λhx=>ku (by rw[hn.keys];exact hx)
 have g:atI (c.pieces.map D.int) p=some (.int<|(c.pieces[p.toNat]?).getD 0):=by
  rw[bO p0,Nr,(hc.piece (i:=p.toNat)<|by lia).1]
  rfl
 have b:∀rd':List Int,rd'.length<=rd.length+1->j_ ad EE D' [some (.ref k.h),some (.tup (a::.str x::rest)),some (.ref k.dn),some (.int p),c4,c5,c6] (hM k c left n rd' M):=λrd' e=>by
  simp![dg,eQ,A2,atI_1,g,l hx,zZ];exact⟨j,h rd' e⟩
 unfold fV;generalize j_ ad EE=K at b ⊢;simp![eQ,DN,nA,m_,MW]
 split
 .refine⟨fS (by lia),?_⟩
  have:=b (rd++[p]) (by simp)
  rw[<- Lb (rd:=rd),Ol]at this;exact this
 .exact b rd (by lia)
theorem Cz{w x y z:Str}{D':DEnds}{EE:DX}{c3 c6:Option D}(hc:COk c)(hn:NOk names c.m n)(hnl:names.length<=1000)(hr:RwOk names c.m c.pieces.length (.two w x y z))
  (h:∀d M',(∀b o,hM k c left (sN n x<|Dj w (nm n y) (nm n z) c.m) rd M b=some o->M' b=some o)->D'.nx [some (.ref k.h),some (.tup [.str w,.str x,.str y,.str z]),some (.ref k.dn),c3,some (.int<|nm n y),some (.int<|nm n z),some d] M'):
  gr ad EE D' [some (.ref k.h),some (.tup [.str w,.str x,.str y,.str z]),some (.ref k.dn),c3,some (.int<|nm n y),some (.int<|nm n z),c6] (hM k c left n rd M):=by
 have B:(dG n).length<sizeLine:=by rw[dG,MW,<- MW (f:=(·.1)),hn.keys];exact fS (by lia)
 have A:∀{x:Str} {v:Int},x∈names->bL (dG n) (Nm x) (.int v)=dG (sN n x v):=λr=>ku (by rw[hn.keys];exact r)
 have H:=hn.at hr.2.2.1;have G:=hn.at hr.2.2.2;have g:CMul (nm n y) (nm n z):=.inl ⟨by have:=hc.m1;lia,by have:=hc.m1;lia⟩
 unfold gr;generalize F:nN ad EE=K;simp only[ao,av,lM];intro p a;have u:k.h≠p:=λe=>by rw[<- e,eQ]at a;cases a
 have i:k.dn≠p:=λe=>by rw[<- e,dg]at a;cases a
 have s:∀o,((hM k c left n rd M).upd p o) k.h=some (.dK<|hD k c left):=λo=>by rw[ag u,eQ]
 simp![s,qL];have m2:=hc.m2;refine⟨by lia,g,by lia,by decide,?_⟩
 rw[Mem.upd_upd];have j:ba (eY [Nm "sum",Nm "less",Nm "by",Nm "same"] [D.int ((nm n y+nm n z) % c.m),D.int (if nm n y<nm n z then 1 else 0),D.int (nm n y*nm n z % c.m),D.int (if nm n y=nm n z then 1 else 0)]) (Nm w)=some (.int<|Dj w (nm n y) (nm n z) c.m):=by
  have l:w="sum"\/w="by"\/w="less"\/w="same":=hr.1;rcases l with rfl|rfl|rfl|rfl
  all_goals simp[ba,eY,bL,Dj,bo]
 generalize eY [Nm "sum",Nm "less",Nm "by",Nm "same"] [D.int ((nm n y+nm n z) % c.m),D.int (if nm n y<nm n z then 1 else 0),D.int (nm n y*nm n z % c.m),D.int (if nm n y=nm n z then 1 else 0)]=al at j ⊢
 have C:((hM k c left n rd M).upd p<|.dK al) k.dn=some (.dK<|dG n):=by rw[ag i,dg]
 rw[<- F];simp![Mem.upd_same,atI_0,atI_1,j,C,A hr.2.1];refine⟨B,h _ _ λb o e=>?_⟩;rw[aR i.symm,zZ];have:b≠p:=λq=>by
  subst q;unfold hM at a e;rw[ag (λq=>by rw[q,Mem.upd_same]at a;cases a)]at e a
  rw[ag i.symm]at e a;rw[e]at a;cases a
 rw[ag this];exact e
theorem yD{r:Rw}(hc:COk c)(hn:NOk names c.m n)(hnl:names.length<=1000)(hr:RwOk names c.m c.pieces.length r)(hl:rd.length<=10000)
  (h:∀rd',rd'.length<=rd.length+1->Q .non (hM k c left (sN n (rZ r)<|fc c n r) rd' M)):vb ad [.ref k.h,r.d] (hM k c left n rd M) Q E:=by
 have o:(dG n).length<sizeLine:=by rw[dG,MW,<- MW (f:=(·.1)),hn.keys];exact fS (by lia)
 have j:∀{x:Str} {v:Int},x∈names->bL (dG n) (Nm x) (.int v)=dG (sN n x v):=λg=>ku (by rw[hn.keys];exact g)
 cases r with
 |put x v=>
  simp only[xB];unfold lj eA;generalize dY ad (aw E)=K;simp![eQ,gl,Rw.d,dg,atI_0,atI_1,atI_2,j hr.1,zZ];exact⟨o,aq<|h rd<|by lia⟩
 |take x i=>
  have b:=n8 (ad:=ad) (k:=k) (left:=left) (M:=M) (a:=.str "take") (rest:=[.int i]) (p:=i) (D':={ nx:=λ_ M'=>drp Q .non M',rt:=drp Q }) (EE:=aw E) (c4:=none) (c5:=none) (c6:=none) hc hn hnl hr.1 hr.2.1 hr.2.2 hl λrd' l=>aq (h rd' l);simp only[xB];unfold lj eA dY gB jx;generalize fV ad (aw E)=K at b ⊢;generalize fq ad (aw E)=K11;simp![eQ,gl,Rw.d,dg,atI_0,atI_1,atI_2];exact b
 |pick x y=>
  have q:=hr.2.2;have b:=n8 (ad:=ad) (k:=k) (left:=left) (M:=M) (a:=.str "pick") (rest:=[.str y]) (p:=nm n y % (c.pieces.length:Int)) (D':={ nx:=λ_ M'=>drp Q .non M',rt:=drp Q }) (EE:=aw E) (c4:=none) (c5:=none) (c6:=none) hc hn hnl hr.1 (Pu _<|by lia) (O3 _<|by lia) hl λrd' l=>aq (h rd' l)
  simp only[xB];unfold lj eA dY gB jx;generalize fV ad (aw E)=K at b ⊢;generalize fq ad (aw E)=K11;simp![eQ,gl,A2,Rw.d,dg,atI_0,atI_1,atI_2,cQ,(hn.at hr.2.1).1,OG,MW];exact⟨by lia,b⟩
 |two w x y z=>
  have b:=Cz (ad:=ad) (k:=k) (left:=left) (M:=M) (rd:=rd) (D':={ nx:=λ_ M'=>drp Q .non M',rt:=drp Q }) (EE:=aw E) (c3:=none) (c6:=none) hc hn hnl hr λd M' s=>⟨_,s,h rd<|by lia⟩
  simp only[xB];unfold lj eA dY fq kQ;generalize gB ad (aw E)=K7;generalize gr ad (aw E)=K9 at b ⊢;have e:w="sum"\/w="by"\/w="less"\/w="same":=hr.1;rcases e with rfl|rfl|rfl|rfl
  all_goals
   simp![Rw.d,dg,eQ,gl,qL,atI_0,atI_1,atI_2,atI_3,cQ,(hn.at hr.2.2.1).1,(hn.at hr.2.2.2).1,OG];exact b
 |ifr=>exact hr.elim
 |again=>exact hr.elim
end
def hS(k:Hk)(c:Cf)(s:Sx)(rd:List Int)(M:Mem):Mem:=hM k c ((c.most:Int)-s.steps.length) s.nums rd M
section
variable {ad:Ad}{k:Hk}{c:Cf}{names:List Str}{M:Mem}
def LG(ad:Ad)(k:Hk)(c:Cf)(names:List Str)(n:Nat):Prop:=∀(rs:List Rw) (pl:List Int) (j:Nat) (s:Sx) (rd:List Int) (M:Mem) (Q:DK) (E:DX),cL names c.m c.pieces.length rs->g7 rs+1<=n->NOk names c.m s.nums->s.steps.length<=c.most->rd.length<=s.steps.length->
 (∀rd',(bg c rs pl j s).1=true->rd'.length<=(bg c rs pl j s).2.steps.length->Q (.bl true) (hS k c (bg c rs pl j s).2 rd' M))->(∀l n rd',(bg c rs pl j s).1=false->Q (.bl false) (hM k c l n rd' M))->Sy ad n [.ref k.h,.tup (ay rs)] (hS k c s rd M) Q E
theorem A9{S:Sd}{EE:DX}{D':DEnds}{rw0:D}{w x:Str}{rest:List D}{c3 c4:Option D}{left:Int}{n:iA}{rd:List Int}(hn:NOk names c.m n)(hx:x∈names)
  (h1:left-1<0->D'.rt (.bl false) (hM k c (left-1) n rd M)) (h2:0<=left-1->dj ad S EE D' [some (.ref k.h),some rw0,some (.tup (.str w::.str x::rest)),c3,some (.bl<|!decide (nm n x=0))] (hM k c (left-1) n rd M)):
  iw ad S EE D' [some (.ref k.h),some rw0,some (.tup (.str w::.str x::rest)),c3,c4] (hM k c left n rd M):=by
 unfold iw pw o_;generalize dj ad S EE=K at h2 ⊢;simp![eQ,u_,GQ,Lp,gl,dg,atI_1,cQ,(hn.at hx).1,OG];refine⟨fS (by simp[hD]),?_⟩
 split
 .rename_i q;exact h1 q
 .exact h2 (by lia)
theorem Hu{S:Sd}{EE:DX}{D':DEnds}{rw0:D}{w:Str}{rest:List D}{c3:Option D}{t:Bool}(w1:w≠"if")(w2:w≠"again")(h:D'.nx [some (.ref k.h),some rw0,some (.tup (.str w::rest)),some (.bl false),some (.bl t)] M):
  dj ad S EE D' [some (.ref k.h),some rw0,some (.tup (.str w::rest)),c3,some (.bl t)] M:=by
 simp![atI_0,w1,w2,decide_false];exact h
theorem ME{S:Sd}{EE:DX}{D':DEnds}{rw0:D}{x:Str}{a b:List Rw}{c3:Option D}{t:Bool}
  (h:∀(Q':DK) (E':DX),(∀M',D'.nx [some (.ref k.h),some rw0,some (.tup [.str "if",.str x,.tup (ay a),.tup (ay b)]),some (.bl false),some (.bl t)] M'->Q' (.bl true) M')->(∀M',D'.rt (.bl false) M'->Q' (.bl false) M')->S [.ref k.h,.tup (if t=true then ay a else ay b)] M Q' E'):
  dj ad S EE D' [some (.ref k.h),some rw0,some (.tup [.str "if",.str x,.tup (ay a),.tup (ay b)]),c3,some (.bl t)] M:=by
 unfold dj kE;generalize f:pe ad S EE=K;cases t with
 |true=>
  simp![atI_0,atI_2,decide_false,decide_true,show (3:Int)-1=2 from rfl];refine aA λQ' E' e _=>h Q' E' (λM' z=>e _ _ ?_) (λM' z=>e _ _ ?_)
  .simp![<- f]
   exact z
  .simp![]
   exact z
 |false=>
  simp![atI_0,atI_3,decide_false,decide_true,show (3:Int)-0=3 from rfl];refine aA λQ' E' e _=>h Q' E' (λM' z=>e _ _ ?_) (λM' z=>e _ _ ?_)
  .simp![<- f]
   exact z
  .simp![]
   exact z
theorem AF{S:Sd}{EE:DX}{D':DEnds}{rw0:D}{x:Str}{a:List Rw}{c3:Option D}{t:Bool}
  (h0:t=false->D'.nx [some (.ref k.h),some rw0,some (.tup [.str "again",.str x,.tup (ay a)]),some (.bl false),some (.bl false)] M)
  (h:t=true->∀(Q':DK) (E':DX),(∀M',D'.nx [some (.ref k.h),some rw0,some (.tup [.str "again",.str x,.tup (ay a)]),some (.bl true),some (.bl true)] M'->Q' (.bl true) M')->(∀M',D'.rt (.bl false) M'->Q' (.bl false) M')->S [.ref k.h,.tup (ay a)] M Q' E'):
  dj ad S EE D' [some (.ref k.h),some rw0,some (.tup [.str "again",.str x,.tup (ay a)]),c3,some (.bl t)] M:=by
 unfold dj kE;cases t with
 |true=>
  simp![atI_0,atI_2,decide_false,decide_true];refine aA λQ' E' b _=>h rfl Q' E' (λM' z=>b _ _ ?_) (λM' z=>b _ _ ?_)
  .simp![]
   exact z
  .simp![]
   exact z
 |false=>
  simp![atI_0,atI_2,decide_false,decide_true];exact h0 rfl
end
section
variable {ad:Ad}{k:Hk}{c:Cf}{names:List Str}{M:Mem}
theorem wG{m many:Int}{r:Rw}(h:RwOk names m many r):∃w rest,r.d=.tup (.str w::.str (rZ r)::rest)/\w≠("if":Str)/\w≠("again":Str)/\rZ r∈names/\vI r=true:=by
 cases r with
 |put x v=>exact⟨"put",[.int v],by simp only[Rw.d,rZ],by simp[bo],by simp[bo],h.1,rfl⟩
 |take x v=>exact⟨"take",[.int v],by simp only[Rw.d,rZ],by simp[bo],by simp[bo],h.1,rfl⟩
 |pick x v=>exact⟨"pick",[.str v],by simp only[Rw.d,rZ],by simp[bo],by simp[bo],h.1,rfl⟩
 |two w x y z=>
  have a:w="sum"\/w="by"\/w="less"\/w="same":=h.1;refine⟨w,[.str y,.str z],by simp only[Rw.d,rZ],?_,?_,h.2.1,rfl⟩
  all_goals rcases a with rfl|rfl|rfl|rfl
  all_goals simp[bo]
 |ifr=>exact h.elim
 |again=>exact h.elim
theorem BE{c3:eG}{tb:au}{D':DEnds}{bx:BxW c3 tb D'}{n:Nat}{U:Dl}{M:Mem}(ht:∀K:Bool->Mem->Prop,K true M->c3 U M K)(h:tb { D' with nx:=bu c3 tb D' bx n,ct:=bu c3 tb D' bx n,bk:=D'.nx } U M):bu c3 tb D' bx (n+1) U M:=by
 unfold bu;refine ht _ ?_;rw[if_pos rfl];exact h
theorem oV{c3:eG}{tb:au}{D':DEnds}{bx:BxW c3 tb D'}{n:Nat}{U:Dl}{M:Mem}(ht:∀K:Bool->Mem->Prop,K false M->c3 U M K)(h:D'.nx U M):bu c3 tb D' bx (n+1) U M:=by
 unfold bu;refine ht _ ?_;rw[if_neg (by simp)]
 exact h
theorem sX{x0 x1 x2 x4:Option D}{t:Bool}(K:Bool->Mem->Prop)(h:K t M):bU (ac 3) [x0,x1,x2,some (.bl t),x4] M K:=by
 simp![];exact h
theorem jA{n:Nat}{EE:DX}{D':DEnds}{r:Rw}{pl:List Int}{s:Sx}{rd:List Int}{rw0:D}{c3 c4:Option D}(hc:COk c)(hnl:names.length<=1000)(hr:RwOk names c.m c.pieces.length r)(hno:NOk names c.m s.nums)(hst:s.steps.length<=c.most)(hrd:rd.length<=s.steps.length)
  (h1:∀c3 c4 rd',(df c r pl s).1=true->rd'.length<=(df c r pl s).2.steps.length->D'.nx [some (.ref k.h),some rw0,some r.d,c3,c4] (hS k c (df c r pl s).2 rd' M)) (h2:∀l n rd',(df c r pl s).1=false->D'.rt (.bl false) (hM k c l n rd' M)):
  cV ad (Sy ad n) EE D' [some (.ref k.h),some rw0,some r.d,c3,c4] (hS k c s rd M):=by
 obtain⟨w,f,b,g,i,v,u⟩:=wG hr;have hm:=hc.most;rw[bc u]at h1 h2;have a:0<=((c.most:Int)-s.steps.length)-1->∀t,dL ad (Sy ad n) EE D' [some (.ref k.h),some rw0,some r.d,some (.bl false),some (.bl t)] (hM k c ((c.most:Int)-s.steps.length-1) s.nums rd M):=λq t=>by
  have e:dZ c r pl s=(true,⟨sN s.nums (rZ r) (fc c s.nums r),s.steps++[(pl,fc c s.nums r)]⟩):=by unfold dZ;rw[if_pos (by lia)]
  rw[e]at h1;simp![b,atI_0,g,i,decide_false];refine aA λQ' E' j _=>?_;rw[<- b];refine yD hc hno hnl hr (by lia) λrd' l=>j _ _ ?_
  have:=h1 (some<|.bl false) (some<|.bl t) rd' rfl (by simp;lia)
  unfold hS at this;simp only[Nd,MZ,Nq]at this;have p:(c.most:Int)-((s.steps.length+(0+1):Nat):Int)=(c.most:Int)-s.steps.length-1:=by lia
  rw[p]at this;exact this
 unfold cV i9;generalize dL ad (Sy ad n) EE=K8 at a ⊢;rw[b]at a ⊢;simp only[ao,av,dC,ah,NH,de];refine⟨2,BE (λK h=>sX K h) ?_⟩;unfold hS;have o:((c.most:Int)-s.steps.length)-1<0->(dZ c r pl s).1=false:=λq=>by
  unfold dZ;rw[if_neg (by lia)]
 refine A9 hno v (λq=>h2 _ _ _ (o q)) λq=>?_;refine Hu g i ?_;dsimp only;exact oV (n:=0) (λK h=>sX K h) (a q _)
theorem Ir{n:Nat}(ih:LG ad k c names n){EE:DX}{D':DEnds}{x:Str}{a b:List Rw}{pl:List Int}{s:Sx}{rd:List Int}{rw0:D}{c3 c4:Option D}(hc:COk c)(hx:x∈names)(hoa:cL names c.m c.pieces.length a)(hob:cL names c.m c.pieces.length b)(ha:g7 a+1<=n)(hb:g7 b+1<=n)(hno:NOk names c.m s.nums)(hst:s.steps.length<=c.most)(hrd:rd.length<=s.steps.length)
  (h1:∀c3 c4 rd',(df c (.ifr x a b) pl s).1=true->rd'.length<=(df c (.ifr x a b) pl s).2.steps.length->D'.nx [some (.ref k.h),some rw0,some (.tup [.str "if",.str x,.tup (ay a),.tup (ay b)]),c3,c4] (hS k c (df c (.ifr x a b) pl s).2 rd' M)) (h2:∀l n rd',(df c (.ifr x a b) pl s).1=false->D'.rt (.bl false) (hM k c l n rd' M)):
  cV ad (Sy ad n) EE D' [some (.ref k.h),some rw0,some (.tup [.str "if",.str x,.tup (ay a),.tup (ay b)]),c3,c4] (hS k c s rd M):=by
 have hm:=hc.most;have g:∀c4 M',D'.nx [some (.ref k.h),some rw0,some (.tup [.str "if",.str x,.tup (ay a),.tup (ay b)]),some (.bl false),c4] M'->dL ad (Sy ad n) EE D' [some (.ref k.h),some rw0,some (.tup [.str "if",.str x,.tup (ay a),.tup (ay b)]),some (.bl false),c4] M':=λc4 M' z=>by
  simp![atI_0,decide_false];exact z
 unfold cV i9;generalize dL ad (Sy ad n) EE=K8 at g ⊢;simp only[ao,av,dC,ah,NH,de];refine⟨2,BE (λK h=>sX K h) ?_⟩;unfold hS;refine A9 hno hx (λq=>h2 _ _ _ ?_) λq=>?_
 .unfold df nt
  rw[if_neg (by rw[if_neg (by lia)];simp),if_neg (by lia)]
 have p:∀v,nt c pl v s=(true,⟨s.nums,s.steps++[(pl,v)]⟩):=λv=>by unfold nt;rw[if_pos (by lia)]
 have u:∀v,hM k c ((c.most:Int)-s.steps.length-1) s.nums rd M=hS k c ⟨s.nums,s.steps++[(pl,v)]⟩ rd M:=λv=>by
  unfold hS;congr 1;simp only[Nd,MZ,Nq];lia
 refine ME λQ' E' w r=>?_
 by_cases e:nm s.nums x=0
 .have f:lk s.nums x=0:=by unfold lk;rw[if_pos e]
  have i:df c (.ifr x a b) pl s=bg c b (pl++[0]) 0 ⟨s.nums,s.steps++[(pl,0)]⟩:=by
   unfold df;rw[f,p,if_pos rfl,if_neg (by decide)]
  rw[i]at h1 h2;rw[if_neg (by simp[e]),u 0]
  refine ih b (pl++[0]) 0 _ rd M Q' E' hob hb hno (by simp;lia) (by simp;lia) (λrd' j o=>w _ ?_) λl n rd' z=>r _ (h2 l n rd' z)
  dsimp only;exact oV (n:=0) (λK h=>sX K h) (g _ _<|h1 _ _ rd' j o)
 .have f:lk s.nums x=1:=by unfold lk;rw[if_neg e]
  have i:df c (.ifr x a b) pl s=bg c a (pl++[1]) 0 ⟨s.nums,s.steps++[(pl,1)]⟩:=by
   unfold df;rw[f,p,if_pos rfl,if_pos rfl]
  rw[i]at h1 h2;rw[if_pos (by simp[e]),u 1]
  refine ih a (pl++[1]) 0 _ rd M Q' E' hoa ha hno (by simp;lia) (by simp;lia) (λrd' j o=>w _ ?_) λl n rd' z=>r _ (h2 l n rd' z)
  dsimp only;exact oV (n:=0) (λK h=>sX K h) (g _ _<|h1 _ _ rd' j o)
theorem yI{n:Nat}(ih:LG ad k c names n){EE:DX}{D':DEnds}{x:Str}{a:List Rw}{pl:List Int}{s:Sx}{rd:List Int}{rw0:D}{c3 c4:Option D}(hc:COk c)(hx:x∈names)(hoa:cL names c.m c.pieces.length a)(ha:g7 a+1<=n)(hno:NOk names c.m s.nums)(hst:s.steps.length<=c.most)(hrd:rd.length<=s.steps.length)
  (h1:∀c3 c4 rd',(df c (.again x a) pl s).1=true->rd'.length<=(df c (.again x a) pl s).2.steps.length->D'.nx [some (.ref k.h),some rw0,some (.tup [.str "again",.str x,.tup (ay a)]),c3,c4] (hS k c (df c (.again x a) pl s).2 rd' M)) (h2:∀l n rd',(df c (.again x a) pl s).1=false->D'.rt (.bl false) (hM k c l n rd' M)):
  cV ad (Sy ad n) EE D' [some (.ref k.h),some rw0,some (.tup [.str "again",.str x,.tup (ay a)]),c3,c4] (hS k c s rd M):=by
 have hm:=hc.most;have u:∀c4 M',D'.nx [some (.ref k.h),some rw0,some (.tup [.str "again",.str x,.tup (ay a)]),some (.bl false),c4] M'->dL ad (Sy ad n) EE D' [some (.ref k.h),some rw0,some (.tup [.str "again",.str x,.tup (ay a)]),some (.bl false),c4] M':=λc4 M' z=>by
  simp![atI_0,decide_false];exact z
 unfold cV i9;generalize dL ad (Sy ad n) EE=K8 at u ⊢;simp only[ao,av,dC,ah,NH,de];refine⟨c.most+1+1,?_⟩;unfold df at h1 h2
 have j:∀(f t:Nat) (s:Sx) (rd:List Int) (c4:Option D),NOk names c.m s.nums->s.steps.length<=c.most->c.most<s.steps.length+f->rd.length<=s.steps.length->
   (∀c3 c4 rd',(bK c x pl (λt s=>bg c a (pl++[(t:Int)]) 0 s) f t s).1=true->rd'.length<=(bK c x pl (λt s=>bg c a (pl++[(t:Int)]) 0 s) f t s).2.steps.length->D'.nx [some (.ref k.h),some rw0,some (.tup [.str "again",.str x,.tup (ay a)]),c3,c4] (hS k c (bK c x pl (λt s=>bg c a (pl++[(t:Int)]) 0 s) f t s).2 rd' M))->
   (∀l n rd',(bK c x pl (λt s=>bg c a (pl++[(t:Int)]) 0 s) f t s).1=false->D'.rt (.bl false) (hM k c l n rd' M))->
   bu (bU<|ac 3) (iw ad (Sy ad n) EE) { nx:=K8 D',rt:=D'.rt,bk:=D'.bk,ct:=D'.ct } { } (f+1) [some (.ref k.h),some rw0,some (.tup [.str "again",.str x,.tup (ay a)]),some (.bl true),c4] (hS k c s rd M):=by
  intro f
  induction f with
  |zero=>intro t s rd c4 hno hst B;lia
  |succ f ihf=>
   intro t s rd c4 hno hst B hrd h1 h2;refine BE (λK h=>sX K h) ?_;unfold hS;refine A9 hno hx (λq=>h2 _ _ _ ?_) λq=>?_
   .unfold bK nt
    rw[if_neg (by rw[if_neg (by lia)];simp),if_neg (by lia)]
   have A:∀pl v,nt c pl v s=(true,⟨s.nums,s.steps++[(pl,v)]⟩):=λpl v=>by unfold nt;rw[if_pos (by lia)]
   have y:∀(pl:List Int) v,hM k c ((c.most:Int)-s.steps.length-1) s.nums rd M=hS k c ⟨s.nums,s.steps++[(pl,v)]⟩ rd M:=λpl v=>by
    unfold hS;congr 1;simp only[Nd,MZ,Nq];lia
   refine AF (λq=>?_) λq Q' E' E C=>?_
   .have r:nm s.nums x=0:=by simpa using q
    have i:lk s.nums x=0:=by unfold lk;rw[if_pos r]
    have e:bK c x pl (λt s=>bg c a (pl++[(t:Int)]) 0 s) (f+1) t s=(true,⟨s.nums,s.steps++[(pl++[(t:Int)],0)]⟩):=by
     unfold bK;rw[i,A,if_pos rfl,if_neg (by decide)]
    rw[e]at h1 h2;rw[y (pl++[(t:Int)]) 0];dsimp only;exact oV (n:=f) (λK h=>sX K h) (u _ _<|h1 _ _ rd rfl<|by simp;lia)
   .have r:¬nm s.nums x=0:=by simpa using q
    have i:lk s.nums x=1:=by unfold lk;rw[if_neg r]
    have e:bK c x pl (λt s=>bg c a (pl++[(t:Int)]) 0 s) (f+1) t s=if (bg c a (pl++[(t:Int)]) 0 ⟨s.nums,s.steps++[(pl++[(t:Int)],1)]⟩).1=true then bK c x pl (λt s=>bg c a (pl++[(t:Int)]) 0 s) f (t+1) (bg c a (pl++[(t:Int)]) 0 ⟨s.nums,s.steps++[(pl++[(t:Int)],1)]⟩).2 else bg c a (pl++[(t:Int)]) 0 ⟨s.nums,s.steps++[(pl++[(t:Int)],1)]⟩:=by
     conv=>lhs;unfold bK
     rw[i,A,if_pos rfl,if_pos rfl]
    rw[e]at h1 h2;rw[y (pl++[(t:Int)]) 1];have w:=cB (c:=c) a (pl++[(t:Int)]) 0 ⟨s.nums,s.steps++[(pl++[(t:Int)],1)]⟩;have p:(s.steps++[(pl++[(t:Int)],(1:Int))]).length=s.steps.length+1:=by simp
    have b:=cS hc a hoa (pl++[(t:Int)]) 0 ⟨s.nums,s.steps++[(pl++[(t:Int)],1)]⟩ hno;refine ih a (pl++[(t:Int)]) 0 _ rd M Q' E' hoa ha hno (by simp;lia) (by simp;lia) (λrd' F G=>E _ ?_) λl n rd' z=>C _ (h2 l n rd'<|by rw[if_neg (by rw[z];simp)];exact z)
    rw[if_pos F]at h1 h2;have o:=w.1;have g:=w.2;simp only[p]at o g;dsimp only;exact ihf (t+1) _ rd' _ b (by lia) (by lia) G h1 h2
 exact j (c.most+1) 0 s rd c4 hno hst (by lia) hrd h1 h2
theorem Dv(hc:COk c)(hnl:names.length<=1000){n:Nat}(ih:LG ad k c names n):LG ad k c names (n+1):=by
 intro O pl j s rd M Q E X hh R S W h1 h2;simp only[Mr];unfold xX;simp![↓cJ];refine bA (λZ U N=>∃(i:List Rw) (B:Nat) (u:Sx) (A:List Int) (P I J:Option D),Z=ay i/\U=[some (.ref k.h),some (.tup<|ay O),P,I,J]/\N=hS k c u A M/\cL names c.m c.pieces.length i/\g7 i<=n/\NOk names c.m u.nums/\u.steps.length<=c.most/\A.length<=u.steps.length/\bg c O pl j s=bg c i pl B u) (λ_ _ _ _=>bd) ?_ ?_ _ _ _ ⟨O,j,s,rd,none,none,none,rfl,rfl,rfl,X,by lia,R,S,W,rfl⟩
 .rintro U N ⟨i,B,u,A,P,I,J,L,rfl,rfl,p,C,f,g,e,G⟩
  have:i=[]:=by cases i with|nil=>rfl|cons _ _=>simp[ay]at L
  subst this;simp only[bg]at G;rw[G]at h1;simp![];exact aq (h1 A rfl e)
 .rintro x Z U N ⟨i,B,u,A,P,I,J,L,rfl,rfl,p,C,f,g,e,G⟩ D' T _ Y _
  cases i with
  |nil=>simp[ay]at L
  |cons r i=>
   simp only[ay,NU]at L;obtain⟨rfl,rfl⟩:=L;simp only[cL]at p;simp only[g7]at C;have hg:=mh (c:=c) r (pl++[(B:Int)]) u;have K:=ou hc r p.1 (pl++[(B:Int)]) u f
   conv at G=>rhs;unfold bg
   have F:∀(I J:Option D) (q:List Int),(df c r (pl++[(B:Int)]) u).1=true->q.length<=(df c r (pl++[(B:Int)]) u).2.steps.length->D'.nx [some (.ref k.h),some (.tup<|ay O),some r.d,I,J] (hS k c (df c r (pl++[(B:Int)]) u).2 q M):=λI J q z1 z2=>
    T _ _ ⟨i,B+1,_,q,_,_,_,rfl,rfl,rfl,p.2,by lia,K,hg.2 g,z2,by rw[G,if_pos z1]⟩
   have H:∀l n q,(df c r (pl++[(B:Int)]) u).1=false->D'.rt (.bl false) (hM k c l n q M):=λl n q z=>by
    rw[Y];exact aq (h2 l n q<|by rw[G,if_neg (by rw[z];simp)];exact z)
   simp only[ah,NH];cases r with
   |ifr x a b=>
    simp only[Rw.d]at F ⊢;have o:=p.1;simp only[jw]at o;simp only[hR]at C;exact Ir ih hc o.1 o.2.1 o.2.2 (by lia) (by lia) f g e F H
   |again x a=>
    simp only[Rw.d]at F ⊢;have o:=p.1;simp only[jw]at o;simp only[hR]at C;exact yI ih hc o.1 o.2 (by lia) f g e F H
   |put x v=>exact jA hc hnl (by simpa only[jw] using p.1) f g e F H
   |take x v=>exact jA hc hnl (by simpa only[jw] using p.1) f g e F H
   |pick x v=>exact jA hc hnl (by simpa only[jw] using p.1) f g e F H
   |two w x y z=>exact jA hc hnl (by simpa only[jw] using p.1) f g e F H
theorem t3(hc:COk c)(hnl:names.length<=1000):∀n,LG ad k c names n
 |0=>λa pl j s b M Q E _ h=>by lia
 |n+1=>Dv hc hnl (t3 hc hnl n)
end
section
variable {c c':Cf}
theorem oM(b:Bool):b=false\/b=true:=by cases b<;>simp
def Pre(s s':Sx):Prop:=∃t,s'.steps=s.steps++t
theorem Pre.refl{s:Sx}:Pre s s:=⟨[],by simp⟩
theorem Pre.trans{s s1 s2:Sx}(a:Pre s s1)(b:Pre s1 s2):Pre s s2:=by
 obtain⟨t,e⟩:=a;obtain⟨u,f⟩:=b;exact⟨t++u,by rw[f,e,QU]⟩
theorem nt_pre{pl:List Int}{v:Int}{s:Sx}:Pre s (nt c pl v s).2:=by
 unfold nt;split
 .exact⟨[(pl,v)],rfl⟩
 .exact Pre.refl
theorem gW{r:Rw}{pl:List Int}{s:Sx}:Pre s (dZ c r pl s).2:=by
 unfold dZ;split
 .exact⟨[(pl,fc c s.nums r)],rfl⟩
 .exact Pre.refl
theorem hZ{x:Str}{pl:List Int}{body:Nat->Sx->Bool×Sx}(hb:∀t s,Pre s (body t s).2):∀(f t:Nat) (s:Sx),Pre s (bK c x pl body f t s).2
 |0,_,s=>Pre.refl
 |f+1,t,s=>by
  unfold bK
  split
  .split
   .split
    .exact nt_pre.trans ((hb t _).trans<|hZ hb f (t+1) _)
    .exact nt_pre.trans (hb t _)
   .exact nt_pre
  .exact nt_pre
mutual
theorem uG:∀(r:Rw) (pl:List Int) (s:Sx),Pre s (df c r pl s).2
 |.ifr x a b,pl,s=>by
  unfold df
  split
  .split
   .exact nt_pre.trans (cT a _ _ _)
   .exact nt_pre.trans (cT b _ _ _)
  .exact nt_pre
 |.again x a,pl,s=>by
  unfold df;exact hZ (λt s=>cT a _ _ _) _ _ _
 |.put x k,pl,s=>by rw[bc rfl];exact gW
 |.take x k,pl,s=>by rw[bc rfl];exact gW
 |.pick x k,pl,s=>by rw[bc rfl];exact gW
 |.two w x y z,pl,s=>by rw[bc rfl];exact gW
theorem cT:∀(rs:List Rw) (pl:List Int) (j:Nat) (s:Sx),Pre s (bg c rs pl j s).2
 |[],_,_,s=>by unfold bg;exact Pre.refl
 |r::rs,pl,j,s=>by
  unfold bg
  split
  .exact(uG r _ _).trans (cT rs _ _ _)
  .exact uG r _ _
end
end
section
variable {c c':Cf}
structure More(c c':Cf):Prop where
 m:c'.m=c.m
 pieces:c'.pieces=c.pieces
 most:c.most<=c'.most
def MR(c:Cf)(r r':Bool×Sx):Prop:=(r.1=true->r'=r)/\(r.1=false->Pre r.2 r'.2/\(r'.1=true->c.most<r'.2.steps.length))
theorem Pre.len{s s':Sx}(h:Pre s s'):s.steps.length<=s'.steps.length:=by
 obtain⟨t,e⟩:=h;rw[e];simp
theorem jP(h:More c c'){pl:List Int}{v:Int}{s:Sx}:MR c (nt c pl v s) (nt c' pl v s):=by
 have:=h.most;unfold nt
 by_cases q:s.steps.length<c.most
 .rw[if_pos q,if_pos (by lia)]
  exact⟨λ_=>rfl,λe=>by cases e⟩
 .rw[if_neg q]
  refine⟨λe=>(by cases e),λ_=>?_⟩
  split
  .refine⟨⟨[(pl,v)],rfl⟩,λ_=>?_⟩
   simp;lia
  .exact⟨Pre.refl,λe=>by cases e⟩
theorem Aa(h:More c c'){n:iA}:∀r:Rw,fc c' n r=fc c n r:=by
 intro r;cases r<;>simp[fc,h.m,h.pieces]
theorem fT(h:More c c'){r:Rw}{pl:List Int}{s:Sx}:MR c (dZ c r pl s) (dZ c' r pl s):=by
 have:=h.most;unfold dZ;rw[Aa h]
 by_cases q:s.steps.length<c.most
 .rw[if_pos q,if_pos (by lia)]
  exact⟨λ_=>rfl,λe=>by cases e⟩
 .rw[if_neg q]
  refine⟨λe=>(by cases e),λ_=>?_⟩
  split
  .refine⟨⟨[(pl,fc c s.nums r)],rfl⟩,λ_=>?_⟩
   simp;lia
  .exact⟨Pre.refl,λe=>by cases e⟩
theorem MR.seq{r r':Bool×Sx}{f f':Sx->Bool×Sx}(h:MR c r r')(hf:r.1=true->MR c (f r.2) (f' r.2))(hp:∀s,Pre s (f' s).2):MR c (if r.1=true then f r.2 else r) (if r'.1=true then f' r'.2 else r'):=by
 rcases oM r.1 with e|e
 .rw[if_neg (by rw[e];simp)]
  obtain⟨a,b⟩:=h.2 e;refine⟨λz=>(by rw[e]at z;cases z),λ_=>?_⟩
  rcases oM r'.1 with e'|e'
  .rw[if_neg (by rw[e'];simp)]
   exact⟨a,b⟩
  .rw[if_pos e']
   exact⟨a.trans (hp _),λ_=>Nt (b e') (hp _).len⟩
 .have g:=h.1 e
  subst g;rw[if_pos e,if_pos e];exact hf e
theorem MR.refl{r:Bool×Sx}(h:r.1=true):MR c r r:=⟨λ_=>rfl,λe=>by rw[h]at e;cases e⟩
theorem n4(h:More c c'){x:Str}{pl:List Int}{body body':Nat->Sx->Bool×Sx}(hg:∀t s,Gr c s (body t s).2)(hpb:∀t s,Pre s (body' t s).2)(hb:∀t s,s.steps.length<=c.most->MR c (body t s) (body' t s)):
  ∀(f f' t:Nat) (s:Sx),s.steps.length<=c.most->c.most<s.steps.length+f->c'.most<s.steps.length+f'->MR c (bK c x pl body f t s) (bK c' x pl body' f' t s)
 |0,_,_,s,h0,h1,_=>by lia
 |_,0,_,s,h0,_,h2=>by have:=h.most;lia
 |f+1,f'+1,t,s,h0,h1,h2=>by
  have a:=(nt_gr (c:=c) (pl:=pl++[(t:Int)]) (v:=lk s.nums x) (s:=s)).2 h0;unfold bK
  by_cases g:lk s.nums x=1
  .simp only[if_pos g]
   refine MR.seq (f:=λu=>if (body t u).1=true then bK c x pl body f (t+1) (body t u).2 else body t u) (f':=λu=>if (body' t u).1=true then bK c' x pl body' f' (t+1) (body' t u).2 else body' t u) (jP h) (λe=>?_) (λu=>?_)
   .have i:(nt c (pl++[(t:Int)]) (lk s.nums x) s).2.steps.length=s.steps.length+1:=by
     unfold nt at e ⊢
     split at e
     .rename_i q;rw[if_pos q];simp
     .cases e
    have b:=hg t (nt c (pl++[(t:Int)]) (lk s.nums x) s).2;have:=b.1;exact MR.seq (f:=bK c x pl body f (t+1)) (f':=bK c' x pl body' f' (t+1)) (hb t _ a) (λ_=>n4 h hg hpb hb f f' (t+1) _ (b.2 a) (by lia) (by lia)) (λu=>hZ hpb _ _ _)
   .split
    .exact(hpb t u).trans (hZ hpb _ _ _)
    .exact hpb t u
  .simp only[if_neg g]
   have:=jP h (pl:=pl++[(t:Int)]) (v:=lk s.nums x) (s:=s);simpa using this
mutual
theorem As(h:More c c'):∀(r:Rw) (pl:List Int) (s:Sx),s.steps.length<=c.most->MR c (df c r pl s) (df c' r pl s)
 |.ifr x r1 r2,pl,s,h0=>by
  have a:=(nt_gr (c:=c) (pl:=pl) (v:=lk s.nums x) (s:=s)).2 h0;unfold df
  by_cases b:lk s.nums x=1
  .simp only[if_pos b]
   exact MR.seq (f:=bg c r1 (pl++[lk s.nums x]) 0) (f':=bg c' r1 (pl++[lk s.nums x]) 0) (jP h) (λ_=>dm h r1 _ _ _ a) (λu=>cT r1 _ _ _)
  .simp only[if_neg b]
   exact MR.seq (f:=bg c r2 (pl++[lk s.nums x]) 0) (f':=bg c' r2 (pl++[lk s.nums x]) 0) (jP h) (λ_=>dm h r2 _ _ _ a) (λu=>cT r2 _ _ _)
 |.again x r1,pl,s,h0=>by
  unfold df;have:=h.most;exact n4 h (λt s=>cB r1 _ _ _) (λt s=>cT r1 _ _ _) (λt s e=>dm h r1 _ _ _ e) _ _ _ _ h0 (by lia) (by lia)
 |.put x k,pl,s,h0=>by rw[bc rfl,bc rfl];exact fT h
 |.take x k,pl,s,h0=>by rw[bc rfl,bc rfl];exact fT h
 |.pick x k,pl,s,h0=>by rw[bc rfl,bc rfl];exact fT h
 |.two w x y z,pl,s,h0=>by rw[bc rfl,bc rfl];exact fT h
theorem dm(h:More c c'):∀(rs:List Rw) (pl:List Int) (j:Nat) (s:Sx),s.steps.length<=c.most->MR c (bg c rs pl j s) (bg c' rs pl j s)
 |[],_,_,s,_=>by simp only[bg];exact MR.refl rfl
 |r::rs,pl,j,s,h0=>by
  unfold bg;exact MR.seq (f:=bg c rs pl (j+1)) (f':=bg c' rs pl (j+1)) (As h r _ _ h0) (λ_=>dm h rs _ _ _ ((mh r _ _).2 h0)) (λu=>cT rs _ _ _)
end
end
end Tw
namespace L3
open PySem L2
mutual
def sz:D->Nat
 |.tup xs=>5+zp xs
 |.lst xs=>5+zp xs
 |.str _=>60
 |_=>2000
def zp:List D->Nat
 |[]=>0
 |x::xs=>sz x+2+zp xs
end
theorem Dg(ts:List Str):(tupleText ts).length<=piled ts+5:=by
 unfold tupleText;rw[strLen_append,strLen_append];have b:(("(":String):Str).length=1:=rfl;have a:((if ts.length==1 then ",)" else ")":String):Str).length<=2:=by split<;>decide
 by_cases h:ts=[]
 .subst h
  have:(Qw ", " ([]:List Str)).length=0:=rfl;lia
 .have:=join_length_add ts h
  lia
theorem gv:∀xs:List D,(∀x∈xs,(cr x).showable=true)->Qz (cW xs)=true
 |[],_=>by simp only[cW,Qz]
 |x::xs,h=>by simp only[cW,Qz,h x (by simp),gv xs λy a=>h y (Nk _ a),Qe]
theorem cH{n:Nat}:∀xs:List D,(∀x∈xs,bw n x=true)->bV n xs=true
 |[],_=>by simp[bV]
 |x::xs,h=>by simp[bV,h x (by simp),cH xs λy a=>h y (Nk _ a)]
theorem nj:∀xs:List D,(∀x∈xs,(cr x).shown.length<=sz x)->piled (Oc<|cW xs)<=zp xs
 |[],_=>by simp[cW,Oc,piled,zp]
 |x::xs,h=>by
  have c:=h x (by simp)
  have a:=nj xs λy b=>h y (Nk _ b);simp only[cW,Oc,zp];simp[piled]at a ⊢;lia
end L3
namespace Tw
open PySem L2 L3
def CW(n:Nat)(d:D):Prop:=bw n d=true/\(cr d).showable=true/\(cr d).shown.length<=sz d
theorem EM{n:Nat}{i:Int}(h:i.natAbs.log2<1920):CW n (.int i):=⟨by cases n<;>rfl,by simp only[cr,Ot,decide_eq_true_eq];exact h,by simp only[cr,QG,sz];exact Ny (PyProof.Rows.int_text_len_1921 h) (by decide)⟩
theorem Fl{n:Nat}{x:Str}(h:(PZ x).shown.length<=60):CW n (.str x):=⟨by cases n<;>rfl,by simp only[cr,Ot],by simp only[cr,sz];exact h⟩
theorem yH{i:Int}(h0:0<=i)(h1:i<=1000):i.natAbs.log2<1920:=QO (Nat.log2_le_self _) (by lia)
section
variable {te:bp}{M:Mem}
theorem iy{tt:eG}{ok:Mem->Prop}{Q:List D->Mem->Prop}{b:BxC (ah 0) tt te ok Q}{rest:Dl}{c:Option D}{xs:List D}(p:D->Bool)(f:D->D)(ho:ok M)(hl:xs.length<=100000)
  (ht:∀x∈xs,∀K:Bool->Mem->Prop,K (p x) M->tt (some x::rest) M K) (he:∀x∈xs,p x=true->∀K:DK,K (f x) M->te (some x::rest) M K) (h:Q ((xs.filter p).map f) M):
  cF (ah 0) tt te ok Q b xs [] (c::rest) M:=by
 refine bM (λj a U N=>∃(e:List D) (i:Option D),xs=e++j/\a=(e.filter p).map f/\U=i::rest/\M=N) (λ_ _ _ _ z=>by obtain⟨_,_,_,_,_,rfl⟩:=z;exact ho) ?_ ?_ ?_ _ _ _ _ ⟨[],c,rfl,rfl,rfl,rfl⟩
 .rintro a U N ⟨e,i,g,rfl,rfl,rfl⟩
  rw[NT]at g;subst g;exact h
 .rintro y j a U N ⟨e,i,g,rfl,rfl,rfl⟩ N' m l
  have q:y∈xs:=by rw[g];simp
  have o:=congrArg Oj g;simp only[Nd,MZ]at o;have r:=O6 p e;simp only[ah,NH];refine ht y q _ ?_;cases n:p y with
  |true=>
   rw[if_pos rfl];exact he y q n _ (m _ _ _ (by rw[MW];exact fS (by lia)) ⟨e++[y],_,by simp[g],by simp[n],rfl,rfl⟩)
  |false=>
   rw[if_neg (by simp)]
   exact l .non _ _ ⟨e++[y],_,by simp[g],by simp[n],rfl,rfl⟩
 .rintro y j a U N ⟨e,i,g,rfl,rfl,rfl⟩
  have o:=congrArg Oj g;simp only[Nd,MZ]at o;have r:=O6 p e;rw[MW];exact fS (by lia)
theorem dD{ok:Mem->Prop}{Q:List D->Mem->Prop}{b:BxC (ah 0) bX te ok Q}{rest:Dl}{c:Option D}{xs:List D}(f:D->D)(ho:ok M)(hl:xs.length<=100000)
  (he:∀x∈xs,∀K:DK,K (f x) M->te (some x::rest) M K) (h:Q (xs.map f) M):cF (ah 0) bX te ok Q b xs [] (c::rest) M:=by
 refine iy (λ_=>true) f ho hl (λx _ K q=>q) (λx a _=>he x a) ?_;rw[List.filter_eq_self.mpr λ_ _=>rfl];exact h
end
instance lawKey:LawfulBEq ax where
 eq_of_beq {a b} h:=by
  cases a<;>cases b
  .exact congrArg O7 (eq_of_beq (α:=Int) h)
  .cases h
  .cases h
  .exact congrArg Nm (eq_of_beq (α:=Str) h)
 rfl {a}:=by
  cases a
  .exact beq_self_eq_true (α:=Int) _
  .exact beq_self_eq_true (α:=Str) _
def kD:ax->D
 |.inl i=>.int i
 |.inr x=>.str x
theorem AQ{a b:ax}(h:kD a=kD b):a=b:=by
 cases a<;>cases b<;>simp only[kD]at h<;>cases h<;>rfl
theorem Ap(a b:ax):aI (kD a) (kD b)=decide (a=b):=by
 cases a<;>cases b<;>simp[kD,aI]
theorem mi(n:Nat)(a:ax):bw n (kD a)=true:=by cases a<;>cases n<;>rfl
theorem gR(n:Nat):∀ks:List ax,bV n (ks.map kD)=true
 |[]=>by cases n<;>rfl
 |k::ks=>by simp only[Nb,bV,mi,gR n ks,Qe]
theorem bv:∀ks:List ax,bP (ks.map kD)=some ks
 |[]=>rfl
 |k::ks=>by
  have:=bv ks;cases k<;>simp[bP,kD,bI,this]
theorem uC:∀a b:List ax,fX (a.map kD) (b.map kD)=decide (a=b)
 |[],[]=>rfl
 |[],_::_=>rfl
 |_::_,[]=>rfl
 |a::as,b::bs=>by
  simp only[Nb,fX,Ap,uC as bs]
  by_cases h:a=b
  .by_cases c:as=bs<;>simp[h,c]
  .simp[h]
theorem Av{ks:List ax}{k:ax}:((ks.map kD).any λd=>aI d (kD k))=decide (k∈ks):=by
 induction ks with
 |nil=>rfl
 |cons a ks ih=>
  rw[Nb,OU,ih,Ap]
  by_cases h:a=k
  .simp[h]
  .have:¬k=a:=λe=>h e.symm
   simp[h,this]
def b8(ks:List ax):D:=.lst (ks.map kD)
theorem wc{M:Mem}{k:ax}:dv M (kD k)=kD k:=by cases k<;>rfl
def IsMx(M:Mem)(d:D)(ks:List ax):Prop:=d=b8 ks\/∃p,d=.ref p/\M p=some (.lst<|ks.map kD)
theorem IsMx.mx{M:Mem}{ks:List ax}:IsMx M (b8 ks) ks:=.inl rfl
theorem IsMx.sD{M:Mem}{d:D}{ks:List ax}(h:IsMx M d ks):bt M d=some (ks.map kD):=by
 rcases h with rfl|⟨p,rfl,e⟩
 .rfl
 .simp only[bt,e]
theorem IsMx.sL{M:Mem}{d:D}{ks:List ax}(h:IsMx M d ks):cP M d=some (ks.map kD):=by
 rcases h with rfl|⟨p,rfl,e⟩
 .rfl
 .simp only[cP,e]
theorem IsMx.go{M M':Mem}{d:D}{ks:List ax}(h:IsMx M d ks)(k:∀p xs,M p=some (.lst xs)->M' p=some (.lst xs)):IsMx M' d ks:=h.imp (λe=>e) λ⟨p,e,q⟩=>⟨p,e,k p _ q⟩
theorem IsMx.tup{M:Mem}{d:D}{ks:List ax}{K:DK}(h:IsMx M d ks)(q:K (.tup<|ks.map kD) M):aJ [d] M K:=by
 have e:=h.sL;rcases h with rfl|⟨p,rfl,_⟩
 .exact q
 .simp only[aJ,e];exact q
theorem GU{M:Mem}{d:D}{ks:List ax}{k:ax}(h:IsMx M d ks):qk M (kD k) d=some (decide (k∈ks)):=by
 unfold qk;simp only[h.sD,wc,mi,gR,and_self,if_true,Av]
structure Cse where
 w:Int
 many:Nat
 names:List Str
 rows:List Rw
 mn:Str
 most:Nat
structure Sta where
 nums:List Int
 pieces:List Int
def Sta.d(s:Sta):D:=cy s.nums s.pieces
def Cse.cf(C:Cse)(s:Sta):Cf:=⟨C.w,s.pieces,C.most⟩
def Cse.d(C:Cse):D:=.tup [.int C.w,.tup (C.names.map D.str),.int (C.many:Nat),.tup (ay C.rows),.str C.mn]
structure Cse.Ok(C:Cse):Prop where
 m2:2<=C.w
 m1:C.w<=997
 few:C.many<=100
 most:C.most<=10000
 nd:C.names.Nodup
 l0:0<C.names.length
 l1:C.names.length<=100
 ok:cL C.names C.w C.many C.rows
 h:g7 C.rows<=7
 mn:C.mn∈C.names
structure SOk(C:Cse)(s:Sta):Prop where
 ln:s.nums.length=C.names.length
 lp:s.pieces.length=C.many
 rn:∀v∈s.nums,0<=v/\v<C.w
 rp:∀v∈s.pieces,0<=v/\v<C.w
def mL(mk:Str)(r:Bool×Sx):D:=if r.1=true then .int (nm r.2.nums mk) else .non
def Cse.run(C:Cse)(s:Sta):Bool×Sx:=f_ (C.cf s) C.names C.rows s.nums
def Cse.mark(C:Cse)(s:Sta):D:=mL C.mn (C.run s)
section
variable {C:Cse}{s:Sta}{ad:Ad}{M:Mem}{Q:DK}{E:DX}
theorem Cse.Ok.pl(o:C.Ok)(k:SOk C s):PlOk (C.cf s) C.names C.rows s.nums:=
 ⟨⟨o.m2,o.m1,k.rp,by show s.pieces.length<=1000;rw[k.lp];have:=o.few;lia,o.most⟩,k.ln.symm,o.nd,o.l0,by have:=o.l1;lia,k.rn,by show cL C.names C.w s.pieces.length C.rows;rw[k.lp];exact o.ok,o.h⟩
theorem SOk.pd(k:SOk C s):C.d=aT (C.cf s) C.names C.rows C.mn:=by unfold Cse.d aT Cse.cf;rw[k.lp]
theorem eM(C:Cse)(s:Sta):C.mark s=.non\/∃v,C.mark s=.int v:=by
 unfold Cse.mark mL
 split
 .exact .inr ⟨_,rfl⟩
 .exact .inl rfl
theorem gS:bw 60 (C.mark s)=true:=by rcases eM C s with e|⟨v,e⟩<;>rw[e]<;>rfl
theorem vc:dv M (C.mark s)=C.mark s:=by rcases eM C s with e|⟨v,e⟩<;>rw[e]<;>rfl
theorem eF{Q:DK}(h:Q (C.mark s) M):frz (C.mark s) M Q:=by rcases eM C s with e|⟨v,e⟩<;>rw[e]at h ⊢<;>exact h
theorem t5{mk:Str}:∀{names:List Str},mk∈names->∃j,names.findIdx? (λy=>decide (y=mk))=some j/\names[j]?=some mk
 |[],h=>by simp at h
 |x::names,h=>by
  by_cases e:x=mk
  .subst e;exact⟨0,by simp[Su],rfl⟩
  .have b:mk∈names:=by
    rcases Nl.mp h with z|z
    .exact absurd z.symm e
    .exact z
   obtain⟨j,c,a⟩:=t5 b;exact⟨j+1,by simp[Su,e,c],by simpa using a⟩
theorem gg:∀names:List Str,iH (names.map D.str)=some names
 |[]=>rfl
 |x::names=>by rw[Nb,iH,gg names]
def Ix(names:List Str)(r:Bool×Sx):D:=.tup [.lst (Gf r.2.steps),tX names r]
theorem Ba{c:Cf}{names:List Str}{rows:List Rw}{mk:Str}{nums:List Int}{EE:DX}{b:BxQ EE λd M'=>qi d M' Q}(p:PlOk c names rows nums)(h:Q (Ix names<|f_ c names rows nums) M):
  calls (ql ad) EE [aT c names rows mk,cy nums c.pieces,.int (c.most:Nat)] M (λd M'=>qi d M' Q) b:=by
 refine aA λQ' E' f _=>A8 p λl a=>f _ _ ?_;unfold Ix tX at h;unfold tX;cases e:(f_ c names rows nums).1 with
 |true=>
  rw[e,if_pos rfl]at h;rw[if_pos rfl];simp![Mem.upd_del,af a];exact h
 |false=>
  rw[e,if_neg (by simp)]at h
  rw[if_neg (by simp)]
  simp![Mem.upd_del,af a];exact h
theorem zy{c:Cf}{names:List Str}{rows:List Rw}{mk:Str}{nums:List Int}(p:PlOk c names rows nums)(hm:mk∈names)(h:Q (mL mk<|f_ c names rows nums) M):lP ad [aT c names rows mk,cy nums c.pieces,.int (c.most:Nat)] M Q E:=by
 have l1:=p.l1;obtain⟨j,f,b⟩:=t5 hm;simp![KM,uV];refine Ba p ?_;simp![Ix,atI_1];unfold mL at h;unfold tX;cases e:(f_ c names rows nums).1 with
 |true=>
  rw[e,if_pos rfl]at h;rw[if_pos rfl];simp![aT,atI_1,atI_4,gg,f];refine⟨l1,?_⟩;have a:atI (names.map λx=>D.int (nm (f_ c names rows nums).2.nums x)) (j:Nat)=some (.int<|nm (f_ c names rows nums).2.nums mk):=by
   rw[bO (by lia),Nw,Nr,b];rfl
  simp![a];exact aq h
 |false=>
  rw[e,if_neg (by simp)]at h
  rw[if_neg (by simp)]
  simp![];exact aq h
theorem iQ{EE:DX}{b:BxQ EE Q}(o:C.Ok)(k:SOk C s)(h:Q (C.mark s) M):calls (lP ad) EE [C.d,s.d,.int (C.most:Nat)] M Q b:=by
 refine aG (d:=C.mark s) (λQ' E' q=>?_) h;rw[k.pd];exact zy (o.pl k) o.mn q
def aF(C:Cse)(s t:Sta):D:=.tup [C.d,s.d,t.d,.int (C.most:Nat)]
def cZ(C:Cse):List ax:=C.names.map Nm++(NL C.many).map λ(i:Nat)=>O7 (i:Int)
def aV(C:Cse)(s:Sta):ax->Int
 |.inl i=>(s.pieces[i.toNat]?).getD 0
 |.inr x=>nm (C.names.zip s.nums) x
theorem si:∀{names:List Str} {nums:List Int} {j:Nat} {x:Str},names.Nodup->names.length=nums.length->names[j]?=some x->nums[j]?=some (nm (names.zip nums) x)
 |[],_,j,x,_,_,h=>by simp at h
 |y::names,[],j,x,_,h,_=>by simp at h
 |y::names,v::nums,0,x,nd,hl,h=>by
  simp at h;subst h;simp[nm,gN]
 |y::names,v::nums,j+1,x,nd,hl,h=>by
  simp only[MV]at h ⊢;have a:=PR.mp nd;have b:¬y=x:=λe=>a.1 (e▸Qt h);rw[si a.2 (by simpa using hl) h]
  simp[nm,gN,b]
theorem wA{k:ax}(h:k∈cZ C):(∃x,x∈C.names/\k=.inr x)\/∃i:Nat,i<C.many/\k=.inl (i:Int):=by
 rcases Nx.mp h with q|q
 .obtain⟨x,b,rfl⟩:=Nu.mp q
  exact .inl ⟨x,b,rfl⟩
 .obtain⟨i,a,rfl⟩:=Nu.mp q
  exact .inr ⟨i,N7.mp a,rfl⟩
theorem fO(o:C.Ok)(k:SOk C s){t:ax}(ht:t∈cZ C):0<=aV C s t/\aV C s t<C.w:=by
 rcases wA ht with⟨x,a,rfl⟩|⟨i,hi,rfl⟩
 .exact((o.pl k).nok.at a).2
 .exact((o.pl k).co.piece (i:=(i:Int).toNat)<|by show _<s.pieces.length;rw[k.lp];lia).2
theorem cA(o:C.Ok)(k:SOk C s){t:ax}(ht:t∈cZ C)(h:Q (.int<|aV C s t) M):mV ad [C.d,s.d,kD t] M Q E:=by
 have l1:=o.l1;rcases wA ht with⟨x,c,rfl⟩|⟨i,hi,rfl⟩
 .obtain⟨j,e,b⟩:=t5 c
  have a:atI (s.nums.map D.int) (j:Nat)=some (.int<|nm (C.names.zip s.nums) x):=by
   rw[bO (by lia),Nw,Nr,si o.nd k.ln.symm b];rfl
  simp![FL,rb,kD,Cse.d,Sta.d,cy,bJ,eN,atI_0,atI_1,gg,e,NO,Ob,NV,NW,N6];refine⟨by lia,?_⟩
  simp![a];exact aq h
 .have a:atI (s.pieces.map D.int) (i:Nat)=some (.int<|(s.pieces[(i:Int).toNat]?).getD 0):=by
   rw[bO (by lia),Nw,Nr,MY (by rw[k.lp];exact hi)];rfl
  simp![FL,rb,kD,Cse.d,Sta.d,cy,bJ,eN,atI_0,atI_1,a,NO,Ob,NV,NW,N6,NN,NF];exact aq h
end
def fh(C:Cse)(s t:Sta)(ks:List ax):Sta:=
 ⟨C.names.map λx=>aV C (if Nm x∈ks then t else s) (.inr x),(NL C.many).map λ(i:Nat)=>aV C (if O7 (i:Int)∈ks then t else s) (.inl (i:Int))⟩
section
variable {C:Cse}{s t:Sta}{ad:Ad}{M:Mem}{Q:DK}{E:DX}{ks:List ax}
theorem vC(o:C.Ok)(hs:SOk C s)(ht:SOk C t):SOk C (fh C s t ks):=by
 refine⟨by simp[fh],by simp[fh],λv a=>?_,λv a=>?_⟩
 .simp only[fh,Nu]at a
  obtain⟨x,c,rfl⟩:=a;have hm:Nm x∈cZ C:=Nx.mpr (.inl<|Nu.mpr ⟨x,c,rfl⟩)
  split
  .exact fO o ht hm
  .exact fO o hs hm
 .simp only[fh,Nu]at a
  obtain⟨i,b,rfl⟩:=a;have hm:(O7 (i:Int):ax)∈cZ C:=Nx.mpr (.inr<|Nu.mpr ⟨i,b,rfl⟩)
  split
  .exact fO o ht hm
  .exact fO o hs hm
theorem Me{ta tb:bp}{U:Dl}{k:ax}{d:D}{K:Bool->Mem->Prop}(hd:IsMx M d ks)(ha:∀K,K (kD k) M->ta U M K)(hb:∀K,K d M->tb U M K)(h:K (decide (k∈ks)) M):ar (am uu ta tb) U M K:=by
 unfold ar am;refine ha _ (hb _ ?_);unfold uu;rw[GU hd];exact h
theorem l_{d:D}(hd:IsMx M d ks)(o:C.Ok)(hs:SOk C s)(ht:SOk C t){k:ax}(hk:k∈cZ C)(h:Q (.int<|aV C (if k∈ks then t else s) k) M):nJ ad [aF C s t,d,kD k] M Q E:=by
 rw[Ks (n:=0)];unfold xY;generalize a:ar (am uu (ac 2)<|ac 1)=TT;simp![aF,atI_0,atI_1,atI_2];rw[<- a];refine Me (k:=k) (ks:=ks) hd (λK q=>q) (λK q=>q) ?_
 by_cases c:k∈ks
 .rw[if_pos c]at h
  rw[if_pos (by simpa using c)]
  exact aG (λ_ _ q=>cA o ht hk q) (aq h)
 .rw[if_neg c]at h
  rw[if_neg (by simpa using c)]
  exact aG (λ_ _ q=>cA o hs hk q) (aq h)
theorem rL{d:D}(hd:IsMx M d ks){wi:zD}{x0:Str}{c2 c3:Option D}{us:List ax}{K:DK}(o:C.Ok)(hs:SOk C s)(ht:SOk C t)(hu:∀k∈us,k∈cZ C)(hl:us.length<=1000)(hw:∀R:DIt->Mem->Prop,R ⟨us.map kD,[]⟩ M->wi [some (aF C s t),some d,c2,c3] M R)
  (h:K (.tup<|(us.map λk=>aV C (if k∈ks then t else s) k).map D.int) M):aQ aJ (aa (ai<|aW wi [x0] [1,0] (ah 0) bX<|ai<|aj (nJ ad) iF 3<|aa (ac 2)<|aa (ac 1)<|aa (ac 0) ae) ae) [some (aF C s t),some d,c2,c3] M K:=by
 simp only[aQ,aa,ai,aW];refine hw _ ?_;simp only[cc,Nb,NM,Nz,NG,MV,dt,OB];refine dD (λd=>match bI d with|some k=>.int (aV C (if k∈ks then t else s) k)|none=>.non) bd (by simp;lia) (λx c K q=>?_) ?_
 .obtain⟨k,b,rfl⟩:=Nu.mp c
  simp![];refine aG (λ_ _ q=>l_ hd o hs ht (hu k b) q) ?_;cases k<;>exact q
 intro f a;simp only[frz,Mem.upd_same,Mem.upd_del,af a,ae,aJ,cP];have e:(us.map kD).map (λd=>match bI d with|some k=>D.int (aV C (if k∈ks then t else s) k)|none=>.non)=(us.map λk=>aV C (if k∈ks then t else s) k).map D.int:=by
  rw[NQ,NQ];refine Og λk _=>?_;cases k<;>rfl
 rw[e];exact h
theorem tD{d:D}(hd:IsMx M d ks)(o:C.Ok)(hs:SOk C s)(ht:SOk C t)(h:Q (fh C s t ks).d M):vQ ad [aF C s t,d] M Q E:=by
 have l1:=o.l1;have few:=o.few;have e:bD 0 (Py (C.many:Nat))=((NL C.many).map λ(i:Nat)=>(O7 (i:Int):ax)).map kD:=by
  simp[bD,kD]
 have f:C.names.map D.str=(C.names.map λx=>(Nm x:ax)).map kD:=by simp[kD]
 have b:gz ad (aw E) { nx:=λ_ M'=>drp Q .non M',rt:=drp Q } [some (aF C s t),some d,some (.tup<|C.names.map D.str),some (.lst<|bD 0<|Py (C.many:Nat))] M:=by
  unfold gz aC b9;rw[f,e];refine rL hd (us:=C.names.map λx=>Nm x) o hs ht (λk a=>Nx.mpr (.inl a)) (by simp;lia) (λR q=>q) ?_
  refine rL hd (us:=(NL C.many).map λ(i:Nat)=>O7 (i:Int)) o hs ht (λk a=>Nx.mpr (.inr a)) (by simp;lia) (λR q=>q) ?_
  refine⟨aZ (by simp),aq ?_⟩
  simpa [fh,Sta.d,cy,R6] using h
 rw[Kx (n:=0)];unfold ye oO;generalize gz ad (aw E)=K at b ⊢;unfold aF Cse.d at b ⊢;simp![atI_0,atI_1,atI_2];refine⟨⟨by lia,by lia⟩,λp c=>?_⟩
 simp only[Mem.upd_del,af c];exact b
theorem tW{a b:Int}(o:C.Ok)(hs:SOk C s)(ht:SOk C t)(ea:C.mark s=.int a)(eb:C.mark t=.int b)(hab:a≠b)(h:Q (.tup [.int a,.int b]) M):w_ ad [aF C s t] M Q E:=by
 rw[Li (n:=0)];unfold uF oP;generalize c:jQ ad (aw E)=K;simp![aF,atI_0,atI_1,atI_2,atI_3];refine iQ o hs (eF ?_);rw[ea];simp![];refine iQ o ht (eF ?_);rw[eb];simp![NH];rw[<- c];unfold jQ pF;simp![hab,decide_false];exact⟨aZ (by decide),aq h⟩
def Cse.ver(C:Cse)(s t:Sta)(ks:List ax):Str:=if aI (C.mark<|fh C s t ks) (C.mark s)=true then "sound" else if aI (C.mark<|fh C s t ks) (C.mark t)=true then "faulty" else "other"
theorem jr{a b:Int}{m:D}(hm:m=.non\/∃v,m=.int v)(h:Q (.str (if aI m (.int a)=true then "sound" else if aI m (.int b)=true then "faulty" else "other")) M):xm ad [.tup [.int a,.int b],m] M Q E:=by
 rcases hm with rfl|⟨v,rfl⟩
 .simp![Gz,qy,atI_0,atI_1]
  exact aq h
 .simp![Gz,qy,atI_0,atI_1]
  simp only[aI,decide_eq_true_eq]at h
  split
  .rename_i q;rw[if_pos q]at h;exact aq h
  .rename_i q;rw[if_neg q]at h
   split
   .rename_i q;rw[if_pos q]at h;exact aq h
   .rename_i q;rw[if_neg q]at h;exact aq h
end
structure Ak where
 a:Addr
 t:Addr
 ne:a≠t
def yn(C:Cse)(s t:Sta)(ts:List (List ax)):List (List ax×D):=ts.map λa=>(a,.str (C.ver s t a))
def Fm(k:Ak)(C:Cse)(s t:Sta)(two:D):List (Str×D):=[("case",aF C s t),("two",two),("told",.ref k.t)]
def aM(ad:Ad)(k:Ak)(C:Cse)(s t:Sta)(two:D)(ts:List (List ax))(M:Mem):Mem:=(M.upd k.a<|.ins ad.C_Askings<|Fm k C s t two).upd k.t (.dT<|yn C s t ts)
def jk(ts:List (List ax))(ks:List ax):List (List ax):=if ks∈ts then ts else ts++[ks]
section
variable {C:Cse}{s t:Sta}{ad:Ad}{M:Mem}{Q:DK}{E:DX}{ks:List ax}{k:Ak}{ts ts':List (List ax)}{two:D}
theorem Dq:aM ad k C s t two ts M k.a=some (.ins ad.C_Askings<|Fm k C s t two):=by unfold aM;rw[ag k.ne,Mem.upd_same]
theorem AD:aM ad k C s t two ts M k.t=some (.dT<|yn C s t ts):=by unfold aM;rw[Mem.upd_same]
theorem aM_u:(aM ad k C s t two ts M).upd k.t (.dT<|yn C s t ts')=aM ad k C s t two ts' M:=by unfold aM;rw[Mem.upd_upd]
theorem nV:N0 ("case":Str) (Fm k C s t two)=some (aF C s t):=rfl
theorem Hc:N0 ("two":Str) (Fm k C s t two)=some two:=rfl
theorem oG:N0 ("told":Str) (Fm k C s t two)=some (.ref k.t):=rfl
theorem HY:N0 ("ask":Str) (Fm k C s t two)=none:=rfl
theorem Cn:ba (yn C s t ts) ks=if ks∈ts then some (.str<|C.ver s t ks) else none:=by
 induction ts with
 |nil=>rfl
 |cons x ts ih=>
  by_cases e:x=ks
  .subst e;simp[yn,ba]
  .have a:¬ks=x:=λz=>e z.symm
   have:ba (yn C s t (x::ts)) ks=ba (yn C s t ts) ks:=by simp[yn,ba,e]
   rw[this,ih];simp[a]
theorem J_(h:ks∉ts):bL (yn C s t ts) ks (.str<|C.ver s t ks)=yn C s t (ts++[ks]):=by
 unfold bL;rw[if_neg ?_]
 .simp[yn]
 .simp only[yn,List.any_map,PJ,OH,decide_eq_true_eq,not_exists,not_and]
  exact λx hx e=>h (e▸hx)
theorem IsMx.ak{d:D}{us us':List (List ax)}(h:IsMx (aM ad k C s t two us M) d ks):IsMx (aM ad k C s t two us' M) d ks:=h.go λp f e=>by
 have b:p≠k.a:=λz=>by rw[z,Dq]at e;cases e
 have c:p≠k.t:=λz=>by rw[z,AD]at e;cases e
 unfold aM at e ⊢;rw[ag c,ag b]at e ⊢;exact e
theorem Lf{d:D}{a b:Int}(hd:IsMx (aM ad k C s t (.tup [.int a,.int b]) ts M) d ks)(o:C.Ok)(hs:SOk C s)(ht:SOk C t)(ea:C.mark s=.int a)(eb:C.mark t=.int b)(hl:ts.length<=100000)(h:Q (.str<|C.ver s t ks) (aM ad k C s t (.tup [.int a,.int b]) (jk ts ks) M)):
  lD ad [.ref k.a,d] (aM ad k C s t (.tup [.int a,.int b]) ts M) Q E:=by
 have l:aF C s t=.tup [C.d,s.d,t.d,.int (C.most:Nat)]:=rfl;have j:∀{i:List (List ax)} {K:DK},K (.tup<|ks.map kD) (aM ad k C s t (.tup [.int a,.int b]) i M)->aQ aJ (aa (ac 1) ae) [some (.ref k.a),some d] (aM ad k C s t (.tup [.int a,.int b]) i M) K:=λq=>hd.ak.tup q;have g:∀{f:Str} {x:D} {i:List (List ax)} {K:DK},N0 f (Fm k C s t<|.tup [.int a,.int b])=some x->K x (aM ad k C s t (.tup [.int a,.int b]) i M)->dF ad.C_Askings (ac 0) f [some (.ref k.a),some d] (aM ad k C s t (.tup [.int a,.int b]) i M) K:=λ{f x i K} e q=>by
  simp only[dF,ac,dt,Dq,e,true_and];exact q
 have m:∀i,ks∈i->drp Q (.str<|C.ver s t ks) (aM ad k C s t (.tup [.int a,.int b]) i M)->ii ad (aw E) { nx:=λ_ M'=>drp Q .non M',rt:=drp Q } [some (.ref k.a),some d] (aM ad k C s t (.tup [.int a,.int b]) i M):=λi r z=>by
  unfold ii aC am;refine g oG (j ?_);simp only[az,bt,AD,mC,mD,bv,Cn,if_pos r];exact z
 rw[Kj (n:=0)];unfold uI;unfold jk at h;generalize ii ad (aw E)=K2 at m ⊢;generalize p:ka ad (aw E)=K1;unfold ao aL ar am;refine j (g oG ?_);simp only[k_,qk,bt,AD,mC,mD,bv,Cn]
 by_cases c:ks∈ts
 .rw[if_pos c]at h
  simp only[if_pos c,P0,OV,Nv,if_false];exact m ts c (aq h)
 .rw[if_neg c]at h
  simp only[if_neg c,R9,OF,if_true,<- p];unfold ka av;simp only[ai,aj,aa,ae];refine g Hc ?_;simp only[am];refine g nV ?_;simp only[dC,l,az,bt,atI_0,dt];refine g nV ?_;simp only[ac,MV,dt];refine⟨rfl,aG (λ_ _ q=>tD hd o hs ht q) ?_⟩;have fs:∀{M:Mem} {Q:DK} {u:Sta},Q u.d M->frz u.d M Q:=λh=>h;refine fs ?_;refine g nV ?_;simp only[l,atI_3,MV,dt];refine⟨rfl,iQ o (vC o hs ht)<|eF ?_⟩;refine⟨rfl,aG (d:=.str (C.ver s t ks)) (λ_ _ q=>jr (eM C _) (by unfold Cse.ver at q;rw[ea,eb]at q;exact q)) ?_⟩
  have fst:∀{M:Mem} {Q:DK} {x:Str},Q (.str x) M->frz (.str x) M Q:=λh=>h;refine fst ?_;unfold fg;refine g oG (j ?_);simp only[C5,AD,mD,bv,J_ c,aM_u];exact⟨by rw[yn,MW];exact fS (by lia),m (ts++[ks]) (by simp)<|aq h⟩
theorem zJ{a b:Int}(o:C.Ok)(hs:SOk C s)(ht:SOk C t)(ea:C.mark s=.int a)(eb:C.mark t=.int b)(hl:ts.length<=100000)(h:Q (.str<|C.ver s t ks) (aM ad k C s t (.tup [.int a,.int b]) (jk ts ks) M)):
  lD ad [.ref k.a,b8 ks] (aM ad k C s t (.tup [.int a,.int b]) ts M) Q E:=Lf .mx o hs ht ea eb hl h
theorem AV:(jk ts ks).length<=ts.length+1:=by unfold jk;split<;>simp
theorem xW{a b:Int}{x:Addr}(hx:M x=none)(o:C.Ok)(hs:SOk C s)(ht:SOk C t)(ea:C.mark s=.int a)(eb:C.mark t=.int b)(hab:a≠b)
  (h:∀k:Ak,k.a=x->M k.t=none->Q .non (aM ad k C s t (.tup [.int a,.int b]) [] M)):DZ ad [.ref x,aF C s t] (M.upd x<|.ins ad.C_Askings []) Q E:=by
 have i:aF C s t=.tup [C.d,s.d,t.d,.int (C.most:Nat)]:=rfl;have l:d_ "case" (aF C s t) []=[(("case":Str),aF C s t)]:=rfl;have j:∀d,d_ "two" d [(("case":Str),aF C s t)]=[(("case":Str),aF C s t),(("two":Str),d)]:=λ_=>rfl;have g:∀d e,d_ "told" e [(("case":Str),aF C s t),(("two":Str),d)]=[(("case":Str),aF C s t),(("two":Str),d),(("told":Str),e)]:=λ_ _=>rfl;rw[u_q1 (n:=0)];unfold EN ur;simp![Mem.upd_upd,Mem.upd_same,l];refine⟨by decide,?_⟩
 refine aG (λ_ _ q=>tW o hs ht ea eb hab q) ?_;simp![Mem.upd_upd,Mem.upd_same,j];refine⟨by simp,λp f=>?_⟩
 have c:x≠p:=Mem.ne Mem.upd_same f;rw[ag c.symm]at f;simp![ag c,Mem.upd_same,g];refine⟨by simp,aq ?_⟩
 have:=h ⟨x,p,c⟩ rfl f;unfold aM at this;rw[aR c.symm,Mem.upd_upd];exact this
theorem Cp(h1:M k.a=none)(h2:M k.t=none)(b:Addr)(o:MO)(e:M b=some o):aM ad k C s t two ts M b=some o:=by
 unfold aM;rw[ag (λq=>by rw[q,h2]at e;cases e),ag (λq=>by rw[q,h1]at e;cases e)]
 exact e
def aY(C:Cse)(s t:Sta):List ax:=(cZ C).filter λk=>decide (aV C s k≠aV C t k)
def b_(ks:List ax):List (List ax):=(NL ks.length).map λi=>ks.take i++ks.drop (i+1)
theorem z9{x0:Str}(hl:ks.length<=1000)(h:∀p,M p=none->Q (.ref p) (M.upd p<|.lst<|(b_ ks).map b8)):
  aW (bR<|aa (aQ bh<|aa (ac 0) ae) ae) [x0] [0] (ah 0) bX (ai<|am bj (ai<|gn (ac 1) aU<|br<|ac 0)<|ai<|gn (ac 1) (br<|am bj (ac 0)<|dC<|.int 1) aU) [some (b8 ks)] M Q:=by
 have a:∀ks,b8 ks=.lst (ks.map kD):=λ_=>rfl;simp![aW,a,MW];refine⟨by lia,by lia,?_⟩
 refine dD (λd=>match d with|.int i=>b8 (ks.take i.toNat++ks.drop (i.toNat+1))|_=>.non) bd (by simp[bD];lia) (λx b K q=>?_) ?_
 .simp only[bD,Nu,N7]at b
  obtain⟨i,r,rfl⟩:=b;have g:(0:Int)+(i:Nat)=(i:Nat):=by lia
  have j:((i:Nat):Int)+1=((i+1:Nat):Int):=by lia
  rw[g]at q ⊢;simp![bT];intro o c;simp only[Mem.upd_del,af c,j,cR];intro u m;simp only[Mem.upd_del,af m];refine⟨aZ (by simp only[NP,NY,MW];lia),λn f=>?_⟩
  simp![Mem.upd_del,af f];simp only[a,Nw,Ol,PL,QE]at q;exact q
 .intro p l
  have:=h p l;simp only[b_,NQ]at this;simp only[bD,NQ,Nw];have e:(((λd=>match d with|.int i=>b8 (ks.take i.toNat++ks.drop (i.toNat+1))|_=>.non) ∘ λ(i:Nat)=>D.int (0+(i:Int))):Nat->D)=(b8 ∘ λi=>ks.take i++ks.drop (i+1)):=by
   funext i;simp
  rw[e];exact this
end
section
variable {ad:Ad}{c:Cf}{names:List Str}{rows:List Rw}{mk:Str}{nums:List Int}{M:Mem}{Q:DK}{E:DX}
theorem lH(hl:names.length=nums.length)(nd:names.Nodup)(h0:0<names.length)(h1:names.length<=1000)
  (h:∀(k:Hk),M k.h=none->M k.dn=none->M k.lr=none->Q (.ref k.h) (hM k c (c.most:Nat) (names.zip nums) [] M)):
  kU ad [aT c names rows mk,cy nums c.pieces,.int (c.most:Nat)] M Q E:=by
 simp only[Mj];unfold xw;simp only[aC,lM];intro p l;simp![aT,cy,atI_0,atI_1,fA,MW];refine⟨hl,h0,h1,λdn b=>⟨aZ (by decide),λlr a=>?_⟩⟩
 have g:p≠dn:=Mem.ne Mem.upd_same b;have e:M dn=none:=by rw[ag g.symm]at b;exact b
 have i:dn≠lr:=Mem.ne Mem.upd_same a;rw[ag i.symm]at a;have f:p≠lr:=Mem.ne Mem.upd_same a;rw[ag f.symm]at a;refine⟨by rw[ag f,ag g,Mem.upd_same],by decide,?_⟩
 have j:eY [Nm "numbers",Nm "pieces",Nm "read",Nm "wheel",Nm "left"] [D.ref dn,D.tup (c.pieces.map D.int),D.ref lr,D.int c.m,D.int (c.most:Nat)]=hD ⟨p,dn,lr,g,f,i⟩ c (c.most:Nat):=by simp[eY,bL,hD,bo]
 have:=h ⟨p,dn,lr,g,f,i⟩ l e a;unfold hM at this;rw[j,iY hl nd,aR f.symm,aR g.symm,Mem.upd_upd];exact aq this
theorem sO{k:Hk}{left:Int}{n:iA}{rd:List Int}(h1:M k.h=none)(h2:M k.dn=none)(h3:M k.lr=none)(b:Addr)(o:MO)(e:M b=some o):hM k c left n rd M b=some o:=by
 unfold hM;rw[ag (λq=>by rw[q,h3]at e;cases e),ag (λq=>by rw[q,h2]at e;cases e),ag (λq=>by rw[q,h1]at e;cases e)]
 exact e
end
section
variable {C:Cse}{s t:Sta}{ad:Ad}{M:Mem}{Q:DK}{E:DX}{ks:List ax}
theorem qA(o:C.Ok)(k:SOk C s)(h:Q (C.mark s) M):mq ad [C.d,s.d,.int (C.most:Nat)] M Q E:=by
 have p:=o.pl k;have y:NOk C.names (C.cf s).m (C.run s).2.nums:=cS p.co C.rows p.ok [] 0 ⟨C.names.zip s.nums,[]⟩ p.nok;have x:∀b,hM b (C.cf s) ((C.cf s).most:Nat) (C.names.zip s.nums) [] M=hS b (C.cf s) ⟨C.names.zip s.nums,[]⟩ [] M:=λb=>by unfold hS;simp
 rw[LC (n:=0)];unfold uw;generalize w:kF ad (aw E)=K;rw[k.pd];simp only[ao,av,aj,aa,ac,ae,MV,dt,startN,Nb,NM,MZ,Nq,Nh,Nz,NG];refine⟨trivial,?_⟩;refine aA λQ' E' a _=>lH (c:=C.cf s) p.ln p.nd p.l0 p.l1 λb r u q=>a _ _ ?_;rw[<- w];unfold kF;generalize j:kd ad (aw E)=K1;simp![aT,atI_3];rw[x];refine aA λQ' E' a _=>t3 p.co p.l1 24 C.rows [] 0 ⟨C.names.zip s.nums,[]⟩ [] M Q' E' p.ok (by have:=p.h;lia) p.nok (N5 _) (by simp) (λi A B=>a _ _ ?_) (λl n i g=>a _ _ ?_)
 .have f:(C.run s).1=true:=A
  have e:C.mark s=.int (nm (C.run s).2.nums C.mn):=by unfold Cse.mark mL;rw[if_pos f]
  rw[e]at h;simp![];rw[<- j];unfold kd hS;have z:gN (bg (C.cf s) C.rows [] 0 ⟨C.names.zip s.nums,[]⟩).2.nums C.mn=some (nm (C.run s).2.nums C.mn):=(y.at o.mn).1;simp![aT,eQ,gl,dg,atI_4,cQ,z,OG];exact⟨M,sO r u q,h⟩
 .have v:(C.run s).1=false:=g
  have e:C.mark s=.non:=by unfold Cse.mark mL;rw[if_neg (by rw[v];simp)]
  rw[e]at h;simp![];exact⟨M,sO r u q,h⟩
theorem fz{EE:DX}{b:BxQ EE Q}(o:C.Ok)(k:SOk C s)(h:Q (C.mark s) M):calls (mq ad) EE [C.d,s.d,.int (C.most:Nat)] M Q b:=
 aG (λ_ _ q=>qA o k q) h
theorem JH{n:Nat}:bD 0 (Py (n:Nat))=((NL n).map λ(i:Nat)=>(O7 (i:Int):ax)).map kD:=by simp[bD,kD]
theorem rM(o:C.Ok)(h:∀p,M p=none->Q (.ref p) (M.upd p<|.lst<|(cZ C).map kD)):nw ad [C.d] M Q E:=by
 have l1:=o.l1;have few:=o.few;rw[Mm (n:=0)];unfold wK Cse.d;simp![atI_1,atI_2];intro g b;simp only[Mem.upd_del,af b];refine⟨⟨by lia,by lia⟩,λj c=>?_⟩
 simp only[Mem.upd_del,af c];refine⟨aZ (by simp[bD];lia),λa f=>aq ?_⟩
 have:=h a f;rw[JH];have e:(cZ C).map kD=C.names.map D.str++((NL C.many).map λ(i:Nat)=>(O7 (i:Int):ax)).map kD:=by simp[cZ,kD]
 rw[e]at this;exact this
theorem j5{EE:DX}{b:BxQ EE λd M'=>frz d M' Q}(o:C.Ok)(h:Q (.lst<|(cZ C).map kD) M):calls (nw ad) EE [C.d] M (λd M'=>frz d M' Q) b:=by
 refine aA λQ' E' c _=>rM o λp a=>c _ _ ?_;simp only[frz,Mem.upd_same,Mem.upd_del,af a];exact h
theorem oB:(cZ C).length=C.names.length+C.many:=by simp[cZ]
theorem gU(o:C.Ok)(k:SOk C s):s.nums.map D.int++s.pieces.map D.int=(cZ C).map λx=>D.int (aV C s x):=by
 have b:s.nums=C.names.map λx=>nm (C.names.zip s.nums) x:=by
  refine List.ext_getElem? λi=>?_;rw[Nr];cases e:C.names[i]? with
  |none=>
   have:=List.getElem?_eq_none_iff.mp e;rw[OP (by rw[k.ln];exact this)]
   rfl
  |some x=>rw[si o.nd k.ln.symm e];rfl
 have a:s.pieces=(NL C.many).map λ(i:Nat)=>(s.pieces[i]?).getD 0:=by
  refine List.ext_getElem? λi=>?_;rw[Nr]
  by_cases c:i<C.many
  .have e:=MY (l:=s.pieces) (i:=i) (by rw[k.lp];exact c)
   rw[Sl c,e];simp[e]
  .rw[OP (by rw[k.lp];lia),OP (by simp;lia)]
   rfl
 unfold cZ;rw[Ol,NQ,NQ]
 conv=>lhs;rw[b,a]
 rw[NQ,NQ];rfl
end
theorem vp{α:Type}(q:α->Bool)(g:α->D):∀l:List α,((NL l.length).filter λ(i:Nat)=>match l[i]? with|some x=>q x|none=>false).map (λi=>match l[i]? with|some x=>g x|none=>D.non)=(l.filter q).map g
 |[]=>rfl
 |x::l=>by
  have c:=vp q g l;rw[MZ,Qi,List.filter_cons,PV,List.filter_cons];have e:((λ(i:Nat)=>match (x::l)[i]? with|some x=>q x|none=>false) ∘ Nat.succ)=λ(i:Nat)=>match l[i]? with|some x=>q x|none=>false:=by funext i;simp
  rw[e];have b:((NL l.length).filter λ(i:Nat)=>match l[i]? with|some x=>q x|none=>false).map ((λi=>match (x::l)[i]? with|some x=>g x|none=>D.non) ∘ Nat.succ)=(l.filter q).map g:=by
   rw[<- c];refine Og λi _=>?_;simp
  cases a:q x with
  |true=>simp only[dt,a,if_true,Nb,NQ,b]
  |false=>simp only[dt,a,Nv,if_false,NQ,b]
theorem tT{α:Type}{l:List α}{q:α->Bool}{g:α->D}{p:D->Bool}{f:D->D}(hp:∀(i:Nat) x,l[i]?=some x->p (.int (i:Nat))=q x)(hf:∀(i:Nat) x,l[i]?=some x->f (.int (i:Nat))=g x):((bD 0 l.length).filter p).map f=(l.filter q).map g:=by
 rw[<- vp q g l];unfold bD;rw[PV,NQ];have c:(NL l.length).filter (p ∘ λ(i:Nat)=>D.int (0+(i:Int)))=(NL l.length).filter λ(i:Nat)=>match l[i]? with|some x=>q x|none=>false:=by
  refine PD λi b=>?_;have a:=N7.mp b;have e:=MY a;rw[OH,Pl,hp i _ e,e]
 rw[c];refine Og λi b=>?_;have a:=N7.mp (PU.mp b).1;have e:=MY a;rw[OH,Pl,hf i _ e,e]
def dX:Nat->Nat->List D
 |_,0=>[]
 |j,n+1=>.int (j:Nat)::dX (j+1) n
theorem wg:∀(n j:Nat),(NL n).map (λ(i:Nat)=>D.int ((j+i:Nat):Int))=dX j n
 |0,_=>rfl
 |n+1,j=>by
  rw[Qi,Nb,NQ,dX,<- wg n (j+1)];congr 1;refine Og λi _=>?_;simp only[OH];congr 2;lia
theorem JI(n:Nat):bD 0 n=dX 0 n:=by
 rw[<- wg];unfold bD;refine Og λi _=>?_;simp
theorem kb(n:Nat):bD 0 (Py (n:Nat))=dX 0 n:=by rw[Nw,JI]
theorem Ea{α:Type}{a b:List α}{x y:α}:(a++x::b).set a.length y=a++y::b:=by
 induction a with
 |nil=>rfl
 |cons z a ih=>simp[ih]
theorem HR{α:Type}{a b:List α}{x:α}:r_ (a++x::b).length (a.length:Nat)=some a.length:=by
 rw[tZ (by lia) (by simp;lia),Nw]
section
variable {C:Cse}{s t:Sta}{ad:Ad}{M:Mem}{Q:DK}{E:DX}{ks:List ax}
theorem vA{p:Addr}{xs:List D}(hp:M p=none)(h:Q (.lst xs) M):frz (.ref p) (M.upd p<|.lst xs) Q:=by
 simp only[frz,Mem.upd_same,Mem.upd_del,af hp];exact h
theorem jL(h:Q s.d M):frz s.d M Q:=h
theorem qb{i:Nat}{x:ax}{f:ax->D}(h:(cZ C)[i]?=some x):atI ((cZ C).map f) (i:Nat)=some (f x):=by
 rw[bO (by lia),Nw,Nr,h];rfl
theorem rj(o:C.Ok)(hs:SOk C s)(ht:SOk C t)(h:∀p,M p=none->Q (.ref p) (M.upd p<|.lst<|(aY C s t).map kD)):xG ad [C.d,s.d,t.d] M Q E:=by
 have l1:=o.l1;have few:=o.few;have y:=oB (C:=C);have r:gq ad (aw E) { nx:=λ_ M'=>drp Q .non M',rt:=drp Q } [some C.d,some s.d,some t.d,some (.lst<|(cZ C).map kD),some (.tup ((cZ C).map λx=>.int (aV C s x))),some (.tup ((cZ C).map λx=>.int (aV C t x)))] M:=by
  unfold gq;simp![aW,MW];refine⟨by lia,by lia,?_⟩
  have v:Py ((cZ C).length:Nat)=(cZ C).length:=Nw _;rw[v];show cF _ _ _ _ _ _ _ _ [none,some (.tup ((cZ C).map λx=>.int (aV C t x))),some (.tup ((cZ C).map λx=>.int (aV C s x))),some (.lst<|(cZ C).map kD)] M;refine iy (λd=>match d with|.int i=>(match (cZ C)[i.toNat]? with|some k=>decide (aV C s k≠aV C t k)|none=>false)|_=>false) (λd=>match d with|.int i=>(match (cZ C)[i.toNat]? with|some k=>kD k|none=>.non)|_=>.non) bd (by simp[bD];lia) (λx a K q=>?_) (λx a _ K q=>?_) ?_
  .simp only[bD,Nu,N7]at a
   obtain⟨i,b,rfl⟩:=a;have e:=MY b;rw[Pl]at q ⊢;simp only[Nw,e]at q;have c:=qb (f:=λx=>D.int (aV C s x)) e;have u:=qb (f:=λx=>D.int (aV C t x)) e;simp![c,u];simpa using q
  .simp only[bD,Nu,N7]at a
   obtain⟨i,b,rfl⟩:=a;have e:=MY b;rw[Pl]at q ⊢;simp only[Nw,e]at q;have c:=qb (f:=kD) e;simp![c];exact q
  .intro p w
   rw[tT (l:=cZ C) (q:=λk=>decide (aV C s k≠aV C t k)) (g:=kD) (λi x e=>by simp only[Nw,e]) (λi x e=>by simp only[Nw,e])]
   exact aq (h p w)
 rw[KJ (n:=0)];unfold xr oa oU;generalize gq ad (aw E)=K at r ⊢;simp only[ao,av,ai,aj,aa,ac,ae,MV,dt,startN,Nb,NM,MZ,Nq,Nh,Nz,NG];refine⟨trivial,j5 o ?_⟩;have j:s.d=.tup [.tup (s.nums.map D.int),.tup (s.pieces.map D.int)]:=rfl;have m:t.d=.tup [.tup (t.nums.map D.int),.tup (t.pieces.map D.int)]:=rfl;have B:=hs.ln;have F:=hs.lp;have A:=ht.ln;have z:=ht.lp;simp![j,m,atI_0,atI_1,gU o hs,gU o ht,MW];refine⟨aZ (by lia),aZ (by lia),?_⟩
 rw[<- j,<- m];exact r
theorem uk{c9:Option D}{cd md pd sd td od:D}{l:Addr}{D':DEnds}{EE:DX}(o:C.Ok)(hl:M l=none)(hmd:IsMx M md ks)
  (h:∀c9,D'.nx [some cd,some md,some pd,some sd,some td,some od,some (.lst<|(cZ C).map kD),some (.ref l),some (.tup ((cZ C).map λx=>.int (aV C t x))),c9,none] (M.upd l<|.lst ((cZ C).map λk=>.int (aV C (if k∈ks then t else s) k)))):
  cJ (bR<|aa (aQ bh<|aa (ac 6) ae) ae) (ah 9) (gy ad EE) D' [some cd,some md,some pd,some sd,some td,some od,some (.lst<|(cZ C).map kD),some (.ref l),some (.tup ((cZ C).map λx=>.int (aV C t x))),c9,none] (M.upd l<|.lst ((cZ C).map λk=>.int (aV C s k))):=by
 have l1:=o.l1;have few:=o.few;have G:=oB (C:=C);have m:∀g,IsMx (M.upd l g) md ks:=λg=>hmd.go λp H e=>by rw[ag (λz=>by rw[z,hl]at e;cases e)];exact e
 simp only[cJ,bR,aQ,aa,ac,ae,bh,bt,MV,dt,MW];refine⟨by lia,by lia,?_⟩
 refine bA (λg U N=>∃(a b:List ax) (c9:Option D),cZ C=a++b/\g=dX a.length b.length/\U=[some cd,some md,some pd,some sd,some td,some od,some (.lst<|(cZ C).map kD),some (.ref l),some (.tup ((cZ C).map λx=>.int (aV C t x))),c9,none]/\N=M.upd l (.lst (a.map (λk=>.int (aV C (if k∈ks then t else s) k))++b.map λk=>.int (aV C s k))))
  (λ_ _ _ _=>bd) ?_ ?_ _ _ _ ⟨[],cZ C,c9,rfl,kb _,rfl,rfl⟩
 .rintro U N ⟨a,b,c9,i,j,rfl,rfl⟩
  have:b=[]:=by cases b with|nil=>rfl|cons _ _=>simp[dX]at j
  subst this;rw[NT]at i;have:=h c9;rw[i]at this ⊢;simpa using this
 .rintro x g U N ⟨a,b,c9,i,j,rfl,rfl⟩ E' r _ _ _
  cases b with
  |nil=>simp[dX]at j
  |cons y b=>
   simp only[MZ,dX,NU]at j;obtain⟨rfl,rfl⟩:=j;have u:(cZ C)[a.length]?=some y:=by rw[i];simp
   have fin:∀v,v=D.int (aV C (if y∈ks then t else s) y)->E'.nx [some cd,some md,some pd,some sd,some td,some od,some (.lst<|(cZ C).map kD),some (.ref l),some (.tup ((cZ C).map λx=>.int (aV C t x))),some (.int (a.length:Nat)),none] (M.upd l<|.lst (a.map (λk=>.int (aV C (if k∈ks then t else s) k))++v::b.map λk=>.int (aV C s k))):=λv F=>
    r _ _ ⟨a++[y],b,_,by simp[i],by simp,rfl,by subst F;simp⟩
   simp only[ah,NH];unfold gy aL;refine Me (k:=y) (ks:=ks) (m _) (λK q=>?_) (λK q=>q) ?_
   .have n:=qb (f:=kD) u
    simp![n];exact q
   by_cases c:y∈ks
   .have:=fin (.int<|aV C t y) (by rw[if_pos c])
    rw[if_pos (by simpa using c)]
    have A:(a.map λk=>D.int (aV C (if k∈ks then t else s) k)).length=a.length:=by simp
    have B:=HR (a:=a.map λk=>D.int (aV C (if k∈ks then t else s) k)) (b:=b.map λk=>D.int (aV C s k)) (x:=D.int (aV C s y))
    rw[A]at B;have w:=Ea (a:=a.map λk=>D.int (aV C (if k∈ks then t else s) k)) (b:=b.map λk=>D.int (aV C s k)) (x:=D.int (aV C s y)) (y:=D.int (aV C t y))
    rw[A]at w;have n:=qb (f:=λx=>D.int (aV C t x)) u;simp![n,B,w,Mem.upd_upd];exact this
   .have:=fin (.int<|aV C s y) (by rw[if_neg c])
    rw[if_neg (by simpa using c)]
    exact this
theorem E8{d:D}(hd:IsMx M d ks)(o:C.Ok)(hs:SOk C s)(ht:SOk C t)(h:Q (fh C s t ks).d M):uX ad [aF C s t,d] M Q E:=by
 have l1:=o.l1;have few:=o.few;have u:=oB (C:=C);have z:=hs.ln;have A:=hs.lp;have y:=ht.ln;have w:=ht.lp;have f:s.d=.tup [.tup (s.nums.map D.int),.tup (s.pieces.map D.int)]:=rfl;have g:t.d=.tup [.tup (t.nums.map D.int),.tup (t.pieces.map D.int)]:=rfl;rw[Ld (n:=0)];unfold xl pM pk oh pL;generalize j:kh ad (aw E)=K;generalize p:cJ (bR<|aa (aQ bh<|aa (ac 6) ae) ae) (ah 9) (gy ad<|aw E)=F;simp![aF];refine j5 o ?_;simp![f,g,atI_0,atI_1,gU o hs,gU o ht,MW];refine⟨aZ (by lia),λl a=>⟨aZ (by lia),?_⟩⟩
 rw[<- p];refine uk (s:=s) (t:=t) (ks:=ks) o a hd λB=>?_;dsimp only;rw[<- j];unfold kh oj Cse.d;have m:((cZ C).map λk=>D.int (aV C (if k∈ks then t else s) k))=(fh C s t ks).nums.map D.int++(fh C s t ks).pieces.map D.int:=by
  simp[cZ,fh,R6]
 have c:(fh C s t ks).nums.length=C.names.length:=by simp[fh]
 rw[m];simp![atI_1,MW,bT,cR];intro v i;simp![Mem.upd_del,af i];intro x r;simp![Mem.upd_del,af r];refine⟨aZ (by simp),M,λb o e=>by rw[ag (λq=>by rw[q,a]at e;cases e)];exact e,?_⟩
 rw[List.take_left' (by simp[c]),List.drop_left' (by simp[c])]
 exact h
theorem nh{d:D}(hd:IsMx M d ks)(o:C.Ok)(hs:SOk C s)(ht:SOk C t)(h:Q (.str<|C.ver s t ks) M):lg ad [aF C s t,d] M Q E:=by
 have a:aF C s t=.tup [C.d,s.d,t.d,.int (C.most:Nat)]:=rfl;have c:ig ad (aw E) { nx:=λ_ M'=>drp Q .non M',rt:=drp Q } [some (aF C s t),some d,some C.d,some s.d,some t.d,some (.int (C.most:Nat)),some (C.mark<|fh C s t ks)] M:=by
  unfold ig;generalize g:jH ad (aw E)=K;simp only[ao,aL,ar,am,ac,ai,aj,aa,ae,MV,dt];refine⟨rfl,fz o hs<|eF ?_⟩;simp only[cI,vc];refine⟨gS,gS,?_⟩;unfold Cse.ver at h
  by_cases e:aI (C.mark<|fh C s t ks) (C.mark s)=true
  .rw[if_pos e]at h ⊢
   exact aq h
  .rw[if_neg e]at h ⊢
   dsimp only[aE];rw[<- g];unfold jH;simp only[aC,am,ac,ai,aj,aa,ae,bn,dC,aQ,MV,dt];refine⟨aZ (by decide),λp f=>vA f ?_⟩
   refine⟨rfl,fz o ht<|eF ?_⟩;simp only[cI,vc];refine⟨gS,gS,?_⟩
   by_cases b:aI (C.mark<|fh C s t ks) (C.mark t)=true
   .rw[if_pos b]at h
    rw[b];exact aq h
   .rw[if_neg b]at h
    rw[Bool.not_eq_true _ |>.mp b]
    exact aq h
 rw[Mb (n:=0)];unfold uK n_;generalize ig ad (aw E)=K at c ⊢;simp only[ao,av,cU,aP,cD,ah,ac,startN,Nb,NM,MZ,Nq,Nh,Nz,NG,MV,dt,a];refine⟨trivial,?_⟩;simp only[NH,ai,aj,aa,ac,ae,MV,dt];rw[<- a];refine⟨rfl,aG (λ_ _ q=>E8 hd o hs ht q) ?_⟩;refine jL ?_;refine⟨rfl,fz o (vC o hs ht)<|eF c⟩
theorem gI{EE:DX}{b:BxQ EE Q}(o:C.Ok)(hs:SOk C s)(ht:SOk C t)(h:Q (.str<|C.ver s t ks) M):calls (lg ad) EE [aF C s t,b8 ks] M Q b:=
 aG (λ_ _ q=>nh .mx o hs ht q) h
end
structure Lo(k:Pt)(b:Nat)(M:Mem)(l:Addr)(xs:List D)(N:Mem):Prop where
 has:Has k b N
 np:l≠k.p
 nq:l≠k.q
 fr:M l=none
 kp:∀x,x≠k.p->x≠k.q->x≠l->N x=M x
 at':N l=some (.lst xs)
section
variable {k:Pt}{b c:Nat}{M N N':Mem}{l:Addr}{xs ys:List D}
theorem Lo.new(h:Has k b M)(hl:M l=none):Lo k b M l xs (M.upd l<|.lst xs):=
 ⟨h.upd (h.nep hl),(h.nep hl).1,(h.nep hl).2,hl,λx _ _ n=>ag n,Mem.upd_same⟩
theorem MU(h0:Has k c M)(d:Dr k b M N)(hl:N l=none):Lo k b M l xs (N.upd l<|.lst xs):=by
 have ne:=d.1.nep hl;exact⟨d.1.upd ne,ne.1,ne.2,by rw[<- d.2 l ne.1 ne.2];exact hl,λx a e n=>by rw[ag n];exact d.2 x a e,Mem.upd_same⟩
theorem Lo.dr(h:Lo k b M l xs N)(d:Dr k c N N'):Lo k c M l xs N':=
 ⟨d.1,h.np,h.nq,h.fr,λx a e n=>by rw[d.2 x a e];exact h.kp x a e n,by rw[d.2 l h.np h.nq];exact h.at'⟩
theorem Lo.put(h:Lo k b M l xs N):Lo k b M l ys (N.upd l<|.lst ys):=
 ⟨h.has.upd ⟨h.np,h.nq⟩,h.np,h.nq,h.fr,λx a e n=>by rw[ag n];exact h.kp x a e n,Mem.upd_same⟩
theorem Lo.le(h:Lo k b M l xs N)(e:c<=b):Lo k c M l xs N:=⟨h.has.le e,h.np,h.nq,h.fr,h.kp,h.at'⟩
theorem Lo.fin(h:Lo k b M l xs N):Dr k b M (N.del l)/\∀x o,(N.del l) x=some o->N x=some o:=by
 have f:∀x,x≠l->(N.del l) x=N x:=λx r=>by unfold Mem.del;rw[if_neg r]
 obtain⟨a,g,m,q,n,j,u,p⟩:=h.has;refine⟨⟨⟨a,g,m,q,n,j,by rw[f _ (N8 h.np)];exact u,by rw[f _ (N8 h.nq)];exact p⟩,λx i s=>?_⟩,λx o e=>?_⟩
 .by_cases c:x=l
  .subst c;unfold Mem.del;rw[if_pos rfl,h.fr]
  .rw[f x c];exact h.kp x i s c
 .by_cases c:x=l
  .subst c;unfold Mem.del at e;rw[if_pos rfl]at e;cases e
  .rw[f x c]at e;exact e
theorem Lo.drp{Q:DK}{d:D}(h:Lo k b M l xs N)(q:∀M',Dr k b M M'->Q d M'):L3.drp Q d N:=⟨N.del l,h.fin.2,q _ h.fin.1⟩
end
theorem CA{te:bp}{k:Pt}{b:Nat}{M:Mem}{items:List D}{Q:List D->Mem->Prop}{bx:BxC (ah 0) bX te (DIt.ok ⟨items,[]⟩) Q}{rest:Dl}{c0:Option D}{xs:List D}(c:Nat)(P:D->Prop)(hl:xs.length<=100000)(hp:Has k (b+c*xs.length) M)
  (he:∀x∈xs,∀N b',Dr k (b'+c) M N->∀K:DK,(∀y N',P y->Dr k b' N N'->K y N')->te (some x::rest) N K) (h:∀ys N,ys.length=xs.length->(∀y∈ys,P y)->Dr k b M N->Q ys N):
  cF (ah 0) bX te (DIt.ok ⟨items,[]⟩) Q bx xs [] (c0::rest) M:=by
 refine bM (λm a U N=>∃(f:List D) (c0:Option D),xs=f++m/\a.length=f.length/\(∀y∈a,P y)/\U=c0::rest/\Dr k (b+c*m.length) M N) (λ_ _ _ _ _=>bd) ?_ ?_ ?_ _ _ _ _ ⟨[],c0,rfl,rfl,by simp,rfl,hp.refl⟩
 .rintro a U N ⟨f,c0,e,g,i,rfl,d⟩
  rw[NT]at e;subst e;exact h a N g i (by simpa using d)
 .rintro y ys a U N ⟨f,c0,e,g,i,rfl,d⟩ N' j _
  have l:=congrArg Oj e;simp only[Nd,MZ]at l;have o:y∈xs:=by rw[e];simp
  have p:Dr k (b+c*ys.length+c) M N:=d.le (by rw[MZ,Nat.mul_succ];lia)
  simp only[ah,NH,bX,if_true];refine he y o N _ p _ λz N2 n s=>j _ _ _ (by rw[g];exact fS (by lia)) ⟨f++[y],_,by simp[e],by simp[g],λw r=>?_,rfl,d.trans s⟩
  rcases Nx.mp r with q|q
  .exact i w q
  .rw[NS]at q;subst q;exact n
 .rintro y ys a U N ⟨f,c0,e,g,i,rfl,d⟩
  have l:=congrArg Oj e;simp only[Nd]at l;rw[g];exact fS (by lia)
section
variable {C:Cse}{s t:Sta}{ad:Ad}{M:Mem}{Q:DK}{E:DX}{k:Pt}{b:Nat}
theorem vk{vs:List Int}(hl:vs.length=C.names.length+C.many)(hv:∀v∈vs,0<=v/\v<C.w):SOk C ⟨vs.take C.names.length,vs.drop C.names.length⟩:=
 ⟨by simp;lia,by simp;lia,λv h=>hv v (Ow h),λv h=>hv v (OR h)⟩
theorem tz{EE:DX}{Q:DK}{l:Addr}{vs:List Int}{N:Mem}{c3 c4:Option D}(hl:vs.length=C.names.length+C.many)(hv:∀v∈vs,0<=v/\v<C.w)(lo:Lo k b M l (vs.map D.int) N)(h:∀s M',SOk C s->Dr k b M M'->Q s.d M'):
  gJ ad EE { nx:=λ_ M'=>drp Q .non M',rt:=drp Q } [some (.ref k.p),some C.d,some (.ref l),c3,c4,none] N:=by
 unfold gJ nM Cse.d;simp![atI_1,MW,lo.at',bT,cR];intro e a;simp![Mem.upd_del,af a,lo.at'];intro f c;simp![Mem.upd_del,af c];refine⟨aZ (by simp),lo.drp λM' d=>?_⟩
 have:=h _ M' (vk hl hv) d;unfold Sta.d cy at this;simpa using this
theorem jd(o:C.Ok)(n5:C.names.length<=5)(m6:C.many<=6)(hp:Has k (b+22) M)(h:∀s M',SOk C s->Dr k b M M'->Q s.d M'):rm ad [.ref k.p,C.d] M Q E:=by
 have Z:=o.m2;have Y:=o.m1;have A:C.d=.tup [.int C.w,.tup (C.names.map D.str),.int (C.many:Nat),.tup (ay C.rows),.str C.mn]:=rfl;rw[MB (n:=0)];unfold wT oz;generalize G:gJ ad (aw E)=K4;generalize i:k6 ad (aw E)=K2;simp![A,atI_1,atI_2,↓cJ,MW];refine⟨aZ (by decide),λl L=>⟨by lia,by lia,?_⟩⟩
 have P:Py ((C.names.length:Int)+(C.many:Int))=C.names.length+C.many:=by lia
 rw[P,<- A]
 refine bA (λe U N=>∃(c:List Int) (B F:Option D),e.length+c.length=C.names.length+C.many/\(∀v∈c,0<=v/\v<C.w)/\U=[some (.ref k.p),some C.d,some (.ref l),B,F,none]/\Lo k (b+2*e.length) M l (c.map D.int) N)
  (λ_ _ _ _=>bd) ?_ ?_ _ _ _ ⟨[],none,none,by simp[bD],by simp,rfl,(Lo.new hp L).le<|by simp[bD];lia⟩
 .rintro U N ⟨c,B,F,z,m,rfl,g⟩
  dsimp only;rw[<- G];exact tz (by simpa using z) m (g.le<|by simp) h
 .rintro x e U N ⟨c,B,F,z,m,rfl,g⟩ D' j _ _ _
  simp only[MZ]at z g;simp only[ah,NH];rw[<- i];unfold k6 nQ;simp![A,atI_0];refine aB (b:=b+2*e.length+1) (g.has.le<|by lia) (by lia) (by lia) λv N1 S K R=>?_
  have a:=g.dr R;simp![a.at'];refine⟨by lia,by lia,aZ (by decide),λp hp=>?_⟩
  simp![Mem.upd_del,af hp];refine aB (b:=b+2*e.length) a.has (by decide) (by decide) λr N2 W X T=>?_
  have f:=a.dr T;obtain⟨u,I,J,O⟩:∃u:Int,atI [D.int v,.int 0,.int (v % 3 % C.w)] r=some (.int u)/\0<=u/\u<C.w:=by
   have:r=0\/r=1\/r=2:=by lia
   rcases this with rfl|rfl|rfl
   .exact⟨_,rfl,S,K⟩
   .exact⟨_,rfl,by lia,by lia⟩
   .exact⟨_,rfl,(cY<|by lia).1,(cY<|by lia).2⟩
  simp![I,f.at',MW];refine⟨fS (by lia),?_⟩
  have:=j [some (.ref k.p),some C.d,some (.ref l),some x,some (.int v),none] (N2.upd l<|.lst<|(c++[u]).map D.int) ⟨c++[u],_,_,by simp;lia,λy H=>?_,rfl,f.put⟩
  .simpa using this
  .rcases Nx.mp H with q|q
   .exact m y q
   .rw[NS]at q;subst q;exact⟨J,O⟩
theorem DY{w:Int}{xs ys:List Int}{c0 c1:Option D}{its:List D}{Q:List D->Mem->Prop}{bx:BxC (cU 2<|aP (ah 0)<|aP (ah 1) cD) bX (am az (ai<|bn<|aa (ac 0)<|aa (ac 1) ae)<|ai<|aj (aX ad) iF 2<|aa (ac 2)<|aa (dC<|.int 2) ae) (DIt.ok ⟨its,[]⟩) Q}
  (hx:∀v∈xs,0<=v/\v<w) (hy:∀v∈ys,0<=v/\v<w) (hl:xs.length=ys.length) (hs:xs.length<=1000) (hp:Has k (b+xs.length) M)
  (h:∀(vs:List Int) N,vs.length=xs.length->(∀v∈vs,0<=v/\v<w)->Dr k b M N->Q (vs.map D.int) N):
  cF (cU 2<|aP (ah 0)<|aP (ah 1) cD) bX (am az (ai<|bn<|aa (ac 0)<|aa (ac 1) ae)<|ai<|aj (aX ad) iF 2<|aa (ac 2)<|aa (dC<|.int 2) ae) (DIt.ok ⟨its,[]⟩) Q bx (iL (xs.map D.int)<|ys.map D.int) [] [c0,c1,some (.ref k.p)] M:=by
 refine bM (λm e U N=>∃(a c vs:List Int) (c0 c1:Option D),m=iL (a.map D.int) (c.map D.int)/\a.length=c.length/\vs.length+a.length=xs.length/\(∀v∈a,0<=v/\v<w)/\(∀v∈c,0<=v/\v<w)/\(∀v∈vs,0<=v/\v<w)/\e=vs.map D.int/\U=[c0,c1,some (.ref k.p)]/\Dr k (b+a.length) M N)
  (λ_ _ _ _ _=>bd) ?_ ?_ ?_ _ _ _ _ ⟨xs,ys,[],c0,c1,rfl,hl,by simp,hx,hy,by simp,rfl,rfl,hp.refl⟩
 .rintro e U N ⟨a,c,vs,c0,c1,f,g,i,_,_,j,rfl,rfl,d⟩
  have:a=[]:=by
   cases a with
   |nil=>rfl
   |cons _ _=>
    cases c with
    |nil=>simp at g
    |cons _ _=>simp[iL]at f
  subst this;exact h vs N (by simpa using i) j (by simpa using d)
 .rintro z m e U N ⟨a,c,vs,c0,c1,f,g,i,l,n,j,rfl,rfl,d⟩ N' A _
  cases a with
  |nil=>simp[iL]at f
  |cons x a=>
   cases c with
   |nil=>simp at g
   |cons y c=>
    simp only[iL,Nb,Pr,NU]at f;obtain⟨rfl,rfl⟩:=f;simp only[MZ]at d i g;simp![];refine⟨aZ (by decide),λp hp=>?_⟩
    simp![Mem.upd_del,af hp];refine aB (b:=b+a.length) (d.1.le<|by lia) (by decide) (by decide) λr N2 G H F=>?_
    obtain⟨u,o,B⟩:∃u:Int,atI [D.int x,.int y] r=some (.int u)/\0<=u/\u<w:=by
     have:r=0\/r=1:=by lia
     rcases this with rfl|rfl
     .exact⟨_,rfl,l x<|by simp⟩
     .exact⟨_,rfl,n y<|by simp⟩
    simp![o];refine A _ _ _ (by rw[MW];exact fS (by lia)) ⟨a,c,vs++[u],_,_,rfl,by lia,by simp;lia,λv q=>l v (Nk _ q),λv q=>n v (Nk _ q),λv q=>?_,by simp,rfl,d.trans F⟩
    rcases Nx.mp q with q|q
    .exact j v q
    .rw[NS]at q;subst q;exact B
 .rintro z m e U N ⟨a,c,vs,c0,c1,f,g,i,l,n,j,rfl,rfl,d⟩
  rw[MW];exact fS (by lia)
theorem qe{w:Int}{xs ys:List Int}{acc:List D}{c1 c2 c3:Option D}{l:Addr}{N:Mem}{D':DEnds}{EE:DX}(hx:∀v∈xs,0<=v/\v<w)(hy:∀v∈ys,0<=v/\v<w)(hl:xs.length=ys.length)(hs:xs.length<=1000)(ha:acc.length<=10)(lo:Lo k (b+xs.length) M l acc N)
  (h:∀(vs:List Int) N,vs.length=xs.length->(∀v∈vs,0<=v/\v<w)->Lo k b M l (acc++[.tup (vs.map D.int)]) N->D'.nx [some (.ref k.p),c1,c2,c3,some (.ref l),some (.tup<|xs.map D.int),some (.tup<|ys.map D.int)] N):
  pB ad EE D' [some (.ref k.p),c1,c2,c3,some (.ref l),some (.tup<|xs.map D.int),some (.tup<|ys.map D.int)] N:=by
 unfold pB;simp only[cb,rV,ac,aQ,aa,ai,aW,t_,ae,MV,dt,bt,cK,lo.at',true_and,cq,NT];refine DY hx hy hl hs lo.has λvs N1 g c e=>λp f=>?_;have a:=lo.dr e;simp only[frz,Mem.upd_same,Mem.upd_del,af f,aJ,cP,cC,a.at'];exact⟨fS (by lia),h vs _ g c a.put⟩
theorem lR(o:C.Ok)(n5:C.names.length<=5)(m6:C.many<=6)(hp:Has k (b+55) M)(h:∀s t M',SOk C s->SOk C t->Dr k b M M'->Q (.tup [s.d,t.d]) M'):EH ad [.ref k.p,C.d] M Q E:=by
 rw[u_q4 (n:=0)];unfold Fe um sB uf;generalize P:pj ad (aw E)=K;simp only[ao,av,ai,aj,aa,ac,ae,MV,dt,startN,Nb,NM,MZ,Nq,Nh,Nz,NG];refine⟨trivial,aA λQ' E' z _=>jd (b:=b+33) o n5 m6 hp λs M1 m I=>z _ _ (jL ?_)⟩;simp only[ah,NH,MV,dt];refine⟨rfl,aA λQ' E' z _=>jd (b:=b+11) o n5 m6 I.1 λu M2 r S=>z _ _ (jL ?_)⟩;simp only[NH,bn,ae,Nq];refine⟨aZ (by decide),λl O=>?_⟩
 have X:=m.ln;have Y:=m.lp;have W:=r.ln;have T:=r.lp;have L:s.d=.tup [.tup (s.nums.map D.int),.tup (s.pieces.map D.int)]:=rfl;have J:u.d=.tup [.tup (u.nums.map D.int),.tup (u.pieces.map D.int)]:=rfl;have R:=MU (xs:=[]) hp (I.trans S) O;simp only[cJ,t_,aa,ac,ae,MV,dt,L,J,bt,cq,NT]
 refine bA (λB U N=>∃G F:Option D,U=[some (.ref k.p),some C.d,some s.d,some u.d,some (.ref l),G,F]/\
  ((B=[.tup [.tup (s.nums.map D.int),.tup (u.nums.map D.int)],.tup [.tup (s.pieces.map D.int),.tup (u.pieces.map D.int)]]/\Lo k (b+11) M l [] N)\/
   (B=[.tup [.tup (s.pieces.map D.int),.tup (u.pieces.map D.int)]]/\∃a:List Int,a.length=C.names.length/\(∀v∈a,0<=v/\v<C.w)/\Lo k (b+6) M l [.tup (a.map D.int)] N)\/
   (B=[]/\∃a i:List Int,a.length=C.names.length/\(∀v∈a,0<=v/\v<C.w)/\i.length=C.many/\(∀v∈i,0<=v/\v<C.w)/\Lo k b M l [.tup (a.map D.int),.tup (i.map D.int)] N)))
  (λ_ _ _ _=>bd) ?_ ?_ _ _ _ ⟨none,none,rfl,.inl ⟨rfl,R⟩⟩
 .rintro U N ⟨G,F,rfl,⟨e,_⟩|⟨e,_⟩|⟨_,a,i,y,q,H,g,c⟩⟩
  .cases e
  .cases e
  dsimp only;rw[<- P];unfold pj;simp only[aC,b9,aa,ac,ae,aQ,MV,dt,aJ,cP,c.at'];refine⟨aZ (by simp),c.drp λM' d=>?_⟩
  exact h s ⟨a,i⟩ M' m ⟨y,H,q,g⟩ d
 .rintro x xs U N ⟨G,F,rfl,⟨e,A⟩|⟨e,a,y,q,f⟩|⟨e,_⟩⟩ D' j _ _ _
  .cases e
   simp only[cU,aP,cD,ah,NH,MZ,Nq,true_and];refine qe (b:=b+6) (w:=C.w) m.rn r.rn (by lia) (by lia) (by simp) (A.le<|by lia) λa N1 y q f=>j _ _ ⟨_,_,rfl,.inr<|.inl ⟨rfl,a,by lia,q,f⟩⟩
  .cases e
   simp only[cU,aP,cD,ah,NH,MZ,Nq,true_and];refine qe (b:=b) (w:=C.w) m.rp r.rp (by lia) (by lia) (by simp) (f.le<|by lia) λi N1 H g c=>j _ _ ⟨_,_,rfl,.inr<|.inr ⟨rfl,a,i,y,q,by lia,g,c⟩⟩
  .cases e
end
section
variable {C:Cse}{s t:Sta}{ad:Ad}{M:Mem}{Q:DK}{E:DX}{k:Pt}{b:Nat}
theorem w8{xs:List Int}{i:Int}(h0:0<=i)(h1:i<xs.length):∃v,v∈xs/\xs[i.toNat]?=some v/\atI (xs.map D.int) i=some (.int v):=by
 have a:i.toNat<xs.length:=by lia
 exact⟨xs[i.toNat],Om a,MY a,by rw[bO h0,Nr,MY a];rfl⟩
theorem sK{xs ys:List Int}{few turn j:Int}{c0 c1 c2 c3 c9 c10:Option D}{l:Addr}{N:Mem}{D':DEnds}{EE:DX}(hx:∀v∈xs,0<=v/\v<C.w)(hy:∀v∈ys,0<=v/\v<C.w)(hl:xs.length=ys.length)(h0:0<xs.length)(lo:Lo k b M l (ys.map D.int) N)
  (h:∀(ys':List Int) (few':Int) c9 N',ys'.length=ys.length->(∀v∈ys',0<=v/\v<C.w)->Lo k b M l (ys'.map D.int) N'->D'.nx [c0,c1,c2,c3,some (.int few'),some (.lst<|xs.map D.int),some (.ref l),some (.int turn),some (.int j),c9,c10] N'):
  gA ad EE D' [c0,c1,c2,c3,some (.int few),some (.lst<|xs.map D.int),some (.ref l),some (.int turn),some (.int j),c9,c10] N:=by
 have a:=cY (a:=j+turn) (m:=(xs.length:Nat)) (by lia)
 obtain⟨v,c,_,g⟩:=w8 (xs:=xs) a.1 a.2;obtain⟨u,o,_,f⟩:=w8 (xs:=ys) (i:=(j+turn) % (xs.length:Nat)) a.1 (by rw[<- hl];exact a.2)
 have n:r_ ys.length ((j+turn) % (xs.length:Nat))=some ((j+turn) % (xs.length:Nat)).toNat:=tZ a.1 (by rw[<- hl];exact a.2)
 unfold gA pz nU;simp![MW,lo.at',g,f];refine⟨by lia,?_⟩
 by_cases c1:v=u
 .simp only[c1,decide_true,OV,Nv,if_false]
  exact h ys few _ N rfl hy lo
 .simp only[c1,decide_false,OF,if_true]
  by_cases c2:few=0
  .rw[if_pos c2]
   simp only[MW,n];have:=h (ys.set ((j+turn) % (xs.length:Nat)).toNat v) few (some<|.int<|(j+turn) % (xs.length:Nat)) _ (by simp) (λz e=>?_) (lo.put (ys:=(ys.set ((j+turn) % (xs.length:Nat)).toNat v).map D.int))
   .rw[List.map_set]at this
    exact this
   .rcases List.mem_or_eq_of_mem_set e with q|q
    .exact hy z q
    .subst q;exact hx z c
  .rw[if_neg c2]
   exact h ys _ _ N rfl hy lo
theorem qr(k:SOk C s):∀v∈s.nums++s.pieces,0<=v/\v<C.w:=λv h=>by
 rcases Nx.mp h with q|q
 .exact k.rn v q
 .exact k.rp v q
theorem tH{few:Int}(o:C.Ok)(n5:C.names.length<=5)(m6:C.many<=6)(hs:SOk C s)(ht:SOk C t)(hp:Has k (b+1) M)(h:∀t M',SOk C t->Dr k b M M'->Q t.d M'):vD ad [.ref k.p,C.d,s.d,t.d,.int few] M Q E:=by
 have z1:=hs.ln;have z2:=hs.lp;have z3:=ht.ln;have z4:=ht.lp;have l0:=o.l0;have L:s.d=.tup [.tup (s.nums.map D.int),.tup (s.pieces.map D.int)]:=rfl;have O:t.d=.tup [.tup (t.nums.map D.int),.tup (t.pieces.map D.int)]:=rfl;have ed:C.d=.tup [.int C.w,.tup (C.names.map D.str),.int (C.many:Nat),.tup (ay C.rows),.str C.mn]:=rfl;have Y:(s.nums++s.pieces).length=C.names.length+C.many:=by simp;lia
 have S:(t.nums++t.pieces).length=C.names.length+C.many:=by simp;lia
 have X:((s.nums++s.pieces).map D.int).length=C.names.length+C.many:=by rw[MW];exact Y
 rw[LZ (n:=0)];unfold vW pA pv oF;generalize G:k4 ad (aw E)=K5;generalize u:gA ad (aw E)=K3;simp![L,O,atI_0,atI_1,MW,<- Ol,↓cJ];refine⟨aZ (by lia),λP B=>?_⟩
 simp only[Mem.upd_del,af B];refine⟨aZ (by lia),λl T=>?_⟩
 have i:=Lo.new (xs:=(t.nums++t.pieces).map D.int) hp T;refine aB (b:=b) i.has (by lia) (by lia) λc N1 a1 b1 W=>?_
 have A:=i.dr W;simp![MW];refine⟨by lia,by lia,?_⟩
 refine bA (λxs U N=>(∀x∈xs,∃j,x=D.int j)/\∃(a:List Int) (few:Int) (J m:Option D),a.length=C.names.length+C.many/\(∀v∈a,0<=v/\v<C.w)/\U=[some (.ref k.p),some C.d,some s.d,some t.d,some (.int few),some (.lst<|(s.nums++s.pieces).map D.int),some (.ref l),some (.int c),J,m,none]/\Lo k b M l (a.map D.int) N)
  (λ_ _ _ _=>bd) ?_ ?_ _ _ _ ⟨?_,_,_,_,_,S,qr ht,rfl,A⟩
 .rintro U N ⟨_,a,few,J,m,K,r,rfl,g⟩
  dsimp only;rw[<- G];unfold k4 pK Cse.d;simp![atI_1,MW,g.at',bT,cR];intro P B;simp![Mem.upd_del,af B,g.at'];intro p2 Z;simp![Mem.upd_del,af Z];refine⟨aZ (by simp),g.drp λM' d=>?_⟩
  have:=h _ M' (vk K r) d;unfold Sta.d cy at this;simpa using this
 .rintro x xs U N ⟨f,a,few,J,m,K,r,rfl,g⟩ D' F _ _ _
  obtain⟨j,rfl⟩:=f x (by simp)
  simp only[ah,NH];rw[<- u];exact sK (qr hs) r (by lia) (by lia) g λH e m N' R z I=>F _ _ ⟨λy q=>f y (Nk _ q),H,e,_,_,by lia,z,rfl,I⟩
 .intro x f
  simp only[bD,Nu]at f;obtain⟨j,_,rfl⟩:=f;exact⟨_,rfl⟩
theorem oA(o:C.Ok)(n5:C.names.length<=5)(hp:Has k (b+3) M)(h:∀r M',RwOk C.names C.w C.many r->Dr k b M M'->Q r.d M'):Df ad [.ref k.p,C.d] M Q E:=by
 have l0:=o.l0;have A:C.d=.tup [.int C.w,.tup (C.names.map D.str),.int (C.many:Nat),.tup (ay C.rows),.str C.mn]:=rfl;rw[u_q8 (n:=0)];unfold Ey sQ sC;generalize g:pT ad (aw E)=K;simp![A,atI_1];refine⟨aZ (by decide),λO f=>?_⟩
 simp![Mem.upd_del,af f];refine aB (b:=b+2) hp (by decide) (by decide) λr N1 U T d1=>?_
 obtain⟨v,B,z⟩:∃v:Str,atI [D.str "sum",.str "by",.str "less",.str "same"] r=some (.str v)/\(v="sum"\/v="by"\/v="less"\/v="same"):=by
  have:r=0\/r=1\/r=2\/r=3:=by lia
  rcases this with rfl|rfl|rfl|rfl
  .exact⟨_,rfl,.inl rfl⟩
  .exact⟨_,rfl,.inr<|.inl rfl⟩
  .exact⟨_,rfl,.inr<|.inr<|.inl rfl⟩
  .exact⟨_,rfl,.inr<|.inr<|.inr rfl⟩
 simp![B,↓aW];refine⟨by decide,by decide,?_⟩
 refine CA (k:=k) (b:=b) 1 (λd=>∃x,d=.str x/\x∈C.names) (by simp[bD]) (by simpa [bD] using d1.1) (λx S N u d K g=>?_) λj N2 I m i=>?_
 .have G:(C.names.map D.str).length=C.names.length:=MW _
  simp![];refine aB (b:=u) d.1 (by lia) (by lia) λR N2 H P i=>?_
  obtain⟨y,l,q⟩:=xF (names:=C.names) H (by lia)
  simp![q];exact g _ _ ⟨y,rfl,l⟩ i
 .intro p hp
  obtain⟨c,a,rfl⟩:∃c a,j=[c,a]:=by
   have e:j.length=2:=by rw[I];rfl
   match j,e with
   |[c,a],_=>exact⟨c,a,rfl⟩
  obtain⟨F,rfl,f⟩:=m c (by simp)
  obtain⟨J,rfl,L⟩:=m a (by simp)
  simp![Mem.upd_del,af hp];rw[<- g];unfold pT;simp![atI_4];exact⟨aZ (by decide),aq<|h (.two v C.mn F J) _ ⟨z,o.mn,f,L⟩<|d1.trans i⟩
end
theorem qu{C:Cse}{s:Sta}{m:Nat}(h1:(C.run s).1=true)(h2:(C.run s).2.steps.length<=m):({ C with most:=m }:Cse).run s=C.run s:=by
 have a:(bg (C.cf s) C.rows [] 0 ⟨C.names.zip s.nums,[]⟩).1=true:=h1;have b:(bg (C.cf s) C.rows [] 0 ⟨C.names.zip s.nums,[]⟩).2.steps.length<=m:=h2;show bg ⟨C.w,s.pieces,m⟩ C.rows [] 0 ⟨C.names.zip s.nums,[]⟩=bg (C.cf s) C.rows [] 0 ⟨C.names.zip s.nums,[]⟩
 by_cases c:C.most<=m
 .exact(dm (c:=C.cf s) (c':=⟨C.w,s.pieces,m⟩) ⟨rfl,rfl,c⟩ C.rows [] 0 ⟨C.names.zip s.nums,[]⟩<|N5 _).1 a
 .have q:=dm (c:=⟨C.w,s.pieces,m⟩) (c':=C.cf s) ⟨rfl,rfl,by show m<=C.most;lia⟩ C.rows [] 0 ⟨C.names.zip s.nums,[]⟩ (N5 _)
  rcases oM (bg ⟨C.w,s.pieces,m⟩ C.rows [] 0 ⟨C.names.zip s.nums,[]⟩).1 with e|e
  .have:=(q.2 e).2 a
   have this:m<_:=this;lia
  .exact(q.1 e).symm
section
variable {k1 k2:Hk}{c1 c2:Cf}{l1 l2:Int}{n1 n2:iA}{r1 r2:List Int}{M N:Mem}{x:Addr}
theorem dM(e1:x≠k1.h)(e2:x≠k1.dn)(e3:x≠k1.lr):hM k1 c1 l1 n1 r1 M x=M x:=by unfold hM;rw[ag e3,ag e2,ag e1]
theorem nL(h:hM k1 c1 l1 n1 r1 M x=none):x≠k1.h/\x≠k1.dn/\x≠k1.lr/\M x=none:=by
 have c:x≠k1.h:=λe=>by rw[e,eQ]at h;cases h
 have a:x≠k1.dn:=λe=>by rw[e,dg]at h;cases h
 have b:x≠k1.lr:=λe=>by rw[e,nA]at h;cases h
 rw[dM c a b]at h;exact⟨c,a,b,h⟩
structure Apart(k1 k2:Hk):Prop where
 h:k2.h≠k1.h/\k2.h≠k1.dn/\k2.h≠k1.lr
 d:k2.dn≠k1.h/\k2.dn≠k1.dn/\k2.dn≠k1.lr
 l:k2.lr≠k1.h/\k2.lr≠k1.dn/\k2.lr≠k1.lr
theorem pU(a:Apart k1 k2):hM k2 c2 l2 n2 r2 (hM k1 c1 l1 n1 r1 M)=hM k1 c1 l1 n1 r1 (hM k2 c2 l2 n2 r2 M):=by
 funext x
 by_cases i:x=k1.h
 .subst i;rw[dM a.h.1.symm a.d.1.symm a.l.1.symm,eQ,eQ]
 by_cases f:x=k1.dn
 .subst f;rw[dM a.h.2.1.symm a.d.2.1.symm a.l.2.1.symm,dg,dg]
 by_cases b:x=k1.lr
 .subst b;rw[dM a.h.2.2.symm a.d.2.2.symm a.l.2.2.symm,nA,nA]
 rw[dM (k1:=k1) i f b]
 by_cases g:x=k2.h
 .subst g;rw[eQ,eQ]
 by_cases c:x=k2.dn
 .subst c;rw[dg,dg]
 by_cases e:x=k2.lr
 .subst e;rw[nA,nA]
 rw[dM g c e,dM g c e,dM i f b]
theorem Kq.hm{k:Pt}{b:Nat}(K:Kq k b M N)(z1:N k1.h=none)(z2:N k1.dn=none)(z3:N k1.lr=none):Kq k b M (hM k1 c1 l1 n1 r1 N):=by
 refine⟨?_,λx o a c e=>sO z1 z2 z3 x o (K.kp x o a c e)⟩;unfold hM;exact((K.has.upd<|K.has.nep z1).upd<|K.has.nep z2).upd (K.has.nep z3)
theorem Kq.le{k:Pt}{b c:Nat}(K:Kq k b M N)(e:c<=b):Kq k c M N:=⟨K.has.le e,K.kp⟩
theorem Has.kq{k:Pt}{b:Nat}(h:Has k b M):Kq k b M M:=⟨h,λ_ _ _ _ e=>e⟩
end
structure CsOk(C:Cse)(s t:Sta):Prop where
 o:C.Ok
 hs:SOk C s
 ht:SOk C t
 n:NmOk C.names
 m:C.many<=6
 e:∃a b:Int,C.mark s=.int a/\C.mark t=.int b/\a≠b
section
variable {C:Cse}{s t:Sta}{ad:Ad}{M N:Mem}{Q:DK}{E:DX}{k:Pt}{b:Nat}
theorem Bq{few:D}{EE:DX}{D':DEnds}{c5 c6 c11 c12 c13 c14:Option D}{r0:D}{k1 k2:Hk}{rd1 rd2:List Int}{N:Mem}(o:C.Ok)(n5:NmOk C.names)(m6:C.many<=6)(mo:C.most<=1000)(hs:SOk C s)(ht:SOk C t)(a:Apart k1 k2)(g1:(C.run s).1=true)(g2:(C.run t).1=true)(hne:nm (C.run s).2.nums C.mn≠nm (C.run t).2.nums C.mn)
  (K:Kq k (b+2) M (hS k2 (C.cf t) (C.run t).2 rd2<|hS k1 (C.cf s) (C.run s).2 rd1 N)) (hrt:∀C' s t N',CsOk C' s t->Kq k b M N'->D'.rt (aF C' s t) N'):
  hV ad EE D' [some (.ref k.p),some r0,some (.int (C.most:Nat)),some few,some C.d,c5,c6,some s.d,some t.d,some (.ref k1.h),some (.ref k2.h),c11,c12,c13,c14] (hS k2 (C.cf t) (C.run t).2 rd2<|hS k1 (C.cf s) (C.run s).2 rd1 N):=by
 have i:hS k2 (C.cf t) (C.run t).2 rd2 (hS k1 (C.cf s) (C.run s).2 rd1 N) k1.h=some (.dK<|hD k1 (C.cf s) ((C.most:Int)-(C.run s).2.steps.length)):=by
  unfold hS;rw[dM a.h.1.symm a.d.1.symm a.l.1.symm,eQ];rfl
 have j:hS k2 (C.cf t) (C.run t).2 rd2 (hS k1 (C.cf s) (C.run s).2 rd1 N) k2.h=some (.dK<|hD k2 (C.cf t) ((C.most:Int)-(C.run t).2.steps.length)):=by unfold hS;rw[eQ];rfl
 generalize hS k2 (C.cf t) (C.run t).2 rd2 (hS k1 (C.cf s) (C.run s).2 rd1 N)=N1 at K i j ⊢;unfold hV oR;simp![i,j,u_];refine aB (b:=b+1) K.has (by decide) (by decide) λr N2 z B n=>?_
 obtain⟨m,w,g,f,e⟩:∃m:Nat,((C.most:Int)-(if (C.most:Int)-(C.run t).2.steps.length<(C.most:Int)-(C.run s).2.steps.length then (C.most:Int)-(C.run t).2.steps.length else (C.most:Int)-(C.run s).2.steps.length)+r=(m:Nat))/\(C.run s).2.steps.length<=m/\(C.run t).2.steps.length<=m/\m<=10000:=by
  have H:(C.run s).2.steps.length<=C.most:=(cB (c:=C.cf s) C.rows [] 0 ⟨C.names.zip s.nums,[]⟩).2 (N5 _);have A:(C.run t).2.steps.length<=C.most:=(cB (c:=C.cf t) C.rows [] 0 ⟨C.names.zip t.nums,[]⟩).2 (N5 _)
  split
  .exact⟨(C.run t).2.steps.length+r.toNat,by lia,by lia,by lia,by lia⟩
  .exact⟨(C.run s).2.steps.length+r.toNat,by lia,by lia,by lia,by lia⟩
 simp![w];refine⟨aZ (by decide),λp x=>?_⟩
 simp![Mem.upd_del,af x];refine aB (b:=b) n.1 (by decide) (by decide) λq N3 F G u=>?_
 have fin:∀m:Nat,m<=10000->(C.run s).2.steps.length<=m->(C.run t).2.steps.length<=m->D'.rt (.tup [C.d,s.d,t.d,.int (m:Nat)]) N3:=λm mo y v=>by
  refine hrt { C with most:=m } s t N3 ⟨⟨o.m2,o.m1,o.few,mo,o.nd,o.l0,o.l1,o.ok,o.h,o.mn⟩,⟨hs.ln,hs.lp,hs.rn,hs.rp⟩,⟨ht.ln,ht.lp,ht.rn,ht.rp⟩,n5,m6,nm (C.run s).2.nums C.mn,nm (C.run t).2.nums C.mn,?_,?_,hne⟩ ?_
  .unfold Cse.mark;rw[qu g1 y];unfold mL;rw[if_pos g1]
  .unfold Cse.mark;rw[qu g2 v];unfold mL;rw[if_pos g2]
  .exact(K.trans n.kq).trans u.kq
 have:q=0\/q=1:=by lia
 rcases this with rfl|rfl
 .simp only[atI_0,dt]
  refine⟨aZ (by simp),fin C.most (by lia) ?_ ?_⟩
  .exact(cB (c:=C.cf s) C.rows [] 0 ⟨C.names.zip s.nums,[]⟩).2 (N5 _)
  .exact(cB (c:=C.cf t) C.rows [] 0 ⟨C.names.zip t.nums,[]⟩).2 (N5 _)
 .simp only[atI_1,dt,MV]
  exact⟨aZ (by simp),fin m e g f⟩
end
section
variable {C:Cse}{s t:Sta}{ad:Ad}{M N:Mem}{Q:DK}{E:DX}{k:Pt}{b:Nat}
theorem e0S{c:Cf}{n:iA}{kk:Hk}:hM kk c (c.most:Nat) n [] M=hS kk c ⟨n,[]⟩ [] M:=by unfold hS;simp
theorem xO{EE:DX}{bx:BxQ EE Q}{kk:Hk}(o:C.Ok)(hs:SOk C s)(h1:∀rd,(C.run s).1=true->Q (.bl true) (hS kk (C.cf s) (C.run s).2 rd M))(h2:∀l n rd,(C.run s).1=false->Q (.bl false) (hM kk (C.cf s) l n rd M)):
  calls (Sy ad 24) EE [.ref kk.h,.tup (ay C.rows)] (hS kk (C.cf s) ⟨C.names.zip s.nums,[]⟩ [] M) Q bx:=by
 have p:=o.pl hs;exact aA λQ' E' c _=>t3 p.co p.l1 24 C.rows [] 0 ⟨C.names.zip s.nums,[]⟩ [] M Q' E' p.ok (by have:=p.h;omega) p.nok (N5 _) (by simp) (λa e _=>c _ _ (h1 a e)) (λl n a g=>c _ _ (h2 l n a g))
theorem Kw{few:D}{EE:DX}{D':DEnds}{c5 c6 c11 c12 c13 c14:Option D}{r0:D}{k1 k2:Hk}{N:Mem}(o:C.Ok)(n5:NmOk C.names)(m6:C.many<=6)(mo:C.most<=1000)(hs:SOk C s)(ht:SOk C t)(a:Apart k1 k2)(z1:N k1.h=none/\N k1.dn=none/\N k1.lr=none)(z2:N k2.h=none/\N k2.dn=none/\N k2.lr=none)
  (K:Kq k (b+2) M N) (hnx:∀c11 N',Kq k b M N'->D'.nx [some (.ref k.p),some r0,some (.int (C.most:Nat)),some few,some C.d,c5,c6,some s.d,some t.d,some (.ref k1.h),some (.ref k2.h),c11,c12,c13,c14] N') (hrt:∀C' s t N',CsOk C' s t->Kq k b M N'->D'.rt (aF C' s t) N'):
  gu ad EE D' [some (.ref k.p),some r0,some (.int (C.most:Nat)),some few,some C.d,c5,c6,some s.d,some t.d,some (.ref k1.h),some (.ref k2.h),c11,c12,c13,c14] (hM k2 (C.cf t) (C.most:Nat) (C.names.zip t.nums) []<|hM k1 (C.cf s) (C.most:Nat) (C.names.zip s.nums) [] N):=by
 have r:∀l n j v q i,Kq k (b+2) M (hM k1 (C.cf s) l n j<|hM k2 (C.cf t) v q i N):=λl n j v q i=>(K.hm z2.1 z2.2.1 z2.2.2).hm (by rw[dM a.h.1.symm a.d.1.symm a.l.1.symm];exact z1.1) (by rw[dM a.h.2.1.symm a.d.2.1.symm a.l.2.1.symm];exact z1.2.1) (by rw[dM a.h.2.2.symm a.d.2.2.symm a.l.2.2.symm];exact z1.2.2)
 have u:∀l n j v q i,Kq k (b+2) M (hM k2 (C.cf t) l n j<|hM k1 (C.cf s) v q i N):=λl n j v q i=>by rw[pU a];exact r _ _ _ _ _ _
 have y:NOk C.names (C.cf s).m (C.run s).2.nums:=cS (o.pl hs).co C.rows (o.pl hs).ok [] 0 ⟨C.names.zip s.nums,[]⟩ (o.pl hs).nok;have x:NOk C.names (C.cf t).m (C.run t).2.nums:=cS (o.pl ht).co C.rows (o.pl ht).ok [] 0 ⟨C.names.zip t.nums,[]⟩ (o.pl ht).nok;have B:C.d=.tup [.int C.w,.tup (C.names.map D.str),.int (C.many:Nat),.tup (ay C.rows),.str C.mn]:=rfl;unfold gu;generalize z:hV ad EE=K4;generalize I:ar (am iX (am az (am az (ac 9)<|dC<|.str "numbers")<|am az (ac 4)<|dC<|.int 4)<|am az (am az (ac 10)<|dC<|.str "numbers")<|am az (ac 4)<|dC<|.int 4)=TT;rw[pU a];simp![B,atI_3];rw[show ((C.most:Nat):Int)=((C.cf s).most:Nat) from rfl,e0S];refine xO o hs (λe P=>?_) λl n j g=>?_
 .simp![]
  have H:hS k1 (C.cf s) (C.run s).2 e (hM k2 (C.cf t) ((C.cf s).most:Nat) (C.names.zip t.nums) [] N)=hS k2 (C.cf t) ⟨C.names.zip t.nums,[]⟩ [] (hS k1 (C.cf s) (C.run s).2 e N):=by
   rw[<- e0S];unfold hS;rw[<- pU a];rfl
  rw[H];refine xO o ht (λf O=>?_) λl n j g=>?_
  .have J:hS k2 (C.cf t) (C.run t).2 f (hS k1 (C.cf s) (C.run s).2 e N) k1.h=some (.dK<|hD k1 (C.cf s) ((C.most:Int)-(C.run s).2.steps.length)):=by
    unfold hS;rw[dM a.h.1.symm a.d.1.symm a.l.1.symm,eQ];rfl
   have G:hS k2 (C.cf t) (C.run t).2 f (hS k1 (C.cf s) (C.run s).2 e N) k2.h=some (.dK<|hD k2 (C.cf t) ((C.most:Int)-(C.run t).2.steps.length)):=by unfold hS;rw[eQ];rfl
   have L:hS k2 (C.cf t) (C.run t).2 f (hS k1 (C.cf s) (C.run s).2 e N) k1.dn=some (.dK<|dG (C.run s).2.nums):=by
    unfold hS;rw[dM a.h.2.1.symm a.d.2.1.symm a.l.2.1.symm,dg]
   have F:hS k2 (C.cf t) (C.run t).2 f (hS k1 (C.cf s) (C.run s).2 e N) k2.dn=some (.dK<|dG (C.run t).2.nums):=by unfold hS;rw[dg]
   have A:Kq k (b+2) M (hS k2 (C.cf t) (C.run t).2 f<|hS k1 (C.cf s) (C.run s).2 e N):=u _ _ _ _ _ _;simp![];rw[<- I];simp![B,J,G,L,F,gl,atI_4,cQ,(y.at o.mn).1,(x.at o.mn).1,OG]
   by_cases c:nm (C.run s).2.nums C.mn=nm (C.run t).2.nums C.mn
   .simp only[c,decide_true,OV,Nv,if_false]
    exact hnx _ _ (A.le<|by omega)
   .simp only[c,decide_false,OF,if_true]
    rw[<- z];exact Bq o n5 m6 mo hs ht a P O c A hrt
  .simp![]
   exact hnx _ _ ((u _ _ _ _ _ _).le<|by omega)
 .simp![]
  exact hnx _ _ ((r _ _ _ _ _ _).le<|by omega)
theorem kX{EE:DX}{bx:BxQ EE Q}(o:C.Ok)(hs:SOk C s)(h:∀kk:Hk,M kk.h=none->M kk.dn=none->M kk.lr=none->Q (.ref kk.h) (hM kk (C.cf s) (C.most:Nat) (C.names.zip s.nums) [] M)):
  calls (kU ad) EE [C.d,s.d,.int (C.most:Nat)] M Q bx:=by
 have p:=o.pl hs;rw[hs.pd];exact aA λQ' E' a _=>lH (c:=C.cf s) p.ln p.nd p.l0 p.l1 λkk f g e=>a _ _ (h kk f g e)
theorem yy{few:Int}{EE:DX}{D':DEnds}{c5 c6 c7 c8 c9 c10 c11 c12 c13 c14:Option D}{r0:D}(o:C.Ok)(n5:NmOk C.names)(m6:C.many<=6)(mo:C.most<=1000)
  (K:Kq k (b+58) M N) (hnx:∀c7 c8 c9 c10 c11 N',Kq k b M N'->D'.nx [some (.ref k.p),some r0,some (.int (C.most:Nat)),some (.int few),some C.d,c5,c6,c7,c8,c9,c10,c11,c12,c13,c14] N') (hrt:∀C' s t N',CsOk C' s t->Kq k b M N'->D'.rt (aF C' s t) N'):
  il ad EE D' [some (.ref k.p),some r0,some (.int (C.most:Nat)),some (.int few),some C.d,c5,c6,c7,c8,c9,c10,c11,c12,c13,c14] N:=by
 unfold il nX oo nY;generalize e:gu ad EE=K5;simp only[ao,av,ai,aj,aa,ac,ae,MV,dt];refine⟨rfl,aA λQ' E' h _=>lR (b:=b+3) o n5.n1 m6 (K.has.le<|by omega) λs O N1 c a l=>h _ _ ?_⟩
 simp only[frz,cU,aP,cD,ah,NH,MZ,Nq,MV,dt];refine⟨trivial,rfl,aA λQ' E' h _=>tH (b:=b+2) o n5.n1 m6 c a l.1 λt N2 j w=>h _ _ (jL ?_)⟩;simp only[NH,MV,dt];refine⟨rfl,kX o c λL u J y=>?_⟩;simp only[NH,MV,dt];refine⟨rfl,kX o j λP G x m=>?_⟩;simp only[NH];rw[<- e];obtain⟨v,I,A,q⟩:=nL G;obtain⟨r,F,H,B⟩:=nL x;obtain⟨n,f,g,i⟩:=nL m;exact Kw o n5 m6 mo c j ⟨⟨v,I,A⟩,⟨r,F,H⟩,⟨n,f,g⟩⟩ ⟨u,J,y⟩ ⟨q,B,i⟩ ((K.trans l.kq).trans w.kq) (λc11 N' z=>hnx _ _ _ _ _ _ z) hrt
theorem yL{EE:DX}{D':DEnds}{c1 c3 c5 c6 c7 c8 c9 c10 c11:Option D}(o:C.Ok)(n5:NmOk C.names)(m6:C.many<=6)(hrt:∀C' s t,CsOk C' s t->D'.rt (aF C' s t) M):
  fJ ad EE D' [some (.ref k.p),c1,some (.int (C.most:Nat)),c3,some C.d,c5,c6,c7,c8,c9,c10,c11,none,none,none] M:=by
 have A:=n5.n1;have l0:=o.l0;have O:=o.m2;have L:=o.m1;have j:C.d=.tup [.int C.w,.tup (C.names.map D.str),.int (C.many:Nat),.tup (ay C.rows),.str C.mn]:=rfl;have rep:∀n:Nat,(Nh n [D.int 0]).flatten=(Nh n (0:Int)).map D.int:=λn=>by
  induction n with
  |zero=>rfl
  |succ n ih=>rw[NI,OI,ih,NI];rfl
 have g:∀(n:Nat) (v:Int),v∈Nh n (0:Int)->0<=v/\v<C.w:=λn v h=>by
  have:=List.eq_of_mem_replicate h;omega
 have G:∀(l:List Str) (n:Nat),nm (l.zip<|Nh n (0:Int)) C.mn=0:=λl=>by
  induction l with
  |nil=>intro n;rfl
  |cons y l ih=>
   intro n;cases n with
   |zero=>rfl
   |succ n=>
    by_cases c:y=C.mn
    .simp[NI,nm,gN,c]
    .have:=ih n
     simp[NI,nm,gN,c]at this ⊢;exact this
 have I:nm (C.names.zip (C.names.map λx=>if x=C.mn then (1:Int) else 0)) C.mn=1:=by
  have i:=o.mn;generalize C.names=l at i
  induction l with
  |nil=>simp at i
  |cons y l ih=>
   by_cases c:y=C.mn
   .simp[nm,gN,c]
   .have:=ih (by rcases Nl.mp i with q|q;exact absurd q.symm c;exact q)
    simp[nm,gN,c]at this ⊢;exact this
 have z:CsOk { C with rows:=[] } ⟨Nh C.names.length 0,Nh C.many 0⟩ ⟨C.names.map λx=>if x=C.mn then (1:Int) else 0,Nh C.many 0⟩:=by
  refine⟨⟨o.m2,o.m1,o.few,o.most,o.nd,o.l0,o.l1,trivial,by simp[g7],o.mn⟩,⟨by simp,by simp,g _,g _⟩,⟨by simp,by simp,λv r=>?_,g _⟩,n5,m6,0,1,?_,?_,by decide⟩
  .simp only[Nu]at r
   obtain⟨x,_,rfl⟩:=r;show _/\_<C.w
   split<;>omega
  .unfold Cse.mark mL Cse.run f_
   simp only[bg,if_true];rw[G]
  .unfold Cse.mark mL Cse.run f_
   simp only[bg,if_true];rw[I]
 have f:∀a b c d e:D,ff [a,b,c,d,e] none (some 3)=[a,b,c]:=λa b c d e=>bT (k:=3);unfold fJ m7 kW;generalize H:gF ad EE=K;simp![j,atI_1,atI_2,MW,rep,Nw,aW];refine⟨aZ (by decide),by simp,by omega,by omega,by decide,aZ (by decide),by simp,by omega,by omega,by decide,?_⟩
 show cF _ _ _ _ _ _ _ _ [none,some C.d] M;refine dD (λd=>match d with|.str x=>.int (if x=C.mn then 1 else 0)|_=>.non) bd (by simp;omega) (λx B K q=>?_) ?_
 .obtain⟨y,J,rfl⟩:=Nu.mp B
  simp![j,atI_4]
  by_cases c:y=C.mn
  .simp only[c,decide_true,if_true]at q ⊢
   exact q
  .simp only[c,decide_false,if_false,Nv]at q ⊢
   exact q
 intro p F;have m:(C.names.map D.str).length=C.names.length:=MW _;simp![Mem.upd_del,af F,rep,m,Nw];rw[<- H];unfold gF;have u:(C.names.map D.str).map (λd=>match d with|.str x=>D.int (if x=C.mn then 1 else 0)|_=>.non)=(C.names.map λx=>if x=C.mn then (1:Int) else 0).map D.int:=by
  rw[NQ,NQ];rfl
 have:=hrt _ _ _ z;simp![j,f,atI_4,u];simp only[aF,Cse.d,Sta.d,cy,ay]at this;exact⟨aZ (by decide),aZ (by decide),aZ (by decide),aZ (by decide),aZ (by decide),aZ (by decide),this⟩
theorem HW{few:Int}{r0:D}{EE:DX}{Q:DK}{c5:Option D}(o:C.Ok)(n5:NmOk C.names)(m6:C.many<=6)(mo:C.most<=1000)(K:Kq k (b+580) M N)(h:∀C' s t N',CsOk C' s t->Kq k b M N'->Q (aF C' s t) N'):
  fI ad EE { nx:=λ_ M'=>drp Q .non M',rt:=drp Q } [some (.ref k.p),some r0,some (.int (C.most:Nat)),some (.int few),some C.d,c5,none,none,none,none,none,none,none,none,none] N:=by
 unfold fI;generalize e:fJ ad EE=K13;generalize r:il ad EE=K9;simp![↓cJ];refine⟨by decide,by decide,?_⟩
 refine bA (λf U N'=>f.length<=10/\∃n g i j a c:Option D,U=[some (.ref k.p),some r0,some (.int (C.most:Nat)),some (.int few),some C.d,c5,n,g,i,j,a,c,none,none,none]/\Kq k (b+58*f.length) M N')
  (λ_ _ _ _=>bd) ?_ ?_ _ _ _ ⟨by decide,_,_,_,_,_,_,rfl,K.le<|by simp[bD]⟩
 .rintro U N' ⟨_,n,g,i,j,a,c,rfl,K'⟩
  dsimp only;rw[<- e];exact yL o n5 m6 λC' s t l=>aq (h C' s t N' l<|K'.le<|by simp)
 .rintro x f U N' ⟨u,n,g,i,j,a,c,rfl,K'⟩ D' q _ m _
  simp only[MZ]at u K';simp only[ah,NH];rw[<- r];refine yy (b:=b+58*f.length) o n5 m6 mo (K'.le<|by omega) (λg i j a c N2 K2=>q _ _ ⟨by omega,_,_,_,_,_,_,rfl,K2⟩) λC' s t N2 l K2=>?_
  rw[m];exact aq (h C' s t N2 l<|K2.le<|by omega)
theorem yK{most:Nat}{few:Int}{rn:Nat}(hr:rn<=9)(hm:most<=1000)(hp:Has k (b+(600+9*100 ^ 5)) M)(h:∀C s t M',CsOk C s t->Kq k b M M'->Q (aF C s t) M'):uA ad [.ref k.p,.int (rn:Nat),.int (most:Nat),.int few] M Q E:=by
 rw[Kz (n:=0)];unfold xN lm;generalize P:fI ad (aw E)=K;generalize H:jv ad (aw E)=K2;simp![];refine aA λQ' E' G _=>yX (b:=b+590) hr (hp.le<|by omega) λw i g j mk M1 pl K1=>G _ _ ?_
 have m0:=pl.f.m0;have m1:=pl.f.m1;have n1:=pl.f.nm.n1;have y:((i.toNat:Nat):Int)=i:=by omega
 have v:∀o,cL g w i o->g7 o<=7->(⟨w,i.toNat,g,o,mk,most⟩:Cse).Ok:=λo ok B=>⟨pl.f.w2,pl.f.w1,by show i.toNat<=100;omega,by show most<=10000;omega,pl.f.nm.nd,pl.f.nm.n0,by show g.length<=100;omega,by show cL g w ((i.toNat:Nat):Int) o;rw[y];exact ok,B,pl.m⟩
 have R:=v j pl.r.ok (by have:=pl.r.h;omega)
 have L:rB w i g j mk=(⟨w,i.toNat,g,j,mk,most⟩:Cse).d:=by unfold rB Cse.d;rw[y]
 have fin:∀(o:List Rw) (O:Option D) (N:Mem),cL g w i o->g7 o<=7->Kq k (b+580) M N->K { nx:=λ_ M'=>drp Q .non M',rt:=drp Q } [some (.ref k.p),some (.int (rn:Nat)),some (.int (most:Nat)),some (.int few),some (rB w i g o mk),O,none,none,none,none,none,none,none,none,none] N:=λo O N ok B KN=>by
  have T:rB w i g o mk=(⟨w,i.toNat,g,o,mk,most⟩:Cse).d:=by unfold rB Cse.d;rw[y]
  rw[T,<- P];exact HW (C:=⟨w,i.toNat,g,o,mk,most⟩) (v o ok B) pl.f.nm (by show i.toNat<=6;omega) hm KN h
 have u:rB w i g j mk=.tup [.int w,.tup (g.map D.str),.int i,.tup (ay j),.str mk]:=rfl;have x:∀a b c d e:D,ff [a,b,c,d,e] none (some 3)=[a,b,c]:=λa b c d e=>bT (k:=3);simp![u];refine aB (b:=b+589) K1.has (by decide) (by decide) λr N2 X U F=>?_
 simp![]
 by_cases c:0<r
 .rw[if_pos c]
  rw[<- H];unfold jv o6;simp![u,atI_3];rw[<- u,L];refine aA λQ' E' G _=>oA (b:=b+580) R n1 (F.1.le<|by omega) λz N3 A S=>G _ _ ?_
  have q:RwOk g w i z:=by have:RwOk g w ((i.toNat:Nat):Int) z:=A;rw[y]at this;exact this
  obtain⟨wd,I,J,_,_,_,_⟩:=wG q;have W:(ay j).length<=27:=by rw[dq];exact pl.l
  rw[<- L,J];simp![u,atI_4,x];refine⟨aZ (by decide),aZ (by omega),aZ (by decide),aZ (by decide),?_⟩
  have:=fin (j++[z]) (some<|.tup<|ay (j++[z])) N3 (OkRs_append.mpr ⟨pl.r.ok,q.all.1,trivial⟩) (by rw[gh];simp only[g7,q.all.2.1];have:=pl.r.h;omega) ((K1.trans F.kq).trans S.kq)
  simp only[rB,cv,ay,J]at this;exact this
 .rw[if_neg c]
  exact fin j none N2 pl.r.ok (by have:=pl.r.h;omega) ((K1.trans F.kq).le<|by omega)
end
theorem whT{c3:eG}{tb:au}{D':DEnds}{bx:BxW c3 tb D'}{n:Nat}{U:Dl}{M:Mem}(ht:∀K:Bool->Mem->Prop,K true M->c3 U M K)(h:tb { D' with nx:=bu c3 tb D' bx n,ct:=bu c3 tb D' bx n,bk:=D'.nx } U M):bu c3 tb D' bx (n+1) U M:=by
 unfold bu;refine ht _ ?_;rw[if_pos rfl];exact h
theorem whF{c3:eG}{tb:au}{D':DEnds}{bx:BxW c3 tb D'}{n:Nat}{U:Dl}{M:Mem}(ht:∀K:Bool->Mem->Prop,K false M->c3 U M K)(h:D'.nx U M):bu c3 tb D' bx (n+1) U M:=by
 unfold bu;refine ht _ ?_;rw[if_neg (by simp)]
 exact h
theorem bY{M:Mem}{Q:DK}{p:Addr}{xs:List D}(hp:M p=none)(h:Q (.lst xs) M):frz (.ref p) (M.upd p<|.lst xs) Q:=by
 simp only[frz,Mem.upd_same,Mem.upd_del,af hp];exact h
section
variable {C:Cse}{s t:Sta}{ad:Ad}{M:Mem}{Q:DK}{E:DX}{ks:List ax}
theorem zT(o:C.Ok)(h:∀p,M p=none->Q (.ref p) (M.upd p<|.lst<|(cZ C).map kD)):wO ad [C.d] M Q E:=by
 have l1:=o.l1;have few:=o.few;rw[LW (n:=0)];unfold vJ Cse.d;simp![atI_1,atI_2];intro g b;simp only[Mem.upd_del,af b];refine⟨⟨by lia,by lia⟩,λj c=>?_⟩
 simp only[Mem.upd_del,af c];refine⟨aZ (by simp[bD];lia),λa f=>aq ?_⟩
 have:=h a f;have e:(cZ C).map kD=C.names.map D.str++bD 0 (Py (C.many:Nat)):=by simp only[cZ,bD,Ol,NQ,Nw];congr 1;exact Og λi _=>by simp[kD]
 rw[e]at this;exact this
theorem BZ(o:C.Ok)(hs:SOk C s)(ht:SOk C t)(h:∀p,M p=none->Q (.ref p) (M.upd p<|.lst<|(aY C s t).map kD)):xc ad [C.d,s.d,t.d] M Q E:=by
 have l1:=o.l1;have few:=o.few;have g:(cZ C).length=C.names.length+C.many:=by simp[cZ]
 rw[LM (n:=0)];unfold vM;simp only[aC,aW,cX,ai,aj,aa,ac,ae,MV,dt];refine⟨rfl,aA λQ' E' f _=>zT o λp a=>f _ _ (bY a ?_)⟩;simp only[bt,cq,cc,Nb,NM,Nz,NG,MV,dt,OB];refine iy (λd=>match bI d with|some k=>decide (aV C s k≠aV C t k)|none=>false) id bd (by simp;lia) (λx c K q=>?_) (λx c _ K q=>q) ?_
 .obtain⟨k,b,rfl⟩:=Nu.mp c
  simp only[ar,am,ai,aj,aa,ac,ae,MV,dt];refine⟨rfl,aG (λ_ _ q=>cA o hs b q) ?_⟩;refine⟨rfl,aG (λ_ _ q=>cA o ht b q) ?_⟩;show bw 60 (.int _)=true/\bw 60 (.int _)=true/\_;refine⟨rfl,rfl,?_⟩;have e:bI (kD k)=some k:=by cases k<;>rfl
  simp only[e]at q;simpa [dv,aI] using q
 .intro p a
  have e:(((cZ C).map kD).filter λd=>match bI d with|some k=>decide (aV C s k≠aV C t k)|none=>false).map id=(aY C s t).map kD:=by
   rw[List.map_id,PV];congr 1;refine PD λk _=>?_;cases k<;>rfl
  rw[e];exact aq (h p a)
end
def HK(p:List ax->Bool):Nat->List ax->List (List ax)->List ax×List (List ax)
 |0,ks,ts=>(ks,ts)
 |n+1,ks,ts=>if 1<ks.length then
   (if p (ks.take (ks.length / 2))=true then HK p n (ks.take (ks.length / 2)) (jk ts<|ks.take (ks.length / 2))
   else if p (ks.drop (ks.length / 2))=true then HK p n (ks.drop (ks.length / 2)) (jk (jk ts<|ks.take (ks.length / 2))<|ks.drop (ks.length / 2))
   else (ks,jk (jk ts<|ks.take (ks.length / 2)) (ks.drop (ks.length / 2))))
  else (ks,ts)
def Hm(p:List ax->Bool):Nat->Nat->Nat->List ax->List (List ax)->List ax×List (List ax)
 |0,_,_,ks,ts=>(ks,ts)
 |f+1,a,st,ks,ts=>if st<ks.length then
   (if p (ks.take (a % ks.length)++ks.drop (a % ks.length+1))=true then Hm p f (a % ks.length) 0 (ks.take (a % ks.length)++ks.drop (a % ks.length+1)) (jk ts (ks.take (a % ks.length)++ks.drop (a % ks.length+1)))
   else Hm p f (a % ks.length+1) (st+1) ks (jk ts (ks.take (a % ks.length)++ks.drop (a % ks.length+1))))
  else (ks,ts)
def Cse.cau(C:Cse)(s t:Sta)(ks:List ax):Bool:=decide (C.ver s t ks="faulty")
def phi(ks:List ax)(st:Nat):Nat:=ks.length*ks.length+ks.length-st
section
variable {ks:List ax}
theorem Bb{n:Nat}:ff (ks.map kD) none (some (n:Int))=(ks.take n).map kD:=by rw[bT,PL]
theorem jT{n:Nat}:ff (ks.map kD) (some (n:Int)) none=(ks.drop n).map kD:=by rw[cR,QE]
end
def Cse.hal(C:Cse)(s t:Sta):List ax×List (List ax):=HK (C.cau s t) (aY C s t).length (aY C s t) [aY C s t]
def Cse.nar(C:Cse)(s t:Sta):List ax×List (List ax):=Hm (C.cau s t) (phi (C.hal s t).1 0) 0 0 (C.hal s t).1 (C.hal s t).2
section
variable {C:Cse}{s t:Sta}{ad:Ad}{Q:DK}{k:Ak}
theorem E_{T:Sd}{EE:DX}{m:Str}{ta te:bp}{U:Dl}{N:Mem}{x two:D}(hN:N k.a=some (.ins ad.C_Askings<|Fm k C s t two))(hm:N0 m (Fm k C s t two)=none)(ha:∀K:DK,K (.ref k.a) N->ta U N K)(he:∀K:DK,K x N->te U N K)(h:calls T EE [.ref k.a,x] N Q ⟨⟩):
  eh ad.C_Askings m T EE 2 ta (aa te ae) U N Q:=by
 unfold eh;refine ha _ ?_;simp only[hN];exact⟨trivial,hm,he _ ⟨rfl,h⟩⟩
end
section
variable {all ks:List ax}{ts:List (List ax)}
theorem BV{i:Nat}:(ks.take i++ks.drop (i+1)).Sublist ks:=by
 rw[<- PH];exact List.eraseIdx_sublist ..
end
def jo:List (List Nat)->List Nat
 |[]=>[]
 |[w]=>w
 |w::v::r=>w++44::32::jo (v::r)
theorem mr:∀(a b:List Nat) {x y:List Nat},44∉a->44∉b->a++44::x=b++44::y->a=b/\x=y
 |[],[],_,_,_,_,h=>by simpa using h
 |[],c::b,_,_,_,hb,h=>by simp at h;exact absurd (by simp[<- h.1]) hb
 |c::a,[],_,_,ha,_,h=>by simp at h;exact absurd (by simp[h.1]) ha
 |c::a,d::b,_,_,ha,hb,h=>by
  simp only[Nz,NU]at h;obtain⟨rfl,h⟩:=h;obtain⟨e,f⟩:=mr a b (λz=>ha (Nk _ z)) (λz=>hb (Nk _ z)) h;exact⟨by rw[e],f⟩
theorem qN:∀(a b:List (List Nat)),(∀w∈a,44∉w/\w≠[])->(∀w∈b,44∉w/\w≠[])->jo a=jo b->a=b
 |[],[],_,_,_=>rfl
 |[],[w],_,hb,h=>absurd h.symm (hb w<|by simp).2
 |[],w::v::r,_,_,h=>by simp[jo]at h
 |[w],[],ha,_,h=>absurd h (ha w<|by simp).2
 |w::v::r,[],_,_,h=>by simp[jo]at h
 |[w],[v],_,_,h=>by simp only[jo]at h;rw[h]
 |[w],v::u::r,ha,_,h=>by
  simp only[jo]at h;exact absurd (by rw[h];simp) (ha w<|by simp).1
 |w::u::r,[v],_,hb,h=>by
  simp only[jo]at h;exact absurd (by rw[<- h];simp) (hb v<|by simp).1
 |w::u::r,v::t::q,ha,hb,h=>by
  simp only[jo]at h;obtain⟨e,f⟩:=mr w v (ha w<|by simp).1 (hb v<|by simp).1 h
  have:=qN (u::r) (t::q) (λx c=>ha x (Nk _ c)) (λx c=>hb x (Nk _ c)) (by simpa using f)
  rw[e,this]
theorem ju(a b:Str):(a++b).cps.toList=a.cps.toList++b.cps.toList:=by
 show (a.cps++b.cps).toList=_;simp
theorem nk:∀ws:List Str,(Qw ", " ws).cps.toList=jo (ws.map (·.cps.toList))
 |[]=>by unfold Qw;rfl
 |[w]=>by unfold Qw;rfl
 |w::v::r=>by
  have a:=nk (v::r);unfold Qw;have e:((", ":String):Str).cps.toList=[44,32]:=by decide +kernel
  rw[ju,ju,a,e];simp[jo]
def lQ(all ks:List ax):Bool:=decide (ks=all.filter λk=>decide (k∈ks))
theorem qv(k:ax):bI (kD k)=some k:=by cases k<;>rfl
theorem kN{d:D}{k:ax}(h:bI d=some k):d=kD k:=by
 cases d<;>simp only[bI]at h<;>cases h<;>rfl
theorem dJ:∀{ds:List D} {ks:List ax},bP ds=some ks->ds=ks.map kD
 |[],ks,h=>by cases h;rfl
 |d::ds,ks,h=>by
  simp only[bP]at h
  split at h
  .rename_i k l b a
   cases h;rw[kN b,dJ a];rfl
  .cases h
theorem same_map:∀{ds:List D} {ks:List ax},ds.map bI=ks.map some↔ds=ks.map kD
 |[],[]=>by simp
 |[],_::_=>by simp
 |_::_,[]=>by simp
 |d::ds,k::ks=>by
  have a:=same_map (ds:=ds) (ks:=ks);simp only[Nb,NU];rw[a];refine⟨λh=>⟨kN h.1,h.2⟩,λh=>⟨by rw[h.1,qv],h.2⟩⟩
def j7(all:List ax)(es:List D):List ax:=all.filter λk=>es.any λd=>aI d (kD k)
def dz(all:List ax)(d:D):Bool:=match d with
 |.lst es=>match bP es with
  |some ks=>lQ all ks
  |none=>false
 |_=>false
def fH(es:List D)(ks:List ax):Bool:=decide (es.map bI=ks.map some)
theorem DP{all ks:List ax}:j7 all (ks.map kD)=all.filter λk=>decide (k∈ks):=by
 unfold j7;refine PD λk _=>Av
theorem BM{all:List ax}{es:List D}:fH es (j7 all es)=dz all (.lst es):=by
 cases e:bP es with
 |some ks=>
  have f:=dJ e;have c:dz all (.lst es)=lQ all ks:=by simp only[dz,e]
  rw[c];subst f;unfold fH lQ;rw[DP];refine decide_eq_decide.mpr ?_;rw[same_map];exact⟨λh=>(QL λa b z=>AQ z).mp h,λh=>by rw[<- h]⟩
 |none=>
  have c:dz all (.lst es)=false:=by simp only[dz,e]
  rw[c];refine decide_eq_false λh=>?_;have:=same_map.mp h;rw[this,bv]at e;cases e
theorem eD:∀l:List Bool,m8 (l.map D.bl)=some l
 |[]=>rfl
 |b::l=>by simp only[Nb,m8,eD l]
section
variable {ad:Ad}{M:Mem}{Q:DK}{E:DX}{ks all:List ax}{es:List D}
theorem D1{n:Nat}{e:D}{k:ax}(f:bw 60 e=true)(h:Q (.bl<|decide (bI e=some k)) M):SG ad (n+1) [e,kD k] M Q E:=by
 rw[Gi (n:=n)];unfold rq jF jV;generalize jY ad (SG ad n) (SH ad n) (aw E)=K1;generalize k9 ad (SG ad n) (SH ad n) (aw E)=K2;have a:=aq (Q:=Q) h;cases e
 case ty=>cases f
 case ref=>cases f
 case mt=>cases f
 case ml=>cases f
 all_goals
  cases k<;>
  (simp only[bw]at f
   simp only[bI,kD,reduceCtorEq,decide_false]at a ⊢;simp![bJ,eN,NO,Ob,NV,NW,N6,NN,NF,beq_self_eq_true,bw,f,true_and]
   try simp only[Option.some.injEq,Sum.inl.injEq,Sum.inr.injEq]at a
   exact a)
theorem Iu{n:Nat}{its:List D}{c0 c1:Option D}{Q:List D->Mem->Prop}{bx:BxC (cU 2<|aP (ah 0)<|aP (ah 1) cD) bX (ai<|aj (SG ad (n+1)) iF 2<|aa (ac 0)<|aa (ac 1) ae) (DIt.ok ⟨its,[]⟩) Q}(hs:es.length<=1000)(hf:∀e∈es,bw 60 e=true)
  (h:Q (((es.zip ks).map λp=>decide (bI p.1=some p.2)).map D.bl) M):cF (cU 2<|aP (ah 0)<|aP (ah 1) cD) bX (ai<|aj (SG ad (n+1)) iF 2<|aa (ac 0)<|aa (ac 1) ae) (DIt.ok ⟨its,[]⟩) Q bx (iL es<|ks.map kD) [] [c0,c1] M:=by
 have m:iL es (ks.map kD)=(es.zip ks).map λp=>.tup [p.1,kD p.2]:=by
  unfold iL;rw[List.zip_map_right,NQ];rfl
 rw[m];have l:(es.zip ks).length<=1000:=by rw[Pp];lia
 have hm:∀p∈es.zip ks,bw 60 p.1=true:=λp o=>hf _ (PQ o).1;generalize es.zip ks=ps at h l hm;refine bM (λj b U N=>∃(i a:List (D×ax)) (c0 c1:Option D),ps=i++a/\j=a.map (λp=>.tup [p.1,kD p.2])/\b=(i.map λp=>decide (bI p.1=some p.2)).map D.bl/\U=[c0,c1]/\N=M) (λ_ _ _ _ _=>bd) ?_ ?_ ?_ _ _ _ _ ⟨[],ps,c0,c1,rfl,rfl,rfl,rfl,rfl⟩
 .rintro b U N ⟨i,a,c0,c1,c,g,rfl,rfl,rfl⟩
  have:a=[]:=by cases a with|nil=>rfl|cons _ _=>simp at g
  subst this;rw[NT]at c;subst c;exact h
 .rintro x j b U N ⟨i,a,c0,c1,c,g,rfl,rfl,rfl⟩ N' r _
  cases a with
  |nil=>simp at g
  |cons y a=>
   simp only[Nb,NU]at g;obtain⟨rfl,rfl⟩:=g;have f:=congrArg Oj c;simp only[Nd,MZ]at f;simp only[cU,aP,cD,ah,NH,bX,if_true,ai,aj,aa,ac,ae,MV,dt,MZ,Nq];refine⟨trivial,trivial,aG (λ_ _ q=>D1 (hm y<|by rw[c];simp) q) ?_⟩
   exact r _ _ _ (by rw[MW,MW];exact fS (by lia)) ⟨i++[y],a,_,_,by simp[c],rfl,by simp,rfl,rfl⟩
 .rintro x j b U N ⟨i,a,c0,c1,c,g,rfl,rfl,rfl⟩
  have f:=congrArg Oj c;simp only[Nd]at f;rw[MW,MW];exact fS (by lia)
theorem qd:∀{es:List D} {ks:List ax},es.length=ks.length->((es.zip ks).map λp=>decide (bI p.1=some p.2)).all id=fH es ks
 |[],[],_=>by simp[fH]
 |[],_::_,h=>by simp at h
 |_::_,[],h=>by simp at h
 |a::as,b::bs,h=>by
  have:=qd (es:=as) (ks:=bs) (by simpa using h)
  rw[Pr,Nb,RE,this];unfold fH
  by_cases c:bI a=some b<;>by_cases e:as.map bI=bs.map some<;>simp[c,e]
theorem sS{n:Nat}(hs:es.length<=1000)(hf:∀e∈es,bw 60 e=true)(h:Q (.bl<|fH es ks) M):SH ad (n+2) [.lst es,.lst (ks.map kD)] M Q E:=by
 rw[MA (n:=n+1)];unfold vP;generalize g:jK ad (SG ad (n+1)) (SH ad (n+1)) (aw E)=K;simp![MW]
 by_cases c:es.length=ks.length
 .have a:((es.length:Nat):Int)=(ks.length:Nat):=by lia
  simp only[a,decide_true,OV,Nv,if_false];rw[<- g];unfold jK;simp only[aC,aQ,aa,ai,aW,t_,ac,ae,MV,dt,bt,cq,NT,cc,Nb,NM,Nz,NG];refine Iu hs hf λp f=>bY f ?_;simp only[tG,cP,eD,qd c];exact aq h
 .have a:¬((es.length:Nat):Int)=(ks.length:Nat):=by lia
  have b:fH es ks=false:=decide_eq_false λe=>c (by have:=congrArg Oj e;simpa using this)
  simp only[a,decide_false,OF,if_true];rw[b]at h;exact aq h
theorem qS{n:Nat}(hs:es.length<=1000)(hf:∀e∈es,bw 60 e=true)(h:Q (.bl<|fH es ks) M):SG ad (n+3) [.lst es,.lst (ks.map kD)] M Q E:=by
 rw[Gi (n:=n+2)];unfold rq jF k9;generalize jY ad (SG ad (n+2)) (SH ad (n+2)) (aw E)=K1;generalize jV ad (SG ad (n+2)) (SH ad (n+2)) (aw E)=K3;simp![bJ,eN,NO,Ob,NV,NW,N6,NN,NF,beq_self_eq_true];refine aG (λ_ _ q=>sS hs hf q) ?_;simp![];exact aq h
theorem lc{n:Nat}:∀{xs:List D},bV n xs=true->∀x∈xs,bw n x=true
 |[],_,_,h=>by cases h
 |y::xs,f,x,h=>by
  rw[bV,Oo]at f;rcases Nl.mp h with rfl|h
  .exact f.1
  .exact lc f.2 x h
theorem Lk{ta tb:bp}{U:Dl}{k:ax}{K:Bool->Mem->Prop}(hf:bV 60 es=true)(ha:∀K,K (kD k) M->ta U M K)(hb:∀K,K (.lst es) M->tb U M K)(h:K (es.any λd=>aI d (kD k)) M):ar (am uu ta tb) U M K:=by
 unfold ar am;refine ha _ (hb _ ?_);unfold uu qk;simp only[bt,wc,mi,hf,and_self,if_true];exact h
theorem yh{c:Option D}{its:List D}{Q:List D->Mem->Prop}{bx:BxC (ah 0) (ar<|am uu (ac 0)<|ac 1) (ac 0) (DIt.ok ⟨its,[]⟩) Q}(ha:all.length<=1000)(hf:bV 60 es=true)(h:Q ((j7 all es).map kD) M):
  cF (ah 0) (ar<|am uu (ac 0)<|ac 1) (ac 0) (DIt.ok ⟨its,[]⟩) Q bx (all.map kD) [] [c,some (.lst es)] M:=by
 refine iy (λd=>match bI d with|some k=>es.any λd=>aI d (kD k)|none=>false) id bd (by simp;lia) (λx a K q=>?_) (λx a _ K q=>q) ?_
 .obtain⟨k,b,rfl⟩:=Nu.mp a
  refine Lk (k:=k) hf (λK q=>q) (λK q=>q) ?_;simp only[qv]at q;exact q
 .have e:((all.map kD).filter λd=>match bI d with|some k=>es.any λd=>aI d (kD k)|none=>false).map id=(j7 all es).map kD:=by
   rw[List.map_id,PV];congr 1;refine PD λk _=>?_;cases k<;>rfl
  rw[e];exact h
theorem Ca(hs:es.length<=1000)(ha:all.length<=1000)(hf:bV 60 es=true)(h:Q (.bl<|dz all<|.lst es) M):i_ ad [b8 all,.lst es] M Q E:=by
 have a:∀l,b8 l=.lst (l.map kD):=λ_=>rfl;rw[FO (n:=0)];unfold qI;generalize b:ai (aj (SG ad 24) (aw E) 2<|aa (ac 1)<|aa (ai<|aW (cX<|ac 0) ["one"] [1] (ah 0) (ar<|am uu (ac 0)<|ac 1)<|ac 0) ae)=F;simp![a,bJ,eN,NO,Ob,NV,NW,N6,NN,NF,beq_self_eq_true];rw[<- b];simp only[ai,aj,aa,aW,cX,ac,ae,MV,dt,bt,cq,cc,Nb,NM,Nz,NG,OB];refine yh ha hf λp c=>bY c ?_;refine⟨rfl,aG (λ_ _ q=>qS (n:=21) hs (lc hf) q) ?_⟩;rw[BM];simp only[frz];exact aq h
def noL:D->Bool
 |.tup _=>true
 |.non=>true
 |_=>false
theorem qU{d:D}(hd:noL d=true)(h:Q (.bl<|dz all d) M):i_ ad [b8 all,d] M Q E:=by
 rw[FO (n:=0)];unfold qI;generalize ai (aj (SG ad 24) (aw E) 2<|aa (ac 1)<|aa (ai<|aW (cX<|ac 0) ["one"] [1] (ah 0) (ar<|am uu (ac 0)<|ac 1)<|ac 0) ae)=F;cases d<;>first|cases hd|skip
 all_goals
  simp![bJ,eN,NO,Ob,NV,NW,N6,NN,NF,beq_self_eq_true];exact aq h
end
end Tw
namespace L3
open PySem L2
theorem yc(ts:List Str):(listText ts).length<=piled ts+5:=by
 rw[listText_eq_join,strLen_append,strLen_append];have b:(("[":String):Str).length=1:=rfl;have a:(("]":String):Str).length=1:=rfl
 by_cases h:ts=[]
 .subst h
  have:(Qw ", " ([]:List Str)).length=0:=rfl;lia
 .have:=join_length_add ts h
  lia
end L3
namespace Tw
open PySem L2 L3
theorem oW{n:Nat}{xs:List D}(h:∀x∈xs,CW n x):CW (n+1) (.lst xs):=by
 refine⟨by simp only[bw];exact cH xs λx a=>(h x a).1,by simp only[cr,Ot];exact gv xs λx a=>(h x a).2.1,?_⟩
 simp only[cr,QG,sz];have:=yc (Oc<|cW xs);have:=nj xs λx a=>(h x a).2.2;lia
def elK:List ax:=pool.flatten.map Nm++Nm ("q":Str)::(NL 6).map λ(i:Nat)=>O7 (i:Int)
def my:List D:=elK.map kD++(D.non::.lst []::.bl true::.bl false::elK.map λk=>.lst [kD k])
def JA(e:D):List Nat:=(cr e).shown.cps.toList
theorem LU:∀e∈my,44∉JA e/\JA e≠[]:=by decide +kernel
theorem HF:∀e∈my,∀k∈elK,JA e=JA (kD k)->bI e=some k:=by decide +kernel
theorem Ha:∀k∈elK,∀x,k=.inr x->(PZ x).shown.length<=60:=by
 have:∀k∈elK,(match k with|.inr x=>decide ((PZ x).shown.length<=60)|.inl _=>true)=true:=by decide +kernel
 intro k a x e;have:=this k a;subst e;simpa using this
theorem ES:∀k∈elK,∀i,k=.inl i->0<=i/\i<=1000:=by
 have:∀k∈elK,(match k with|.inl i=>decide (0<=i/\i<=1000)|.inr _=>true)=true:=by decide +kernel
 intro k a x e;have:=this k a;subst e;simpa using this
theorem wQ{n:Nat}{k:ax}(h:k∈elK):CW n (kD k):=by
 cases k with
 |inl i=>obtain⟨a,b⟩:=ES _ h i rfl;exact EM (yH a b)
 |inr x=>exact Fl (Ha _ h x rfl)
theorem DU{n:Nat}:CW n .non:=⟨by cases n<;>rfl,by simp only[cr,Ot],by decide +kernel⟩
theorem Cc{n:Nat}{b:Bool}:CW n (.bl b):=⟨by cases n<;>rfl,by simp only[cr,Ot],by cases b<;>decide +kernel⟩
theorem eS{n:Nat}{e:D}(h:e∈my):CW (n+1) e:=by
 rcases Nx.mp h with h|h
 .obtain⟨k,b,rfl⟩:=Nu.mp h
  exact wQ b
 .simp only[Nl]at h
  rcases h with rfl|rfl|rfl|rfl|h
  .exact DU
  .exact oW λx a=>by cases a
  .exact Cc
  .exact Cc
  .obtain⟨k,b,rfl⟩:=Nu.mp h
   exact oW λx a=>by rw[NS]at a;subst a;exact wQ b
theorem IT{e:D}(h:e∈my):sz e<=2010:=by
 rcases Nx.mp h with h|h
 .obtain⟨k,a,rfl⟩:=Nu.mp h
  cases k<;>simp[kD,sz]
 .simp only[Nl]at h
  rcases h with rfl|rfl|rfl|rfl|h
  .simp[sz]
  .simp[sz,zp]
  .simp[sz]
  .simp[sz]
  .obtain⟨k,a,rfl⟩:=Nu.mp h
   cases k<;>simp[kD,sz,zp]
theorem xy{n:Nat}:∀{l:List D},(∀x∈l,sz x<=n)->zp l<=(n+2)*l.length
 |[],_=>by simp[zp]
 |x::l,h=>by
  have:=xy (l:=l) λy a=>h y (Nk _ a);have:=h x (by simp)
  simp only[zp,MZ,Nat.mul_add];lia
theorem vZ:∀l:List D,(Oc<|cW l).map (·.cps.toList)=l.map JA
 |[]=>by simp[cW,Oc]
 |k::l=>by simp only[Nb,cW,Oc,vZ l];rfl
section
variable {ad:Ad}{M:Mem}{Q:DK}{E:DX}{ks all:List ax}{es:List D}
theorem D6(l:List D):(cr<|.lst l).shown.cps.toList=91::(jo (l.map JA)++[93]):=by
 show (listText<|Oc<|cW l).cps.toList=_;rw[listText_eq_join,ju,ju,nk,vZ];have b:(("[":String):Str).cps.toList=[91]:=by decide +kernel
 have a:(("]":String):Str).cps.toList=[93]:=by decide +kernel
 rw[b,a];rfl
theorem uy{k:ax}(h:k∈elK):kD k∈my:=Pd _ (OL h)
theorem sV(he:∀e∈es,e∈my)(hk:∀k∈ks,k∈elK):(cr<|.lst es).shown=(cr<|b8 ks).shown↔es.map bI=ks.map some:=by
 constructor
 .intro h
  have g:=congrArg (λx:Str=>x.cps.toList) h;have hm:b8 ks=.lst (ks.map kD):=rfl;simp only[hm,D6,NU,true_and]at g;have i:=List.append_cancel_right g;have ok:∀l:List D,(∀e∈l,e∈my)->∀w∈l.map JA,44∉w/\w≠[]:=λl j w m=>by
   obtain⟨e,he,rfl⟩:=Nu.mp m;exact LU e (j e he)
  have c:=qN _ _ (ok es he) (ok (ks.map kD) λe h=>by obtain⟨k,f,rfl⟩:=Nu.mp h;exact uy (hk k f)) i
  clear h g i ok
  induction es generalizing ks with
  |nil=>
   cases ks with
   |nil=>rfl
   |cons _ _=>cases c
  |cons x a ih=>
   cases ks with
   |nil=>cases c
   |cons y b=>
    simp only[Nb,NU]at c ⊢;exact⟨HF x (he x<|by simp) y (hk y<|by simp) c.1,ih (λe h=>he e (Nk _ h)) (λk h=>hk k (Nk _ h)) rfl c.2⟩
 .intro h
  rw[same_map.mp h];rfl
theorem vn{K:DK}(he:∀e∈es,e∈my)(hl:es.length<=400)(h:K (.str (cr<|.lst es).shown) M):da [.lst es] M K:=by
 have b:CW 60 (.lst es):=oW (n:=59) λx a=>eS (he x a);have c:zp es<=2012*es.length:=xy λx a=>IT (he x a);refine⟨b.1,b.2.1,Ny b.2.2 (aZ ?_),h⟩;show 5+zp es<=_;lia
theorem yP(he:∀e∈es,e∈my)(hk:∀k∈all,k∈elK)(hs:es.length<=400)(ha:all.length<=400)(h:Q (.bl<|dz all<|.lst es) M):lO ad [b8 all,.lst es] M Q E:=by
 have b:∀ks,b8 ks=.lst (ks.map kD):=λ_=>rfl;have j:bV 60 es=true:=cH es λx l=>(eS (n:=59)<|he x l).1;have c:∀k∈j7 all es,k∈elK:=λk h=>hk k (PU.mp h).1;have m:(j7 all es).length<=all.length:=O6 _ _;have f:fN ad (aw E) { nx:=λ_ M'=>drp Q .non M',rt:=drp Q } [some (b8 all),some (.lst es)] M:=by
  unfold fN;simp only[aC,am,aQ,aa,ac,ae,MV,dt];refine vn he hs ?_;simp only[ai,aW,cX,ac,b all,MV,dt,bt,cq,cc,Nb,NM,Nz,NG,OB];refine yh (by lia) j λp i=>bY i ?_
  refine vn (λe h=>by obtain⟨k,a,rfl⟩:=Nu.mp h;exact uy (c k a)) (by rw[MW];lia) ?_
  show bw 60 (.str _)=true/\bw 60 (.str _)=true/\_;refine⟨rfl,rfl,?_⟩;have g:∀(N:Mem),aI (L3.dv N<|.str (cr<|.lst es).shown) (L3.dv N<|.str (cr<|.lst<|(j7 all es).map kD).shown)=dz all (.lst es):=λN=>by
   rw[<- BM];simp only[L3.dv,aI,fH];exact decide_eq_decide.mpr (sV he c)
  rw[g];exact aq h
 rw[Gc (n:=0)];unfold qW;generalize fN ad (aw E)=K at f ⊢;simp only[ao,aL,dk,bU,aQ,aa,ac,dC,ae,bZ,MV,dt,cK];exact⟨rfl,f⟩
theorem mQ{d:D}(hd:noL d=true)(h:Q (.bl<|dz all d) M):lO ad [b8 all,d] M Q E:=by
 rw[Gc (n:=0)];unfold qW;generalize fN ad (aw E)=K;cases d<;>first|cases hd|skip
 all_goals
  simp![bJ,eN,NO,Ob,NV,NW,N6,NN,NF,beq_self_eq_true];exact aq h
end
abbrev KW:=List ax×D
def fC(p:KW):D:=.tup [b8 p.1,p.2]
def iz:List D:=[.str "sound",.str "faulty",.str "other",.str "Sound",.non]
def eJ(all:List ax)(r:D):Option KW:=match r with
 |.tup [.lst es,w]=>match bP es with
  |some ks=>if lQ all ks=true then some (ks,w) else none
  |none=>none
 |_=>none
def bN(all:List ax):List D->Option (List KW)
 |[]=>some []
 |r::rs=>match eJ all r,bN all rs with
  |some p,some ps=>some (p::ps)
  |_,_=>none
def om(o:Option D):Bool:=match o with
 |some w=>aI w (.str "faulty")
 |none=>false
def cn(o:Option D):Bool:=match o with
 |some w=>aI w (.str "faulty")
 |none=>true
def iS(C:Cse)(s t:Sta)(kws:List KW)(cs:List ax):Bool:=
 decide ((kws.map (·.1)).Nodup)&&decide (kws.head?.map (·.1)=some (aY C s t))&&om (ba kws cs)&&(b_ cs).all (λl=>!cn (ba kws l))&&kws.all λp=>aI (.str<|C.ver s t p.1) p.2
def mH(all:List ax)(m:D):Option (List ax):=match m with
 |.lst es=>match bP es with
  |some ks=>if lQ all ks=true then some ks else none
  |none=>none
 |_=>none
def qz(C:Cse)(s t:Sta)(rows:List D)(m:D):Bool:=match bN (aY C s t) rows,mH (aY C s t) m with
 |some kws,some cs=>iS C s t kws cs
 |_,_=>false
theorem mU{all:List ax}{r:D}{p:KW}(h:eJ all r=some p):r=fC p/\lQ all p.1=true:=by
 unfold eJ at h
 split at h
 .split at h
  .rename_i e
   split at h
   .rename_i c
    cases h;rw[dJ e];exact⟨rfl,c⟩
   .cases h
  .cases h
 .cases h
theorem cM{all:List ax}:∀{rs:List D} {ps:List KW},bN all rs=some ps->rs=ps.map fC/\∀p∈ps,lQ all p.1=true
 |[],ps,h=>by cases h;exact⟨rfl,λ_ h=>by cases h⟩
 |r::rs,ps,h=>by
  simp only[bN]at h
  split at h
  .rename_i p e i c
   cases h;obtain⟨f,b⟩:=mU i;obtain⟨g,a⟩:=cM c;refine⟨by rw[f,g];rfl,λq hq=>?_⟩
   rcases Nl.mp hq with rfl|hq
   .exact b
   .exact a q hq
  .cases h
theorem wB{all:List ax}:∀rs:List D,(bN all rs).isSome=rs.all λr=>(eJ all r).isSome
 |[]=>rfl
 |r::rs=>by
  have:=wB (all:=all) rs;simp only[bN,RE,<- this];cases eJ all r<;>cases bN all rs<;>rfl
theorem ni{all:List ax}{m:D}{cs:List ax}(h:mH all m=some cs):m=b8 cs/\lQ all cs=true:=by
 unfold mH at h
 split at h
 .split at h
  .rename_i e
   split at h
   .rename_i c
    cases h;rw[dJ e];exact⟨rfl,c⟩
   .cases h
  .cases h
 .cases h
theorem nW{all:List ax}{m:D}:(mH all m).isSome=dz all m:=by
 unfold mH dz;cases m with
 |lst es=>
  dsimp only;cases bP es with
  |none=>rfl
  |some ks=>
   dsimp only;cases lQ all ks<;>rfl
 |_=>rfl
theorem zL{all:List ax}{m w:D}:(eJ all<|.tup [m,w]).isSome=dz all m:=by
 cases m with
 |lst es=>
  simp only[eJ,dz];cases bP es with
  |none=>rfl
  |some ks=>
   dsimp only;cases lQ all ks<;>rfl
 |_=>rfl
theorem ud{all ks:List ax}(h:lQ all ks=true):ks.length<=all.length:=by
 have:=of_decide_eq_true h;rw[this];exact O6 _ _
def pf(us acc:List KW):List KW:=us.foldl (λa p=>bL a p.1 p.2) acc
theorem pH{acc:List KW}{p:KW}(h:p.1∉acc.map (·.1)):bL acc p.1 p.2=acc++[p]:=by
 unfold bL;rw[if_neg];intro z;obtain⟨q,a,e⟩:=PJ.mp z;exact h (Nu.mpr ⟨q,a,of_decide_eq_true e⟩)
theorem vz{acc:List KW}{p:KW}(h:p.1∈acc.map (·.1)):(bL acc p.1 p.2).length=acc.length:=by
 unfold bL;rw[if_pos,MW];obtain⟨q,a,e⟩:=Nu.mp h;exact PJ.mpr ⟨q,a,decide_eq_true e⟩
theorem uB:∀(us acc:List KW),((acc++us).map (·.1)).Nodup->pf us acc=acc++us
 |[],acc,_=>by simp[pf]
 |p::us,acc,nd=>by
  have a:p.1∉acc.map (·.1):=λh=>by
   rw[Ol,Nb]at nd;exact(QT.mp nd).2.2 _ h _ (by simp) rfl
  have:=uB us (acc++[p]) (by simpa using nd)
  have e:pf (p::us) acc=pf us (bL acc p.1 p.2):=rfl;rw[e,pH a,this];simp
theorem C1:∀(us acc:List KW),(pf us acc).length<=acc.length+us.length
 |[],acc=>by simp[pf]
 |p::us,acc=>by
  have e:pf (p::us) acc=pf us (bL acc p.1 p.2):=rfl;have:=C1 us (bL acc p.1 p.2);rw[e]
  by_cases h:p.1∈acc.map (·.1)
  .rw[vz h]at this;simp;lia
  .rw[pH h]at this ⊢;simp at this ⊢;lia
theorem CJ:∀(us acc:List KW),(acc.map (·.1)).Nodup->¬((acc++us).map (·.1)).Nodup->(pf us acc).length<acc.length+us.length
 |[],acc,h,n=>absurd (by simpa using h) n
 |p::us,acc,h,n=>by
  have e:pf (p::us) acc=pf us (bL acc p.1 p.2):=rfl;rw[e]
  by_cases c:p.1∈acc.map (·.1)
  .have:=C1 us (bL acc p.1 p.2)
   rw[vz c]at this;simp;lia
  .rw[pH c]
   have:=CJ us (acc++[p]) (by
    rw[Ol];refine QT.mpr ⟨h,by simp,λx b y a e=>?_⟩
    simp at a;subst a;subst e;exact c b) (by simpa using n)
   simp at this ⊢;lia
theorem Ju{us:List KW}:decide ((pf us []).length=us.length)=decide ((us.map (·.1)).Nodup):=by
 by_cases c:(us.map (·.1)).Nodup
 .rw[uB us [] (by simpa using c)];simp[c]
 .have:=CJ us [] (by simp) (by simpa using c)
  have a:¬(pf us []).length=us.length:=by simp at this;lia
  simp[c,a]
theorem Bu:∀us:List KW,zu (us.map λp=>.tup [.tup (p.1.map kD),p.2])=some us
 |[]=>rfl
 |p::us=>by
  have:=Bu us;simp only[Nb,zu,mD,bv,this]
theorem so{N:Mem}{d:Addr}{us:List KW}{l:List ax}(e:N d=some (.dT us)):mC N d (.tup<|l.map kD)=some (ba us l):=by
 unfold mC;simp only[e,mD,bv]
theorem Et{us:List KW}{l:List ax}{w:D}(h:ba us l=some w):∃p∈us,p.2=w:=by
 unfold ba at h;obtain⟨p,a,e⟩:=OZ.mp h;exact⟨p,Rx a,e⟩
def MixAny(m:D):Prop:=m=.non\/∃es,(∀e∈es,e∈my)/\es.length<=30/\(m=.lst es\/m=.tup es)
def bS(r:D):Prop:=r=.non\/(∃m w,MixAny m/\w∈iz/\(r=.tup [m,w]\/r=.lst [m,w]))\/∃m,MixAny m/\r=.tup [m]
theorem gQ{w:D}(h:w∈iz):bw 60 w=true:=by
 simp only[iz,Nl,NK,or_false]at h;rcases h with rfl|rfl|rfl|rfl|rfl<;>rfl
theorem iU{M:Mem}{w:D}(h:w∈iz):dv M w=w:=by
 simp only[iz,Nl,NK,or_false]at h;rcases h with rfl|rfl|rfl|rfl|rfl<;>rfl
theorem Az:∀w∈iz,∀v∈(["sound","faulty","other"]:List Str),decide ((cr w).shown=(PZ v).shown)=aI w (.str v):=by decide +kernel
theorem oY:∀w∈iz,(cr w).showable=true/\(cr w).shown.length<=60:=by decide +kernel
theorem xH:∀w∈iz,∀v:Str,aI w (.str v)=aI (.str v) w:=by
 intro w h v;simp only[iz,Nl,NK,or_false]at h;rcases h with rfl|rfl|rfl|rfl|rfl<;>simp only[aI]<;>exact decide_eq_decide.mpr eq_comm
theorem tF{C:Cse}{s t:Sta}{ks:List ax}:C.ver s t ks∈(["sound","faulty","other"]:List Str):=by
 unfold Cse.ver
 split
 .simp
 .split<;>simp
section
variable {ad:Ad}{M:Mem}{Q:DK}{E:DX}{ks all:List ax}{rows:List D}{m:D}
theorem rT{es:List D}(he:∀e∈es,e∈my):bV 60 es=true:=cH es λx a=>(eS (n:=59)<|he x a).1
theorem nB(hm:MixAny m)(ha:all.length<=1000)(h:Q (.bl<|dz all m) M):i_ ad [b8 all,m] M Q E:=by
 rcases hm with rfl|⟨es,he,hl,rfl|rfl⟩
 .exact qU rfl h
 .exact Ca (by lia) ha (rT he) h
 .exact qU rfl h
theorem lV(hm:MixAny m)(ha:all.length<=400)(hk:∀k∈all,k∈elK)(h:Q (.bl<|dz all m) M):lO ad [b8 all,m] M Q E:=by
 rcases hm with rfl|⟨es,he,hl,rfl|rfl⟩
 .exact mQ rfl h
 .exact yP he hk (by lia) ha h
 .exact mQ rfl h
theorem sP{r:D}(hr:bS r)(ha:all.length<=1000)(h:Q (.bl (eJ all r).isSome) M):uY ad [b8 all,r] M Q E:=by
 rw[LD (n:=0)];unfold uL;rcases hr with rfl|⟨m,w,hm,hw,rfl|rfl⟩|⟨m,hm,rfl⟩
 .simp![bJ,eN,NO,Ob,NV,NW,N6,NN,NF,beq_self_eq_true]
  exact aq h
 .rw[zL]at h
  simp![bJ,eN,NO,Ob,NV,NW,N6,NN,NF,beq_self_eq_true,atI_0];refine aG (λ_ _ q=>nB hm ha q) ?_;simp![];exact aq h
 .simp![bJ,eN,NO,Ob,NV,NW,N6,NN,NF,beq_self_eq_true]
  exact aq h
 .generalize ai (aj (i_ ad) (aw E) 2<|aa (ac 0)<|aa (am az (ac 1)<|dC<|.int 0) ae)=F
  simp![bJ,eN,NO,Ob,NV,NW,N6,NN,NF,beq_self_eq_true];have e:(eJ all<|.tup [m]).isSome=false:=by cases m<;>rfl
  rw[e]at h;exact aq h
theorem qP(hr:∀r∈rows,bS r)(hl:rows.length<=100000)(hm:MixAny m)(ha:all.length<=1000)(h:Q (.bl (!rows.isEmpty&&dz all m&&(bN all rows).isSome)) M):zP ad [b8 all,.tup [.lst rows,m]] M Q E:=by
 rw[LO (n:=0)];unfold Bk oQ;generalize a:p7 ad (aw E)=K1;simp![bJ,eN,NO,Ob,NV,NW,N6,NN,NF,beq_self_eq_true,atI_0,atI_1]
 by_cases c:rows=[]
 .subst c
  simp only[Nq];exact aq h
 .have f:¬((rows.length:Nat):Int)=0:=by
   have:=Sk.mpr c;lia
  have g:rows.isEmpty=false:=by cases rows with|nil=>exact absurd rfl c|cons _ _=>rfl
  simp only[f,decide_false,Nv,if_false];refine aG (λ_ _ q=>nB hm ha q) ?_;rw[g,OF,O5]at h;cases b:dz all m with
  |false=>
   rw[b]at h;simp![];exact aq h
  |true=>
   rw[b,O5,wB]at h;simp![];rw[<- a];unfold p7;simp![atI_0,aW];refine dD (λr=>.bl (eJ all r).isSome) bd (by lia) (λx i K q=>?_) ?_
   .simp only[ai,aj,aa,ac,ae,MV,dt]
    refine⟨rfl,aG (λ_ _ q=>sP (hr x i) ha q) q⟩
   .intro p j
    have e:(rows.map λr=>D.bl (eJ all r).isSome)=(rows.map λr=>(eJ all r).isSome).map D.bl:=by simp
    have l:(rows.map λr=>(eJ all r).isSome).all id=rows.all λr=>(eJ all r).isSome:=by rw[RT];rfl
    rw[e];simp![Mem.upd_del,af j,eD,l];exact aq h
end
section
variable {C:Cse}{s t:Sta}{ad:Ad}{M:Mem}{Q:DK}{E:DX}{cs ks:List ax}{ts us:List (List ax)}{k:Ak}{a b:Int}{two:D}{kws:List KW}{rows:List D}{m:D}
theorem lS{EE:DX}{bx:BxQ EE λd M'=>frz d M' Q}(o:C.Ok)(hs:SOk C s)(ht:SOk C t)(h:Q (b8<|aY C s t) M):calls (xh ad) EE [aF C s t] M (λd M'=>frz d M' Q) bx:=by
 refine aA λQ' E' hq _=>?_;rw[Mh (n:=0)];unfold v_ aF;simp![atI_0,atI_1,atI_2];refine aA λQ2 E2 c _=>BZ o hs ht λp e=>c _ _ (aq<|hq _ _<|bY e h)
theorem ph(hl:ks.length<=1000)(h:∀p,M p=none->Q (.ref p) (M.upd p<|.lst<|(b_ ks).map b8)):DH ad [b8 ks] M Q E:=by
 rw[u_q9 (n:=0)];unfold CV;exact z9 hl λp c=>aq (h p c)
theorem F3{d:Addr}{o:MO}(h1:d≠k.a)(h2:d≠k.t):(aM ad k C s t two us M).upd d o=aM ad k C s t two us (M.upd d o):=by
 unfold aM;rw[aR h2.symm,aR h1.symm]
theorem Fb{d:Addr}(h:aM ad k C s t two us M d=none):d≠k.a/\d≠k.t/\M d=none:=by
 have c:d≠k.a:=λe=>by rw[e,Dq]at h;cases h
 have f:d≠k.t:=λe=>by rw[e,AD]at h;cases h
 unfold aM at h;rw[ag f,ag c]at h;exact⟨c,f,h⟩
theorem AI{ls:List KW}(o:C.Ok)(hs:SOk C s)(ht:SOk C t)(ea:C.mark s=.int a)(eb:C.mark t=.int b)(hl:us.length+ls.length<=100000)(hw:∀p∈ls,p.2∈iz){Q:List D->Mem->Prop}{c0 c1:Option D}{its:List D}
  {bx:BxC (cU 2<|aP (ah 0)<|aP (ah 1) cD) bX (am cI (ai<|eh ad.C_Askings "ask" (lD ad) iF 2 (ac 2)<|aa (ac 0) ae)<|ac 1) (DIt.ok ⟨its,[]⟩) Q}
  (h:∀us',Q ((ls.map λp=>aI (.str<|C.ver s t p.1) p.2).map D.bl) (aM ad k C s t (.tup [.int a,.int b]) us' M)):
  cF (cU 2<|aP (ah 0)<|aP (ah 1) cD) bX (am cI (ai<|eh ad.C_Askings "ask" (lD ad) iF 2 (ac 2)<|aa (ac 0) ae)<|ac 1) (DIt.ok ⟨its,[]⟩) Q bx (ls.map fC) [] [c0,c1,some (.ref k.a)] (aM ad k C s t (.tup [.int a,.int b]) us M):=by
 refine bM (λn e U N=>∃(j c:List KW) (c0 c1:Option D) (i:List (List ax)),ls=j++c/\n=c.map fC/\e=(j.map λp=>aI (.str<|C.ver s t p.1) p.2).map D.bl/\U=[c0,c1,some (.ref k.a)]/\i.length<=us.length+j.length/\N=aM ad k C s t (.tup [.int a,.int b]) i M)
  (λ_ _ _ _ _=>bd) ?_ ?_ ?_ _ _ _ _ ⟨[],ls,c0,c1,us,rfl,rfl,rfl,rfl,by simp,rfl⟩
 .rintro e U N ⟨j,c,c0,c1,i,f,l,rfl,rfl,u,rfl⟩
  have:c=[]:=by cases c with|nil=>rfl|cons _ _=>simp at l
  subst this;rw[NT]at f;subst f;exact h i
 .rintro x n e U N ⟨j,c,c0,c1,i,f,l,rfl,rfl,u,rfl⟩ N' w _
  cases c with
  |nil=>simp at l
  |cons y c=>
   simp only[Nb,NU,fC]at l;obtain⟨rfl,rfl⟩:=l;have g:=congrArg Oj f;simp only[Nd,MZ]at g;have r:=hw y (by rw[f];simp)
   simp only[cU,aP,cD,ah,NH,bX,if_true,am,ai,MZ,Nq];refine⟨trivial,E_ (k:=k) (x:=b8 y.1) Dq HY (λK q=>q) (λK q=>q) (aA λQ' E' v _=>zJ o hs ht ea eb (by lia) (v _ _ ?_))⟩
   show bw 60 (.str _)=true/\bw 60 (dv _ y.2)=true/\_;rw[iU r];refine⟨rfl,gQ r,?_⟩;exact w _ _ _ (by rw[MW,MW];exact fS (by lia)) ⟨j++[y],c,_,_,_,by simp[f],rfl,by simp[dv],rfl,by have:=AV (ts:=i) (ks:=y.1);simp;lia,rfl⟩
 .rintro x n e U N ⟨j,c,c0,c1,i,f,l,rfl,rfl,u,rfl⟩
  have g:=congrArg Oj f;simp only[Nd]at g;rw[MW,MW];exact fS (by lia)
theorem vU{N:Mem}{w:D}{K:Bool->Mem->Prop}(hw:w∈iz)(h:K (!aI w (.str "faulty")) N):iX w (.str "faulty") N λd M'=>match d with|.bl b=>K b M'|_=>False:=by
 refine⟨by rw[iU hw];exact gQ hw,rfl,?_⟩
 rw[iU hw];exact h
theorem kz{l:List ax}{w:D}(hw:∀p∈kws,p.2∈iz)(h:ba kws l=some w):w∈iz:=by
 obtain⟨p,c,rfl⟩:=Et h;exact hw p c
theorem Fj{D':DEnds}{EE:DX}{d:Addr}{x0 x3:Option D}(o:C.Ok)(hs:SOk C s)(ht:SOk C t)(ea:C.mark s=.int a)(eb:C.mark t=.int b)(hw:∀p∈kws,p.2∈iz)(hl:kws.length<=50000)(hc:cs.length<=100)(h1:d≠k.a)(h2:d≠k.t)
  (h:∀us',D'.rt (.bl ((b_ cs).all (λl=>!cn (ba kws l))&&kws.all λp=>aI (.str<|C.ver s t p.1) p.2)) (aM ad k C s t (.tup [.int a,.int b]) us'<|M.upd d<|.dT kws)):
  ik ad EE D' [x0,some (.tup [.lst (kws.map fC),b8 cs]),some (.ref k.a),x3,some (.ref d)] (aM ad k C s t (.tup [.int a,.int b]) []<|M.upd d<|.dT kws):=by
 have c:∀l,b8 l=.lst (l.map kD):=λ_=>rfl;have u:∀us,aM ad k C s t (.tup [.int a,.int b]) us (M.upd d<|.dT kws) d=some (.dT kws):=λus=>by
  unfold aM;rw[ag h2,ag h1,Mem.upd_same]
 unfold ik;generalize j:jR ad EE=K1;simp only[ao,aL,bU,aQ,aa,ai,aW,cX,aj,am,ac,ae,dC,MV,dt,az,bt,atI_1];refine⟨rfl,aA λQ' E' v _=>ph (by lia) λp A=>v _ _ (bY A ?_)⟩
 simp only[bt,cq,cc,Nb,NM,Nz,NG,MV,dt,OB];have G:(b_ cs).length=cs.length:=by simp[b_]
 refine dD (λx=>.bl (match x with|.lst xs=>(match bP xs with|some l=>cn (ba kws l)|none=>true)|_=>true)) bd (by simp;lia) (λx y K q=>?_) ?_
 .obtain⟨l,z,rfl⟩:=Nu.mp y
  simp only[c,bv]at q;simp only[am,qf,ac,aQ,aa,ae,dC,MV,dt,FX,u,true_and,c,aJ,cP,so (u _)];cases n:ba kws l with
  |none=>
   rw[n]at q;exact⟨rfl,rfl,q⟩
  |some w=>
   have g:=kz hw n;rw[n]at q;refine⟨by rw[iU g];exact gQ g,rfl,?_⟩
   rw[iU g];exact q
 .intro I f
  have e:(((b_ cs).map b8).map λx=>D.bl (match x with|.lst xs=>(match bP xs with|some l=>cn (ba kws l)|none=>true)|_=>true))=((b_ cs).map λl=>cn (ba kws l)).map D.bl:=by
   rw[NQ,NQ];refine Og λl _=>?_;simp only[OH,c,bv]
  have B:((b_ cs).map λl=>cn (ba kws l)).any id=!((b_ cs).all λl=>!cn (ba kws l)):=by
   rw[List.any_map,List.all_eq_not_any_not,Bool.not_not];congr 1;funext l;simp
  rw[e];refine bY f ?_;simp only[CY,cP,eD,B,zH];cases r:(b_ cs).all (λl=>!cn (ba kws l)) with
  |false=>
   have:=h [];rw[r]at this;exact this
  |true=>
   rw[OV,if_neg (by simp)]
   unfold aE;dsimp only;rw[<- j];unfold jR;simp only[aC,aQ,aa,ai,aW,cX,am,ac,ae,dC,MV,dt,az,bt,atI_0,cq,cc,Nb,NM,Nz,NG,OB];refine AI o hs ht ea eb (by simp;lia) hw λus' H i=>?_
   have F:(kws.map λp=>aI (.str<|C.ver s t p.1) p.2).all id=kws.all λp=>aI (.str<|C.ver s t p.1) p.2:=by rw[RT];rfl
   refine bY i ?_;simp only[tG,cP,eD,F];have:=h us';rw[r]at this;exact this
theorem EK{D':DEnds}{EE:DX}{d:Addr}{x0 x3:Option D}(o:C.Ok)(hs:SOk C s)(ht:SOk C t)(ea:C.mark s=.int a)(eb:C.mark t=.int b)(hw:∀p∈kws,p.2∈iz)(hl:kws.length<=50000)(hc:cs.length<=100)(h1:d≠k.a)(h2:d≠k.t)
  (h:∀us',D'.rt (.bl (om (ba kws cs)&&((b_ cs).all (λl=>!cn (ba kws l))&&kws.all λp=>aI (.str<|C.ver s t p.1) p.2))) (aM ad k C s t (.tup [.int a,.int b]) us'<|M.upd d<|.dT kws)):
  ie ad EE D' [x0,some (.tup [.lst (kws.map fC),b8 cs]),some (.ref k.a),x3,some (.ref d)] (aM ad k C s t (.tup [.int a,.int b]) []<|M.upd d<|.dT kws):=by
 have c:∀l,b8 l=.lst (l.map kD):=λ_=>rfl;have i:∀us,aM ad k C s t (.tup [.int a,.int b]) us (M.upd d<|.dT kws) d=some (.dT kws):=λus=>by
  unfold aM;rw[ag h2,ag h1,Mem.upd_same]
 unfold ie;generalize f:ik ad EE=K2;simp only[ao,aL,ar,am,rf,ac,aQ,aa,ae,dC,MV,dt,FX,i,true_and,az,bt,atI_1,c,aJ,cP,so (i _)];rw[<- c];cases e:ba kws cs with
 |none=>
  have:=h [];rw[e]at this;exact⟨rfl,rfl,this⟩
 |some w=>
  have j:=kz hw e;refine vU j ?_;cases g:aI w (.str "faulty") with
  |false=>
   have:=h [];rw[e]at this;simp only[om,g]at this;exact this
  |true=>
   rw[OV,if_neg (by simp)]
   unfold aE;dsimp only;rw[<- f];refine Fj o hs ht ea eb hw hl hc h1 h2 λus'=>?_;have:=h us';rw[e]at this;simp only[om,g,O5]at this;exact this
end
def iI:D->Bool
 |.tup [.tup _,_]=>true
 |.tup [_]=>true
 |.tup [_,_,_]=>true
 |.lst [_,_]=>true
 |.non=>true
 |_=>false
section
variable {C:Cse}{s t:Sta}{ad:Ad}{M:Mem}{Q:DK}{E:DX}{cs ks all:List ax}{ts us:List (List ax)}{k:Ak}{a b:Int}{two:D}{kws:List KW}{rows:List D}{m v:D}
theorem uc(hv:iI v=true)(h:Q (.bl false) M):zP ad [b8 all,v] M Q E:=by
 rw[LO (n:=0)];unfold Bk;generalize oQ ad (aw E)=K2;unfold iI at hv
 split at hv
 all_goals first
  |(cases hv;done)
  |(simp![bJ,eN,NO,Ob,NV,NW,N6,NN,NF,beq_self_eq_true,atI_0,MZ,Nq]
    exact aq h)
theorem Au(o:C.Ok)(hs:SOk C s)(ht:SOk C t)(ea:C.mark s=.int a)(eb:C.mark t=.int b)(hab:a≠b)(hv:iI v=true)(h:Q (.bl false) M):lX ad [aF C s t,v] M Q E:=by
 have fb:∀{M:Mem} {Q:DK} {b:Bool},Q (.bl b) M->frz (.bl b) M Q:=λh=>h;rw[FI (n:=0)];unfold qM;generalize g:fR ad (aw E)=K7;simp![];intro x i;refine aA λQ2 E2 f _=>xW i o hs ht ea eb hab λk j c=>f _ _ ?_;subst j;simp![];rw[<- g];unfold fR jE;generalize gY ad (aw E)=K5;simp only[ao,av,ai,aj,aa,ac,ae,MV,dt];refine⟨rfl,lS o hs ht ?_⟩;simp only[ah,NH,aL,dk,bU,ai,aj,aa,ac,ae,MV,dt];refine⟨rfl,aG (d:=.bl false) (λ_ _ q=>uc hv q)<|fb ?_⟩;simp only[zH,OF,if_true,aC,dC];exact⟨M,λb o e=>Cp i c b o e,h⟩
theorem yJ(o:C.Ok)(hs:SOk C s)(ht:SOk C t)(ea:C.mark s=.int a)(eb:C.mark t=.int b)(hab:a≠b)(hu:(aY C s t).length<=100)(hr:∀r∈rows,bS r)(hl:rows.length<=50000)(hm:MixAny m)
  (h:Q (.bl<|qz C s t rows m) M):lX ad [aF C s t,.tup [.lst rows,m]] M Q E:=by
 have R:∀l,b8 l=.lst (l.map kD):=λ_=>rfl;have fb:∀{M:Mem} {Q:DK} {b:Bool},Q (.bl b) M->frz (.bl b) M Q:=λh=>h;rw[FI (n:=0)];unfold qM;generalize W:fR ad (aw E)=K7;simp![];intro x Z;refine aA λQ2 E2 X _=>xW Z o hs ht ea eb hab λk hk I=>X _ _ ?_;subst hk;simp![];rw[<- W];unfold fR jE;generalize hK5:gY ad (aw E)=K5;simp only[ao,av,ai,aj,aa,ac,ae,MV,dt];refine⟨rfl,lS o hs ht ?_⟩;simp only[ah,NH,aL,dk,bU,ai,aj,aa,ac,ae,MV,dt];refine⟨rfl,aG (λ_ _ q=>qP hr (by lia) hm (by lia) q)<|fb ?_⟩
 have K:qz C s t rows m=false->drp Q (.bl false) (aM ad k C s t (.tup [.int a,.int b]) [] M):=λe=>by
  rw[e]at h;exact⟨M,λb o e=>Cp Z I b o e,h⟩
 cases O:bN (aY C s t) rows with
 |none=>
  simp only[R9,NF,zH,OF,if_true,aC,dC];exact K (by unfold qz;rw[O])
 |some kws=>
 cases J:mH (aY C s t) m with
 |none=>
  have c:dz (aY C s t) m=false:=by rw[<- nW,J];rfl
  simp only[c,P0,NF,NN,zH,OF,if_true,aC,dC];exact K (by unfold qz;rw[O,J])
 |some cs=>
  have c:dz (aY C s t) m=true:=by rw[<- nW,J];rfl
  obtain⟨rfl,k2⟩:=cM O;obtain⟨rfl,c2⟩:=ni J;have eT:qz C s t (kws.map fC) (b8 cs)=iS C s t kws cs:=by unfold qz;rw[O,J]
  rw[eT]at h K;have cl:=ud c2;have kl:kws.length<=50000:=by simpa using hl
  have hw:∀p∈kws,p.2∈iz:=λp hp=>by
   rcases hr _ (OL hp) with z|⟨m',w,_,hw,z|z⟩|⟨m',_,z⟩
   .cases z
   .cases z;exact hw
   .cases z
   .cases z
  simp only[c,P0,PM,zH,Bool.not_not];cases kws with
  |nil=>
   simp only[NM,List.isEmpty_nil,if_true,aC,dC];exact K rfl
  |cons p0 kws'=>
  generalize j:p0::kws'=kws at *;have e0:(kws.map fC).isEmpty=false:=by rw[<- j];rfl
  rw[e0,if_neg (by simp)]
  unfold aE;dsimp only;rw[<- hK5];unfold gY oJ;generalize T:ie ad (aw E)=K3;simp only[ao,av,aQ,aa,ai,aW,cX,am,dC,ac,az,bt,atI_0,MV,dt,cq,cc,Nb,NM,Nz,NG];refine bM (λS g U N=>∃(G f:List KW) (B L:Option D),kws=G++f/\S=f.map fC/\g=G.map (λp=>.tup [.tup (p.1.map kD),p.2])/\U=[B,L]/\N=aM ad k C s t (.tup [.int a,.int b]) [] M) (λ_ _ _ _ _=>bd) ?_ ?_ ?_ _ _ _ _ ⟨[],kws,none,none,rfl,rfl,rfl,rfl,rfl⟩
  .rintro g U N ⟨G,f,B,L,c,F,rfl,rfl,rfl⟩
   have:f=[]:=by cases f with|nil=>rfl|cons _ _=>simp at F
   subst this;rw[NT]at c;subst c;intro p hp;refine bY hp ?_;simp only[ae,pI,Iz,cP,Bu,true_and];refine⟨by lia,λd hd=>?_⟩
   obtain⟨n1,n2,n3⟩:=Fb hd;rw[F3 n1 n2];have Y:kws.foldl (λa p=>bL a p.1 p.2) []=pf kws []:=rfl;rw[Y];have hN:∀u,aM ad k C s t (.tup [.int a,.int b]) [] (M.upd d<|.dT u) d=some (.dT u):=λu=>by
    unfold aM;rw[ag n2,ag n1,Mem.upd_same]
   have sb:∀us u,∀x o,M x=some o->aM ad k C s t (.tup [.int a,.int b]) us (M.upd d<|.dT u) x=some o:=λus u x o e=>by
    have q1:x≠d:=λz=>by rw[z,n3]at e;cases e
    have q2:x≠k.a:=λz=>by rw[z,Z]at e;cases e
    have q3:x≠k.t:=λz=>by rw[z,I]at e;cases e
    unfold aM;rw[ag q3,ag q2,ag q1];exact e
   have i:iS C s t kws cs=false->drp Q (.bl false) (aM ad k C s t (.tup [.int a,.int b]) []<|M.upd d<|.dT<|pf kws []):=λe=>by
    rw[e]at h;exact⟨M,sb _ _,h⟩
   simp only[ah,NH,ao,aL,mz,ar,aQ,aa,ac,ae,am,dC,MV,dt,ng,bh,bt,hN,atI_0,MW];show bw 60 (.int _)=true/\bw 60 (.int _)=true/\_;refine⟨rfl,rfl,?_⟩;have ev:∀(N:Mem),(!aI (dv N<|.int ((pf kws []).length:Nat)) (dv N<|.int (kws.length:Nat)))=!decide ((kws.map (·.1)).Nodup):=λN=>by
    rw[<- Ju];simp only[dv,aI];congr 1;exact decide_eq_decide.mpr ⟨λh=>by lia,λh=>by lia⟩
   rw[MW,ev]
   by_cases H:(kws.map (·.1)).Nodup
   .rw[decide_eq_true H,OV]
    dsimp only;rw[if_neg (by simp)]
    have a0:(kws.map fC)[0]?=some (.tup [b8 p0.1,p0.2]):=by rw[<- j];rfl
    have e3:=uB kws [] (by simpa using H)
    rw[NG]at e3;rw[e3]at i ⊢;simp only[dk,bU,ai,aj,aa,ac,ae,am,dC,MV,dt,az,bt,atI_0,a0];refine⟨rfl,aG (λ_ _ q=>qS (es:=p0.1.map kD) (ks:=aY C s t) (n:=21) (by have:=ud (k2 p0<|by rw[<- j];simp);simp;lia) (lc<|gR 60 _) q)<|fb ?_⟩
    have e4:fH (p0.1.map kD) (aY C s t)=decide (kws.head?.map (·.1)=some (aY C s t)):=by
     unfold fH;refine decide_eq_decide.mpr ?_;rw[same_map,<- j];exact⟨λh=>congrArg some ((QL λa b z=>AQ z).mp h),λh=>congrArg (List.map kD) (NZ h)⟩
    rw[e4];have e5:iS C s t kws cs=(decide (kws.head?.map (·.1)=some (aY C s t))&&(om (ba kws cs)&&((b_ cs).all (λl=>!cn (ba kws l))&&kws.all λp=>aI (.str<|C.ver s t p.1) p.2))):=by
     unfold iS;rw[decide_eq_true H,O5,Ru,Ru]
    rw[e5]at h i;cases B:decide (kws.head?.map (·.1)=some (aY C s t)) with
    |false=>
     simp only[zH,OF,if_true,aC,dC];exact i (by rw[B,NN])
    |true=>
     simp only[zH,OV,Nv,if_false];unfold aE;dsimp only;rw[<- T];rw[B,O5]at h;exact EK o hs ht ea eb hw kl (by lia) n1 n2 λus'=>⟨M,sb _ _,h⟩
   .rw[decide_eq_false H,OF]
    simp only[if_true,aC,dC];exact i (by unfold iS;rw[decide_eq_false H];rfl)
  .rintro x S g U N ⟨G,f,B,L,c,F,rfl,rfl,rfl⟩ N' P _
   cases f with
   |nil=>simp at F
   |cons y f=>
    simp only[Nb,NU,fC]at F;obtain⟨rfl,rfl⟩:=F;have A:=congrArg Oj c;simp only[Nd,MZ]at A;simp![R];exact⟨aZ (by decide),P _ _ _ (by rw[MW];exact fS (by lia)) ⟨G++[y],f,_,_,by simp[c],rfl,by simp,rfl,rfl⟩⟩
  .rintro x S g U N ⟨G,f,B,L,c,F,rfl,rfl,rfl⟩
   have A:=congrArg Oj c;simp only[Nd]at A;rw[MW];exact fS (by lia)
end
def jm(C:Cse)(s t:Sta)(p:KW):Bool:=aI p.2 (.str<|C.ver s t p.1)
theorem wu{all:List ax}:∀{a b:List D} {ps qs:List KW},bN all a=some ps->bN all b=some qs->bN all (a++b)=some (ps++qs)
 |[],b,ps,qs,h1,h2=>by cases h1;simpa using h2
 |r::a,b,ps,qs,h1,h2=>by
  simp only[bN]at h1
  split at h1
  .rename_i p e f c
   cases h1;have:=wu c h2;simp only[Nz,bN,f,this]
  .cases h1
theorem qT{all:List ax}{r:D}(h:eJ all r=none):∀{a b:List D},bN all (a++r::b)=none
 |[],b=>by simp only[NG,bN,h]
 |x::a,b=>by
  have:=qT h (a:=a) (b:=b);simp only[Nz,bN,this]
  split<;>simp_all
theorem xT{all:List ax}{r:D}{p:KW}(h:eJ all r=some p):∀{a b:List D} {ps:List KW},bN all (a++r::b)=some ps->p∈ps
 |[],b,ps,e=>by
  simp only[NG,bN,h]at e
  split at e
  .rename_i f c;cases f;cases e;simp
  .cases e
 |x::a,b,ps,e=>by
  simp only[Nz,bN]at e
  split at e
  .rename_i f c;cases e;exact Nk _ (xT h c)
  .cases e
theorem lessK_all{cs:List ax}{f:List ax->Bool}:(b_ cs).all f=true↔∀i<cs.length,f (cs.take i++cs.drop (i+1))=true:=by
 simp[b_,OX]
section
variable {C:Cse}{s t:Sta}{ad:Ad}{M N:Mem}{Q:DK}{E:DX}{cs ks:List ax}{kws us:List KW}{rows:List D}{m v:D}{d:Addr}
theorem Mu{w:D}{K:DK}(hw:w∈iz)(h:K (.str (cr w).shown) M):da [w] M K:=
 ⟨gQ hw,(oY w hw).1,Ny (oY w hw).2 (aZ<|by decide),h⟩
theorem ML{x:Str}{K:DK}(hx:x∈(["sound","faulty","other"]:List Str))(h:K (.str (PZ x).shown) M):da [.str x] M K:=by
 have:∀x∈(["sound","faulty","other"]:List Str),(PZ x).shown.length<=60:=by decide +kernel
 exact⟨rfl,rfl,Ny (this x hx) (aZ<|by decide),h⟩
theorem AH{EE:DX}{D2:DEnds}{x2 c5 c6:Option D}{r:D}(cs0:CsOk C s t)(hk:∀k∈aY C s t,k∈elK)(hu:(aY C s t).length<=100)(hr:bS r)(hd:M d=some (.dT us))(hl:us.length<=100000)
  (h0:eJ (aY C s t) r=none->D2.rt (.bl false) M)
  (h1:∀p,eJ (aY C s t) r=some p->jm C s t p=false->D2.rt (.bl false) M)
  (h2:∀p,eJ (aY C s t) r=some p->jm C s t p=true->D2.nx [some (aF C s t),some (b8<|aY C s t),x2,some (.ref d),some r,c5,c6] (M.upd d<|.dT<|bL us p.1 p.2)):
  mj ad EE D2 [some (aF C s t),some (b8<|aY C s t),x2,some (.ref d),some r,c5,c6] M:=by
 have f:∀l,b8 l=.lst (l.map kD):=λ_=>rfl;have fb:∀{M:Mem} {Q:DK} {b:Bool},Q (.bl b) M->frz (.bl b) M Q:=λh=>h;have fs:∀{M:Mem} {Q:DK} {x:Str},Q (.str x) M->frz (.str x) M Q:=λh=>h;unfold mj;generalize g:pb ad EE=K2;rcases hr with rfl|⟨m,w,hm,hw,rfl|rfl⟩|⟨m,hm,rfl⟩
 .simp![bJ,eN,NO,Ob,NV,NW,N6,NN,NF,beq_self_eq_true]
  exact h0 rfl
 .have a:=zL (all:=aY C s t) (m:=m) (w:=w)
  simp only[ao,aL,mz,dk,bU,ar,am,aQ,aa,ae,ac,dC,ai,aj,az,bt,atI_1,atI_0,bZ,cK,bh,MZ,Nq,MV,dt];refine⟨rfl,?_⟩;show bw 60 (.int _)=true/\bw 60 (.int _)=true/\_;refine⟨rfl,rfl,trivial,aG (λ_ _ q=>lV hm (by lia) hk q)<|fb ?_⟩
  cases i:dz (aY C s t) m with
  |false=>
   rw[i]at a;exact h0 (by simpa using a)
  |true=>
   rw[i]at a;obtain⟨p,c⟩:=Rr.mp a;obtain⟨n,y⟩:=mU c;simp only[fC,D.tup.injEq,NU,and_true]at n;obtain⟨rfl,rfl⟩:=n;show K2 D2 _ M;rw[<- g];unfold pb;generalize e:nZ ad EE=K1;simp only[ao,aL,ar,am,aQ,aa,ae,ac,dC,ai,aj,az,bt,atI_1,atI_0,MV,dt];refine Mu hw ?_;refine⟨rfl,aG (λ_ _ q=>nh .mx cs0.o cs0.hs cs0.ht q) ?_⟩;refine fs (ML tF ?_);refine⟨rfl,rfl,?_⟩;have u:∀(N:Mem),(!aI (L3.dv N<|.str (cr p.2).shown) (L3.dv N<|.str (PZ<|C.ver s t p.1).shown))=!jm C s t p:=λN=>by
    unfold jm;rw[<- Az p.2 hw _ tF];simp only[L3.dv,aI]
   rw[u];cases j:jm C s t p with
   |false=>exact h1 p c j
   |true=>
    show K1 D2 _ M;rw[<- e];unfold nZ av;simp only[am,ac,dC,az,bt,atI_1,atI_0,fg,aQ,aa,ae,MV,dt,f,aJ,C5,hd,mD,bv];simp only[cP,bv];exact⟨fS (by lia),h2 p c j⟩
 .simp![bJ,eN,NO,Ob,NV,NW,N6,NN,NF,beq_self_eq_true]
  exact h0 rfl
 .simp![bJ,eN,NO,Ob,NV,NW,N6,NN,NF,beq_self_eq_true,MZ,Nq]
  exact h0 (by cases m<;>rfl)
theorem Bh{EE:DX}{D':DEnds}(cs0:CsOk C s t)(hk:∀k∈aY C s t,k∈elK)(hu:(aY C s t).length<=100)(hr:∀r∈rows,bS r)(hl:rows.length<=50000)(hd:M d=none)
  (h0:bN (aY C s t) rows=none->∀u,D'.rt (.bl false) (M.upd d<|.dT u))
  (h1:∀kws,bN (aY C s t) rows=some kws->kws.all (jm C s t)=false->∀u,D'.rt (.bl false) (M.upd d<|.dT u))
  (h2:∀kws,bN (aY C s t) rows=some kws->kws.all (jm C s t)=true->∀c4,D'.nx [some (aF C s t),some (b8<|aY C s t),some (.tup [.lst rows,m]),some (.ref d),c4,none,none] (M.upd d<|.dT<|pf kws [])):
  cJ (cX<|am az (ac 2)<|dC<|.int 0) (ah 4) (mj ad EE) D' [some (aF C s t),some (b8<|aY C s t),some (.tup [.lst rows,m]),some (.ref d),none,none,none] (M.upd d<|.dT []):=by
 simp only[cJ,cX,am,ac,dC,az,bt,atI_0,cq,MV,dt]
 refine bA (λq U N=>∃(a:List D) (b:List KW) (c4:Option D),rows=a++q/\bN (aY C s t) a=some b/\b.all (jm C s t)=true/\U=[some (aF C s t),some (b8<|aY C s t),some (.tup [.lst rows,m]),some (.ref d),c4,none,none]/\N=M.upd d (.dT<|pf b []))
  (λ_ _ _ _=>bd) ?_ ?_ _ _ _ ⟨[],[],none,rfl,rfl,rfl,rfl,rfl⟩
 .rintro U N ⟨a,b,c4,c,h,l,rfl,rfl⟩
  rw[NT]at c;subst c;exact h2 b h l c4
 .rintro x q U N ⟨a,b,c4,c,h,l,rfl,rfl⟩ E' n _ f _
  have w:b.length<=rows.length:=by
   have:=(cM h).1;have:=congrArg Oj this;rw[c,Nd];rw[MW]at this;lia
  have i:=C1 b [];simp only[ah,NH];refine AH cs0 hk hu (hr x<|by rw[c];simp) Mem.upd_same (by simp at i;lia) (λe=>?_) (λp e g=>?_) λp e g=>?_
  .rw[f]
   exact h0 (by rw[c];exact qT e) _
  .rw[f]
   cases j:bN (aY C s t) rows with
   |none=>exact h0 j _
   |some kws=>
    refine h1 kws j ?_ _;have:=xT e (by rw[<- c];exact j)
    cases o:kws.all (jm C s t) with
    |false=>rfl
    |true=>rw[OX]at o;rw[o p this]at g;cases g
  .rw[Mem.upd_upd]
   have y:bL (pf b []) p.1 p.2=pf (b++[p]) []:=by simp[pf,List.foldl_append]
   rw[y];refine n _ _ ⟨a++[x],b++[p],_,by simp[c],wu h (by simp only[bN,e]),?_,rfl,rfl⟩
   rw[List.all_append,l];simp[g]
theorem LB{EE:DX}{D':DEnds}{x0 x1 x2 x4:Option D}(hd:M d=some (.dT kws))(hw:∀p∈kws,p.2∈iz)(hl:cs.length<=100)(h:D'.rt (.bl ((b_ cs).all λl=>!cn (ba kws l))) M):
  lL ad EE D' [x0,x1,x2,some (.ref d),x4,some (b8 cs),none] M:=by
 have b:∀l,b8 l=.lst (l.map kD):=λ_=>rfl;unfold lL;simp only[ao,cJ,bR,aQ,aa,ac,ae,bh,bt,b,MW,MV,dt];refine⟨by lia,by lia,?_⟩
 refine bA (λB U N=>∃(i:Nat) (u:Option D),i<=cs.length/\B=dX i (cs.length-i)/\(∀j<i,cn (ba kws (cs.take j++cs.drop (j+1)))=false)/\U=[x0,x1,x2,some (.ref d),x4,some (b8 cs),u]/\N=M) (λ_ _ _ _=>bd) ?_ ?_ _ _ _ ⟨0,none,by lia,by rw[kb];rfl,λj f=>by lia,rfl,rfl⟩
 .rintro U N ⟨i,u,I,a,f,rfl,rfl⟩
  have:cs.length-i=0:=by
   cases z:cs.length-i with
   |zero=>rfl
   |succ n=>rw[z]at a;simp[dX]at a
  have e:(b_ cs).all (λl=>!cn (ba kws l))=true:=lessK_all.mpr λj y=>by rw[f j (by lia)];rfl
  rw[e]at h;exact h
 .rintro x B U N ⟨i,u,I,a,f,rfl,rfl⟩ E' A _ o _
  have g:i<cs.length:=by
   apply Nat.lt_of_not_le;intro z;have:cs.length-i=0:=by lia
   rw[this]at a;simp[dX]at a
  have R:cs.length-i=(cs.length-(i+1))+1:=by lia
  rw[R,dX]at a;simp only[NU]at a;obtain⟨rfl,rfl⟩:=a;have a:((i:Nat):Int)+1=((i+1:Nat):Int):=by lia
  have c:cn (ba kws (cs.take i++cs.drop (i+1)))=true->E'.rt (.bl false) N:=λz=>by
   rw[o];have e:(b_ cs).all (λl=>!cn (ba kws l))=false:=by
    cases q:(b_ cs).all (λl=>!cn (ba kws l)) with
    |false=>rfl
    |true=>have:=lessK_all.mp q i g;rw[z]at this;cases this
   rw[e]at h;exact h
  have K:cn (ba kws (cs.take i++cs.drop (i+1)))=false->E'.nx [x0,x1,x2,some (.ref d),x4,some (b8 cs),some (.int (i:Nat))] N:=λz=>
   A _ _ ⟨i+1,_,by lia,rfl,λj y=>by
    by_cases q:j=i
    .subst q;exact z
    .exact f j (by lia),rfl,rfl⟩
  simp only[ah,NH];unfold sJ;simp only[aL,ar,am,qf,ac,MV,dt];refine⟨by simp only[FX,hd],?_⟩
  simp![b,Bb,jT];intro T O;simp![Mem.upd_del,af O,a,jT];intro W J;simp![Mem.upd_del,af J];refine⟨aZ (by simp only[MW,NP,NY];lia),λS P=>?_⟩
  have L:(cs.take i).map kD++(cs.drop (i+1)).map kD=(cs.take i++cs.drop (i+1)).map kD:=by rw[Ol]
  rw[L];simp![Mem.upd_del,af P,hd,bv];cases r:ba kws (cs.take i++cs.drop (i+1)) with
  |none=>
   have:=c (by rw[r];rfl)
   exact this
  |some w=>
   have F:=kz hw r;dsimp only;have e:=iU (M:=N) F;unfold L3.dv at e;rw[e];refine⟨gQ F,?_⟩;have G:cn (ba kws (cs.take i++cs.drop (i+1)))=aI w (.str "faulty"):=by rw[r];rfl
   cases H:aI w (.str "faulty") with
   |false=>
    rw[if_neg (by simp)]
    exact K (by rw[G,H])
   |true=>
    rw[if_pos rfl];exact c (by rw[G,H])
theorem Fu{r:D}(hr:bS r):bw 59 r=true:=by
 have mf:∀{m:D},MixAny m->bw 58 m=true:=λ{m} h=>by
  rcases h with rfl|⟨es,he,_,rfl|rfl⟩
  .rfl
  .exact cH es λx a=>(eS (n:=56)<|he x a).1
  .exact cH es λx a=>(eS (n:=56)<|he x a).1
 have b:∀{w:D},w∈iz->bw 58 w=true:=λ{w} h=>by
  simp only[iz,Nl,NK,or_false]at h;rcases h with rfl|rfl|rfl|rfl|rfl<;>rfl
 rcases hr with rfl|⟨m,w,hm,hw,rfl|rfl⟩|⟨m,hm,rfl⟩
 .rfl
 .simp only[bw,bV,mf hm,b hw,Qe]
 .simp only[bw,bV,mf hm,b hw,Qe]
 .simp only[bw,bV,mf hm,Qe]
theorem KH{EE:DX}{D':DEnds}{x0 x4:Option D}(hk:∀k∈aY C s t,k∈elK)(hu:(aY C s t).length<=100)(hr:∀r∈rows,bS r)(hm:MixAny m)(ek:bN (aY C s t) rows=some kws)(hl:kws.length<=50000)(hg:kws.all (jm C s t)=true)(hd:M d=some (.dT<|pf kws []))
  (h:D'.rt (.bl<|qz C s t rows m) M):o5 ad EE D' [x0,some (b8<|aY C s t),some (.tup [.lst rows,m]),some (.ref d),x4,none,none] M:=by
 have c:∀l,b8 l=.lst (l.map kD):=λ_=>rfl;have fb:∀{M:Mem} {Q:DK} {b:Bool},Q (.bl b) M->frz (.bl b) M Q:=λh=>h;obtain⟨j,k2⟩:=cM ek;have lr:rows.length=kws.length:=by rw[j,MW]
 have g:∀p∈kws,p.2∈iz:=λp o=>by
  rcases hr (fC p) (by rw[j];exact OL o) with z|⟨m',w,_,g,z|z⟩|⟨m',_,z⟩
  .cases z
  .cases z;exact g
  .cases z
  .cases z
 have U:(kws.all λp=>aI (.str<|C.ver s t p.1) p.2)=true:=by
  rw[OX]at hg ⊢;intro p o;rw[<- xH p.2 (g p o)];exact hg p o
 have n:(∀cs,mH (aY C s t) m=some cs->iS C s t kws cs=false)->D'.rt (.bl false) M:=λz=>by
  have e:qz C s t rows m=false:=by
   unfold qz;rw[ek];cases a:mH (aY C s t) m with
   |none=>rfl
   |some cs=>exact z cs a
  rw[e]at h;exact h
 unfold o5;generalize u:ox ad EE=K7;simp only[ao,aL,mz,ar,am,aQ,aa,ae,ac,dC,ai,bn,az,bt,atI_0,bh,ng,hd,ub,yw,MZ,Nq,MV,dt]
 by_cases i:(kws.map (·.1)).Nodup
 .have H:=uB kws [] (by simpa using i)
  rw[NG]at H;rw[H]at hd ⊢;have y:decide (((kws.length:Nat):Int)<((rows.length:Nat):Int))=false:=decide_eq_false (by lia)
  rw[y,if_neg (by simp)]
  refine⟨aZ (by decide),λq O=>bY O ?_⟩
  have S:bw 60 (.lst rows)=true:=cH rows λr W=>Fu (hr r W);refine⟨S,rfl,?_⟩;cases kws with
  |nil=>
   subst j;simp only[NM];show D'.rt (.bl false) M;exact n λcs a=>rfl
  |cons p0 kws'=>
  generalize f:p0::kws'=kws at *;have G:rows=fC p0::kws'.map fC:=by rw[j,<- f];rfl
  have R:aI (L3.dv M<|.lst rows) (L3.dv M<|.lst [])=false:=by rw[G];rfl
  rw[R];simp only[Nv,if_false];have T:rows[0]?=some (.tup [b8 p0.1,p0.2]):=by rw[G];rfl
  simp only[T,atI_0];have J:∀l:List ax,bw 60 (b8 l)=true:=λl=>gR 59 l;refine⟨J _,J _,?_⟩;have Y:(!aI (L3.dv M<|b8 p0.1) (L3.dv M<|b8<|aY C s t))=!decide (kws.head?.map (·.1)=some (aY C s t)):=by
   have:aI (b8 p0.1) (b8<|aY C s t)=decide (p0.1=aY C s t):=uC _ _;show (!aI (b8 p0.1) (b8<|aY C s t))=_;rw[this,<- f];congr 1;exact decide_eq_decide.mpr ⟨λh=>congrArg some h,λh=>NZ h⟩
  rw[Y];have F:∀cs,iS C s t kws cs=(decide (kws.head?.map (·.1)=some (aY C s t))&&(om (ba kws cs)&&(b_ cs).all (λl=>!cn (ba kws l)))):=λcs=>by
   unfold iS;rw[decide_eq_true i,O5,U,PM,Ru]
  cases K:decide (kws.head?.map (·.1)=some (aY C s t)) with
  |false=>
   show D'.rt (.bl false) M;exact n λcs a=>by rw[F,K];rfl
  |true=>
   show K7 D' _ M;rw[<- u];unfold ox tE;generalize A:lL ad EE=K5;simp only[ao,av,ah,NH,aL,mz,dk,bU,ar,am,az,bt,atI_1,rf,aQ,aa,ae,ac,dC,ai,aj,MV,dt];refine⟨rfl,aG (λ_ _ q=>lV hm (by lia) hk q)<|fb ?_⟩
   cases a:mH (aY C s t) m with
   |none=>
    have x:dz (aY C s t) m=false:=by rw[<- nW,a];rfl
    rw[x];show D'.rt (.bl false) M;exact n λcs z=>by rw[a]at z;cases z
   |some cs=>
    have x:dz (aY C s t) m=true:=by rw[<- nW,a];rfl
    rw[x];obtain⟨rfl,L⟩:=ni a;have Z:=ud L;have X:qz C s t rows (b8 cs)=(om (ba kws cs)&&(b_ cs).all (λl=>!cn (ba kws l))):=by
     unfold qz;rw[ek,a];show iS C s t kws cs=_;rw[F,K,O5]
    rw[X]at h;refine⟨by simp only[FX,hd],?_⟩
    simp only[c,aJ,cP,so hd];rw[<- c];cases B:ba kws cs with
    |none=>
     rw[B]at h;exact⟨rfl,rfl,h⟩
    |some w=>
     have P:=kz g B;refine vU P ?_;rw[B]at h;cases I:aI w (.str "faulty") with
     |false=>
      simp only[om,I,NN]at h;exact h
     |true=>
      simp only[om,I,O5]at h;show K5 D' _ M;rw[<- A];exact LB hd g (by lia) h
 .have y:decide ((((pf kws []).length:Nat):Int)<((rows.length:Nat):Int))=true:=decide_eq_true (by
   have:=CJ kws [] (by simp) (by simpa using i)
   simp at this;lia)
  rw[y];show D'.rt (.bl false) M;exact n λcs a=>by unfold iS;rw[decide_eq_false i];rfl
theorem sZ(cs0:CsOk C s t)(hk:∀k∈aY C s t,k∈elK)(hu:(aY C s t).length<=100)(hr:∀r∈rows,bS r)(hl:rows.length<=50000)(hm:MixAny m)(h:Q (.bl<|qz C s t rows m) M):
  sE ad [aF C s t,b8 (aY C s t),.tup [.lst rows,m]] M Q E:=by
 rw[Ln (n:=0)];unfold CD;generalize q:lI ad (aw E)=K;simp only[ao,aL,mz,dk,bU,ar,am,aQ,aa,ae,ac,dC,az,bt,atI_0,bZ,cK,bh,av,qJ,ah,MZ,Nq,MV,dt];refine⟨rfl,?_⟩;show bw 60 (.int _)=true/\bw 60 (.int _)=true/\_;refine⟨rfl,rfl,rfl,λd f=>?_⟩;rw[<- q];unfold lI;have a:∀v x o,M x=some o->(M.upd d v) x=some o:=λv x o e=>by rw[ag (λz=>by rw[z,f]at e;cases e)];exact e
 refine Bh cs0 hk hu hr hl f (λe u=>⟨M,λb o e=>a _ b o e,?_⟩) (λkws e g u=>⟨M,λb o e=>a _ b o e,?_⟩) λkws e g y=>?_
 .have z:qz C s t rows m=false:=by unfold qz;rw[e]
  rw[z]at h;exact h
 .have z:qz C s t rows m=false:=by
   unfold qz;rw[e];cases mH (aY C s t) m with
   |none=>rfl
   |some cs=>
    show iS C s t kws cs=false;unfold iS;have:(kws.all λp=>aI (.str<|C.ver s t p.1) p.2)=false:=by
     obtain⟨l,A⟩:=cM e;cases i:(kws.all λp=>aI (.str<|C.ver s t p.1) p.2) with
     |false=>rfl
     |true=>
      rw[OX]at i;have:kws.all (jm C s t)=true:=by
       rw[OX];intro p j;have c:p.2∈iz:=by
        rcases hr (fC p) (by rw[l];exact OL j) with z|⟨m',w,_,c,z|z⟩|⟨m',_,z⟩
        .cases z
        .cases z;exact c
        .cases z
        .cases z
       unfold jm;rw[xH p.2 c];exact i p j
      rw[this]at g;cases g
    rw[this,NF]
  rw[z]at h;exact h
 .have lk:kws.length<=50000:=by
   have:=congrArg Oj (cM e).1;rw[MW]at this;lia
  exact KH hk hu hr hm e lk g Mem.upd_same ⟨M,λb o e=>a _ b o e,h⟩
theorem yx(hv:iI v=true)(h:Q (.bl false) M):sE ad [aF C s t,b8 (aY C s t),v] M Q E:=by
 rw[Ln (n:=0)];unfold CD;generalize ao (av qJ<|ah 3) (lI ad<|aw E)=K2;unfold iI at hv
 split at hv
 all_goals first
  |(cases hv;done)
  |(simp![bJ,eN,NO,Ob,NV,NW,N6,NN,NF,beq_self_eq_true,atI_0,MZ,Nq]
    exact aq h)
end
section
variable {C:Cse}{s t:Sta}{ad:Ad}{M N:Mem}{Q:DK}{E:DX}{ks all:List ax}{k:Pt}{b:Nat}
theorem kH{n:Nat}(hn:n<=11)(h:Q (.int ((2 ^ n:Nat):Int)) M):qK ad [.int (n:Nat)] M Q E:=by
 rw[Ku (n:=0)];unfold yg oC;simp only[ao,av,dC,ah,NH,cJ,bR,aa,ac,ae,MV,dt];refine⟨by lia,by lia,?_⟩
 refine bA (λf U N=>∃(i:Nat) (c:Option D),i<=n/\f=dX i (n-i)/\U=[some (.int (n:Nat)),some (.int ((2 ^ i:Nat):Int)),c]/\N=M) (λ_ _ _ _=>bd) ?_ ?_ _ _ _ ⟨0,none,by lia,by rw[kb];rfl,rfl,rfl⟩
 .rintro U N ⟨i,c,j,a,rfl,rfl⟩
  have:n-i=0:=by
   cases z:n-i with
   |zero=>rfl
   |succ m=>rw[z]at a;simp[dX]at a
  have:i=n:=by lia
  subst this;exact aq h
 .rintro x f U N ⟨i,c,j,a,rfl,rfl⟩ E' e _ p _
  have l:i<n:=by
   apply Nat.lt_of_not_le;intro z;have:n-i=0:=by lia
   rw[this]at a;simp[dX]at a
  have r:n-i=(n-(i+1))+1:=by lia
  rw[r,dX]at a;simp only[NU]at a;obtain⟨rfl,rfl⟩:=a;have:=e [some (.int (n:Nat)),some (.int ((2 ^ (i+1):Nat):Int)),some (.int (i:Nat))] N ⟨i+1,_,by lia,rfl,rfl,rfl⟩
  have o:((2 ^ (i+1):Nat):Int)=((2 ^ i:Nat):Int)*2:=by rw[R0,Int.natCast_mul];rfl
  rw[o]at this;have g:2 ^ i<=2 ^ 11:=Qy (by decide) (by lia)
  simp![];generalize 2 ^ i=q at g this ⊢;exact⟨.inl ⟨by lia,by lia⟩,this⟩
theorem B_(k0:ax):∀l:List ax,(NL l.length).map (λi=>l.getD i k0)=l:=λl=>by
 refine List.ext_getElem (by simp) λi c a=>?_
 simp[a]
theorem ut{v:Int}(ha:all.length<=11)(h:∀p (l:List ax),M p=none->l.Sublist all->Q (.ref p) (M.upd p<|.lst<|l.map kD)):xz ad [b8 all,.int v] M Q E:=by
 have j:∀l,b8 l=.lst (l.map kD):=λ_=>rfl;rw[Lg (n:=0)];unfold vN;simp only[aC,aW,bR,aa,aQ,ac,ae,bh,bt,j,MW,MV,dt,cc,Nb,NM,Nz,NG,OB];refine⟨by lia,by lia,?_⟩
 have m:Py (all.length:Nat)=all.length:=Nw _;rw[m];refine iy (λd=>match d with|.int i=>decide (v / ((2 ^ i.toNat:Nat):Int) % 2=1)|_=>false) (λd=>match d with|.int i=>kD (all.getD i.toNat<|.inl 0)|_=>.non) bd (by simp[bD];lia) (λx a K q=>?_) (λx a _ K q=>?_) ?_
 .simp only[bD,Nu,N7]at a
  obtain⟨i,g,rfl⟩:=a;rw[Pl]at q ⊢;simp only[Nw]at q;simp only[ar,am,ai,aj,aa,ac,ae,dC,MV,dt];refine⟨rfl,aG (λ_ _ q=>kH (by lia) q) ?_⟩
  have c:0<2 ^ i:=Nat.two_pow_pos i;have f:2 ^ i<=2 ^ 11:=Qy (by decide) (by lia)
  simp![];refine⟨?_,by decide,q⟩
  generalize 2 ^ i=r at c f ⊢;exact⟨by lia,by lia⟩
 .simp only[bD,Nu,N7]at a
  obtain⟨i,g,rfl⟩:=a;rw[Pl]at q ⊢;have o:atI (all.map kD) (i:Nat)=some (kD<|all.getD i<|.inl 0):=by
   rw[bO (by lia),Nw,Nr,MY g]
   simp[g]
  simp only[Nw]at q;simp![o];exact q
 .intro p c
  refine aq ?_
  have e:((bD 0 all.length).filter λd=>match d with|.int i=>decide (v / ((2 ^ i.toNat:Nat):Int) % 2=1)|_=>false).map (λd=>match d with|.int i=>kD (all.getD i.toNat<|.inl 0)|_=>.non)
    = (((NL all.length).filter λi=>decide (v / ((2 ^ i:Nat):Int) % 2=1)).map λi=>all.getD i (.inl 0)).map kD:=by
   unfold bD;rw[PV,NQ,NQ];have u:(NL all.length).filter ((λd=>match d with|.int i=>decide (v / ((2 ^ i.toNat:Nat):Int) % 2=1)|_=>false) ∘ λ(i:Nat)=>D.int (0+(i:Int)))=(NL all.length).filter λi=>decide (v / ((2 ^ i:Nat):Int) % 2=1):=
    PD λi _=>by simp only[OH,Pl,Nw]
   rw[u];refine Og λi _=>?_;simp only[OH,Pl,Nw]
  rw[e];refine h p _ c ?_;have:=(List.filter_sublist (p:=λi=>decide (v / ((2 ^ i:Nat):Int) % 2=1)) (l:=NL all.length)).map λi=>all.getD i (.inl 0);rw[B_]at this;exact this
def mu(ks:List ax)(a n:Nat):Nat:=ks.length*(n+2)+(ks.length-a)
theorem yS{EE:DX}{D2:DEnds}{a0:Nat}{x2 c5 c6:Option D}(cs0:CsOk C s t)(hl:ks.length<=100)(ha:a0<ks.length)(hp:Has k (b+1) N)
  (h:∀(l:List ax) (a1:Nat) c5 c6 N',l.Sublist ks->(l.length<ks.length/\a1=0\/l=ks/\a1=a0+1)->Dr k b N N'->D2.nx [some (.ref k.p),some (aF C s t),x2,some (b8 l),some (.int (a1:Nat)),c5,c6] N'):
  fU ad EE D2 [some (.ref k.p),some (aF C s t),x2,some (b8 ks),some (.int (a0:Nat)),c5,c6] N:=by
 have a:∀l,b8 l=.lst (l.map kD):=λ_=>rfl;have fs:∀{M:Mem} {Q:DK} {x:Str},Q (.str x) M->frz (.str x) M Q:=λh=>h;unfold fU;generalize e:jG ad EE=K3;simp only[ao,av,am,ai,aj,aa,ac,aQ,ae,bh,bt,a,MW,MV,dt];refine⟨rfl,aB (b:=b) hp (by lia) (by lia) λr N2 m J j=>?_⟩
 have H:¬((ks.length:Nat):Int)=0:=by lia
 have I:0<=((a0:Nat):Int)+r:=by lia
 have y:(((a0:Nat):Int)+r) % ((ks.length:Nat):Int)=(((a0+r.toNat) % ks.length:Nat):Int):=by
  rw[Int.natCast_emod,Int.natCast_add,Sv m]
 simp![a,MW];refine⟨by lia,?_⟩
 rw[y];have v:(a0+r.toNat) % ks.length<ks.length:=Nat.mod_lt _ (by lia)
 generalize (a0+r.toNat) % ks.length=i at v;have q:((i:Nat):Int)+1=((i+1:Nat):Int):=by lia
 rw[<- e];unfold jG;generalize f:kC ad EE=K2;simp![a,Bb,jT];intro G B;simp![Mem.upd_del,af B,q,jT];intro K w;simp![Mem.upd_del,af w];refine⟨aZ (by simp only[MW,NP,NY];lia),λF u=>?_⟩
 have A:(ks.take i).map kD++(ks.drop (i+1)).map kD=(ks.take i++ks.drop (i+1)).map kD:=by rw[Ol]
 rw[A];simp![Mem.upd_del,af u];rw[<- a,<- a,<- f];unfold kC;generalize g:jz ad EE=K1;simp only[aL,ar,am,ai,aj,aa,ac,ae,dC,MV,dt];refine⟨rfl,gI cs0.o cs0.hs cs0.ht<|fs ⟨rfl,rfl,?_⟩⟩;have z:∀(N:Mem),aI (L3.dv N<|.str<|C.ver s t (ks.take i++ks.drop (i+1))) (L3.dv N<|.str "faulty")=decide (C.ver s t (ks.take i++ks.drop (i+1))="faulty"):=λN=>by simp only[L3.dv,aI]
 rw[z]
 by_cases c:C.ver s t (ks.take i++ks.drop (i+1))="faulty"
 .rw[decide_eq_true c]
  show K1 D2 _ N2;rw[<- g];unfold jz;simp only[ao,av,ac,dC,ah,NH,MV,dt];exact h _ 0 _ _ N2 BV (.inl ⟨by simp only[Nd,NP,NY];lia,rfl⟩) j
 .rw[decide_eq_false c]
  simp only[Nv,if_false];simp![];have n:((a0:Nat):Int)+1=((a0+1:Nat):Int):=by lia
  rw[n];exact h ks (a0+1) _ _ N2 (Qq _) (.inr ⟨rfl,rfl⟩) j
theorem zA{EE:DX}{D':DEnds}{bx:BxW (ar<|am ub (ac 4)<|aQ bh<|aa (ac 3) ae) (fU ad EE) D'}{n:Nat}{x2:Option D}(cs0:CsOk C s t)(hn:n<=100)
  (h:∀(ks:List ax) c4 c5 c6 N',ks.Sublist all->Dr k b M N'->D'.nx [some (.ref k.p),some (aF C s t),x2,some (b8 ks),c4,c5,c6] N'):
  ∀(f:Nat) (ks:List ax) (a0:Nat) (c5 c6:Option D) (N:Mem),ks.length<=n->mu ks a0 n<=f->ks.Sublist all->Dr k (b+f) M N->
   bu (ar<|am ub (ac 4)<|aQ bh<|aa (ac 3) ae) (fU ad EE) D' bx (f+1) [some (.ref k.p),some (aF C s t),x2,some (b8 ks),some (.int (a0:Nat)),c5,c6] N:=by
 have g:∀l,b8 l=.lst (l.map kD):=λ_=>rfl;have i:∀(ks:List ax) (a0:Nat) (c5 c6:Option D) (N:Mem) (K:Bool->Mem->Prop),K (decide (a0<ks.length)) N->ar (am ub (ac 4)<|aQ bh<|aa (ac 3) ae) [some (.ref k.p),some (aF C s t),x2,some (b8 ks),some (.int (a0:Nat)),c5,c6] N K:=λks a0 c5 c6 N K q=>by
  simp![g,MW];have e:decide (((a0:Nat):Int)<((ks.length:Nat):Int))=decide (a0<ks.length):=decide_eq_decide.mpr ⟨λh=>by lia,λh=>by lia⟩
  rw[e];exact q
 intro f
 induction f with
 |zero=>
  intro ks a0 c5 c6 N r hm a d;refine whF (λK q=>i ks a0 c5 c6 N K ?_) (h ks _ _ _ N a<|by simpa using d)
  have:¬a0<ks.length:=by unfold mu at hm;lia
  rw[decide_eq_false this];exact q
 |succ f ih=>
  intro ks a0 c5 c6 N r hm a d
  by_cases c:a0<ks.length
  .refine whT (λK q=>i ks a0 c5 c6 N K (by rw[decide_eq_true c];exact q)) ?_
   refine yS (b:=b+f) cs0 (by lia) c (d.1.le<|by lia) λl o c5 c6 N' m j dr=>?_
   have v:=m.length_le;refine ih l o _ _ N' (by lia) ?_ (m.trans a) (d.trans dr)
   unfold mu at hm ⊢;rcases j with⟨u,rfl⟩|⟨rfl,rfl⟩
   .have:(l.length+1)*(n+2)<=ks.length*(n+2):=Oa _ u
    rw[Nat.add_mul]at this;lia
   .lia
  .refine whF (λK q=>i ks a0 c5 c6 N K (by rw[decide_eq_false c];exact q)) (h ks _ _ _ N a<|d.le<|by lia)
theorem yW(cs0:CsOk C s t)(hl:all.length<=11)(hp:Has k (b+154) M)(h:∀(ks:List ax) M',ks.Sublist all->Dr k b M M'->Q (b8 ks) M'):vd ad [.ref k.p,aF C s t,b8 all] M Q E:=by
 have a:∀l,b8 l=.lst (l.map kD):=λ_=>rfl;rw[Mn (n:=0)];unfold uD oi og;simp![a,de];intro f e;simp![Mem.upd_del,af e];have hm:mu all 0 11<=154:=by
  unfold mu;have:all.length*(11+2)<=11*13:=Oa _ hl;lia
 refine⟨155,?_⟩;have:=zA (ad:=ad) (EE:=aw E) (M:=M) (b:=b) (k:=k) (all:=all) (C:=C) (s:=s) (t:=t) (x2:=some (b8 all)) (n:=11) (D':={ nx:=aC (ac 3) { nx:=λ_ M'=>drp Q .non M',rt:=drp Q },rt:=drp Q }) (bx:=⟨⟩) cs0 (by lia) (λks i j g N' c d=>aq (h ks N' c d)) 154 all 0 none none M hl hm (Qq _) (hp.refl)
 exact this
end
def Fw(all:List ax)(r:D):Prop:=∃(ks:List ax) (x:Str),ks.Sublist all/\x∈(["sound","faulty","other"]:List Str)/\r=.tup [b8 ks,.str x]
structure Mk2(k:Pt)(b:Nat)(M N:Mem)(a p:Addr)(all:List ax)(ls:List (List ax))(rows:List D):Prop where
 ea:N a=some (.lst<|ls.map b8)
 ep:N p=some (.lst rows)
 ap:a≠p
 a1:a≠k.p/\a≠k.q
 p1:p≠k.p/\p≠k.q
 ma:M a=none
 mp:M p=none
 has:Has k (b+2*ls.length) N
 kp:∀x,x≠a->x≠p->x≠k.p->x≠k.q->N x=M x
 sb:∀l∈ls,l.Sublist all
 md:∀r∈rows,Fw all r
 l0:0<rows.length
 l1:rows.length+ls.length<=2048
section
variable {C:Cse}{s t:Sta}{ad:Ad}{M N:Mem}{Q:DK}{E:DX}{cs ks all:List ax}{k:Pt}{b:Nat}{a p:Addr}{ls:List (List ax)}{rows:List D}
theorem Mk2.dr{N':Mem}{c:Nat}(h:Mk2 k b M N a p all ls rows)(d:Dr k c N N'):N' a=some (.lst<|ls.map b8)/\N' p=some (.lst rows)/\(∀x,x≠a->x≠p->x≠k.p->x≠k.q->N' x=M x):=
 ⟨by rw[d.2 a h.a1.1 h.a1.2];exact h.ea,by rw[d.2 p h.p1.1 h.p1.2];exact h.ep,λx g i e f=>by rw[d.2 x e f];exact h.kp x g i e f⟩
theorem DQ(n:Nat)(ls:List (List ax)):bV (n+1) (ls.map b8)=true:=by
 induction ls with
 |nil=>rfl
 |cons l ls ih=>
  rw[Nb,bV,ih,PM];exact gR n l
theorem yC{EE:DX}{D2:DEnds}{x2 x3 c6:Option D}(cs0:CsOk C s t)(w:Mk2 k b M N a p all ls rows)(hl:ls≠[])
  (h:∀ls' rows' N' c6,ls'.length+1=ls.length->Mk2 k b M N' a p all ls' rows'->D2.nx [some (.ref k.p),some (aF C s t),x2,x3,some (.ref a),some (.ref p),c6] N'):
  fM ad EE D2 [some (.ref k.p),some (aF C s t),x2,x3,some (.ref a),some (.ref p),c6] N:=by
 have fs:∀{M:Mem} {Q:DK} {x:Str},Q (.str x) M->frz (.str x) M Q:=λh=>h;have l0:0<ls.length:=Sk.mpr hl;have l1:=w.l1;unfold fM;generalize n:kA ad EE=K2;simp only[ao,av,rV,ai,aj,aa,ac,aQ,ae,bh,bt,cK,w.ea,MW,MV,dt];refine⟨trivial,rfl,aB (b:=b+2*ls.length-1) (w.has.le<|by lia) (by lia) (by lia) λr N2 H A m=>?_⟩
 obtain⟨O,F,G⟩:=w.dr m;have hr:r.toNat<ls.length:=by lia
 have L:(ls.map b8)[r.toNat]?=some (b8 ls[r.toNat]):=by rw[Nr,MY hr];rfl
 have J:(ls.map b8).eraseIdx r.toNat=(ls.eraseIdx r.toNat).map b8:=by rw[PH,PH,Ol,PL,QE]
 have I:r_ (ls.map b8).length r=some r.toNat:=tZ H (by rw[MW];exact A)
 simp only[frz,Ff,O,I,L,J,ah,NH];have v:(ls[r.toNat]).Sublist all:=w.sb _ (Om hr);have le:(ls.eraseIdx r.toNat).length+1=ls.length:=by rw[List.length_eraseIdx_of_lt hr];lia
 have e:∀l∈ls.eraseIdx r.toNat,l.Sublist all:=λl hl=>w.sb l (List.mem_of_mem_eraseIdx hl);generalize ls.eraseIdx r.toNat=ls' at le e;generalize ls[r.toNat]=ks at v;have f:Mk2 k b M (N2.upd a<|.lst<|ls'.map b8) a p all ls' rows/\Has k (b+2*ls'.length+1) (N2.upd a<|.lst<|ls'.map b8):=
  ⟨⟨Mem.upd_same,by rw[ag w.ap.symm];exact F,w.ap,w.a1,w.p1,w.ma,w.mp,(m.1.upd w.a1).le (by lia),λx g x2 x3 i=>by rw[ag g];exact G x g x2 x3 i,e,w.md,w.l0,by lia⟩,(m.1.upd w.a1).le<|by lia⟩
 generalize N2.upd a (.lst<|ls'.map b8)=N3 at f;obtain⟨f,K⟩:=f;rw[<- n];unfold kA;generalize j:ki ad EE=K1;simp only[aL,ar,am,ai,aj,aa,ac,ae,dC,MV,dt];refine⟨rfl,aB (b:=b+2*ls'.length) K (by decide) (by decide) λB N4 R S u=>?_⟩
 obtain⟨z,q,y⟩:=f.dr u;simp only[frz,yU,yw]
 by_cases c:B>0
 .rw[decide_eq_true c]
  show K1 D2 _ N4;rw[<- j];unfold ki;simp only[cb,rV,b9,ai,aj,aa,ac,ae,cK,q,MV,dt];refine⟨trivial,rfl,gI cs0.o cs0.hs cs0.ht<|fs ?_⟩;refine⟨aZ (by simp),?_⟩
  simp only[cC,q];have P:=f.l1;refine⟨fS (by lia),h ls' _ _ _ le ⟨by rw[ag w.ap];exact z,Mem.upd_same,w.ap,w.a1,w.p1,w.ma,w.mp,u.1.upd w.p1,λx g x2 x3 i=>by rw[ag x2];exact y x g x2 x3 i,e,λr hr=>?_,by simp,by simp;lia⟩⟩
  rcases Nx.mp hr with hr|hr
  .exact w.md r hr
  .rw[NS]at hr
   subst hr;exact⟨ks,_,v,tF,rfl⟩
 .rw[decide_eq_false c]
  show D2.nx _ N4;exact h ls' rows _ _ le ⟨z,q,w.ap,w.a1,w.p1,w.ma,w.mp,u.1,y,e,w.md,w.l0,f.l1⟩
theorem zi{EE:DX}{D':DEnds}{bx:BxW (ar<|am iX (ac 4)<|ai<|bn ae) (fM ad EE) D'}{x2 x3:Option D}(cs0:CsOk C s t)
  (h:∀rows c6 N,Mk2 k b M N a p all [] rows->D'.nx [some (.ref k.p),some (aF C s t),x2,x3,some (.ref a),some (.ref p),c6] N):
  ∀(f:Nat) (ls:List (List ax)) (rows:List D) (c6:Option D) (N:Mem),ls.length=f->Mk2 k b M N a p all ls rows->
   bu (ar<|am iX (ac 4)<|ai<|bn ae) (fM ad EE) D' bx (f+1) [some (.ref k.p),some (aF C s t),x2,x3,some (.ref a),some (.ref p),c6] N:=by
 have j:∀(ls:List (List ax)) (rows:List D) (c6:Option D) (N:Mem) (K:Bool->Mem->Prop),Mk2 k b M N a p all ls rows->K (!ls.isEmpty) N->ar (am iX (ac 4)<|ai<|bn ae) [some (.ref k.p),some (aF C s t),x2,x3,some (.ref a),some (.ref p),c6] N K:=λls rows c6 N K w q=>by
  simp only[ar,am,ac,ai,bn,ae,MV,dt];refine⟨aZ (by decide),λv u=>bY u ?_⟩
  have e:L3.dv N (.ref a)=.lst (ls.map b8):=by simp only[L3.dv,w.ea]
  unfold iX;rw[e];refine⟨DQ 58 ls,rfl,?_⟩;have r:(!aI (.lst<|ls.map b8) (L3.dv N<|.lst []))=!ls.isEmpty:=by cases ls<;>rfl
  rw[r];exact q
 intro f
 induction f with
 |zero=>
  intro ls rows c6 N g w;have:ls=[]:=List.length_eq_zero_iff.mp g;subst this;exact whF (λK q=>j [] rows c6 N K w q) (h rows c6 N w)
 |succ f ih=>
  intro ls rows c6 N g w;have l:ls≠[]:=λe=>by rw[e]at g;simp at g
  have m:ls.isEmpty=false:=by cases ls with|nil=>exact absurd rfl l|cons _ _=>rfl
  refine whT (λK q=>j ls rows c6 N K w (by rw[m];exact q)) ?_
  exact yC cs0 w l λi c N' c6 n o=>ih i c c6 N' (by lia) o
theorem zd(cs0:CsOk C s t)(hl:all.length<=11)(hp:Has k (b+4250) M)
  (h:∀N p rows (cs:List ax),N p=some (.lst rows)->Dr k b M (N.del p)->cs.Sublist all->(∀r∈rows,Fw all r)->0<rows.length->rows.length<=2048->Q (.tup [.ref p,b8 cs]) N):uO ad [.ref k.p,aF C s t,b8 all] M Q E:=by
 have H:∀l,b8 l=.lst (l.map kD):=λ_=>rfl;have fm:∀{M:Mem} {Q:DK} {l:List ax},Q (b8 l) M->frz (b8 l) M Q:=λh=>h;have fi:∀{M:Mem} {Q:DK} {i:Int},Q (.int i) M->frz (.int i) M Q:=λh=>h;rw[Ls (n:=0)];unfold xj;generalize X:jW ad (aw E)=K6;simp only[ao,av,ai,aj,aa,ac,ae,MV,dt];refine⟨rfl,aA λQ' E' hq _=>yW (b:=b+4096) cs0 hl (hp.le<|by lia) λcs M1 sc G=>hq _ _ (fm ?_)⟩
 simp only[ah,NH];rw[<- X];unfold jW;generalize hK5:kj ad (aw E)=K5;simp only[ao,oZ,aW,bR,am,ai,aj,aQ,aa,ac,ae,dC,bh,bt,H all,MW,MV,dt];refine⟨rfl,aG (λ_ _ q=>kH hl q)<|fi ?_⟩;have p1:2 ^ all.length<=2 ^ 11:=Qy (by decide) hl
 have p2:0<2 ^ all.length:=Nat.two_pow_pos _;have e0:((2 ^ all.length:Nat):Int)-1=((2 ^ all.length-1:Nat):Int):=by generalize 2 ^ all.length=q at p2;lia
 simp only[iP,yw,e0];have hn:2 ^ all.length-1<=2047:=by lia
 generalize 2 ^ all.length-1=n at hn;refine⟨by lia,by lia,?_⟩
 rw[kb];simp only[cc,Nb,NM,Nz,NG,MV,dt,OB];refine bM (λR f U N=>∃(i:Nat) (ls:List (List ax)) (J:Option D),i+R.length=n/\f=ls.map b8/\ls.length=i/\(∀l∈ls,l.Sublist all)/\(∀x∈R,∃v:Int,x=.int v)/\U=[J,some (b8 all)]/\N=M1) (λ_ _ _ _ _=>bd) ?_ ?_ ?_ _ _ _ _ ⟨0,[],none,?_,rfl,rfl,(λ_ h=>by cases h),?_,rfl,rfl⟩
 .rintro f U N ⟨i,ls,J,L,rfl,W,P,_,rfl,rfl⟩ K F
  simp only[Nq,Nat.add_zero]at L;simp only[NH];rw[<- hK5];unfold kj nS;simp only[ao,av,bn,b9,ai,aQ,aa,ac,dC,ae,MV,dt,ah,NH];have A:=G.1.nep F;have M0:∀x,N x=none->x≠k.p->x≠k.q->M x=none:=λx e Y x2=>by rw[<- G.2 x Y x2];exact e
  refine λq1 h1=>bY h1 ?_;refine⟨aZ (by simp),aZ (by simp),λI u=>?_⟩
  have c:I≠K:=Mem.ne Mem.upd_same u |>.symm
  have g:N I=none:=by rw[ag c]at u;exact u
  have B:=G.1.nep g;simp only[de];refine⟨ls.length+1,zi (b:=b) (M:=M) (all:=all) cs0 (λrows c6 N9 w=>?_) ls.length ls [.tup [b8 all,.str "faulty"]] none _ rfl ⟨by rw[ag c.symm];exact Mem.upd_same,Mem.upd_same,c.symm,A,B,M0 K F A.1 A.2,M0 I g B.1 B.2,((G.1.upd A).upd B).le (by lia),λx Y x2 Z x4=>by rw[ag x2,ag Y];exact G.2 x Z x4,P,λr hr=>?_,by simp,by simp;lia⟩⟩
  .simp only[aC,b9,aa,ac,ae,MV,dt]
   refine⟨aZ (by simp),N9.del K,λx o e=>?_,h _ I rows cs ?_ ⟨?_,λx Z x4=>?_⟩ sc w.md w.l0<|by have:=w.l1;simp at this;lia⟩
   .unfold Mem.del at e
    split at e
    .cases e
    .exact e
   .unfold Mem.del
    rw[if_neg c];exact w.ep
   .obtain⟨z,t,hh,a1,a2,a3,e1,e2⟩:=w.has
    refine⟨z,t,hh,a1,a2,by simpa using a3,?_,?_⟩
    .unfold Mem.del;rw[if_neg B.1.symm,if_neg A.1.symm];exact e1
    .unfold Mem.del;rw[if_neg B.2.symm,if_neg A.2.symm];exact e2
   .unfold Mem.del
    by_cases S:x=I
    .rw[if_pos S,S,w.mp]
    .rw[if_neg S]
     by_cases O:x=K
     .rw[if_pos O,O,w.ma]
     .rw[if_neg O];exact w.kp x O S Z x4
  .rw[NS]at hr
   subst hr;exact⟨all,"faulty",Qq _,by simp,rfl⟩
 .rintro x R f U N ⟨i,ls,J,L,rfl,W,P,hx,rfl,rfl⟩ N' T _
  obtain⟨v,rfl⟩:=hx x (by simp)
  simp only[MZ]at L;simp only[ah,NH,bX,if_true,ai,aj,aa,ac,ae,MV,dt];refine⟨rfl,aA λQ' E' hq _=>ut hl λp l hp sl=>hq _ _ (bY hp ?_)⟩;exact T _ _ _ (by rw[MW];exact fS (by lia)) ⟨i+1,ls++[l],_,by lia,by simp[H],by simp[W],λm hm=>by
   rcases Nx.mp hm with hm|hm
   .exact P m hm
   .rw[NS]at hm;subst hm;exact sl,λy hy=>hx y (Nk _ hy),rfl,rfl⟩
 .rintro x R f U N ⟨i,ls,J,L,rfl,W,P,hx,rfl,rfl⟩
  rw[MW];exact fS (by lia)
 .have:∀j m,(dX j m).length=m:=λj m=>by
   induction m generalizing j with
   |zero=>rfl
   |succ m ih=>rw[dX,MZ,ih]
  rw[this];lia
 .have:∀j m,∀x∈dX j m,∃v:Int,x=.int v:=λj m=>by
   induction m generalizing j with
   |zero=>intro x hx;cases hx
   |succ m ih=>
    intro x hx;rw[dX]at hx;rcases Nl.mp hx with rfl|hx
    .exact⟨_,rfl⟩
    .exact ih _ x hx
  exact this 0 n
end
section
variable {C:Cse}{s t:Sta}{ad:Ad}{M N:Mem}{Q:DK}{E:DX}{cs ks all:List ax}{k:Pt}{b:Nat}
theorem Kh(c:Bool):D.bl c∈my:=NC _ (by cases c<;>simp)
theorem HZ:D.non∈my:=NC _ (by simp)
theorem J2:D.lst []∈my:=NC _ (by simp)
theorem J9{k:ax}(h:k∈elK):D.lst [kD k]∈my:=NC _ (by
 simp only[Nl];exact .inr (.inr<|.inr<|.inr<|OL h))
theorem iR(hk:∀x∈ks,x∈elK):∀e∈ks.map kD,e∈my:=λe h=>by
 obtain⟨x,a,rfl⟩:=Nu.mp h;exact uy (hk x a)
theorem rA(hk:∀x∈ks,x∈elK)(hl:ks.length<=20)(hp:Has k (b+1) M)(h:∀es p N,(∀e∈es,e∈my)->es.length<=ks.length+1->Dr k b M N->N p=none->Q (.ref p) (N.upd p<|.lst es)):mW ad [.ref k.p,b8 ks] M Q E:=by
 have a:∀l,b8 l=.lst (l.map kD):=λ_=>rfl;rw[Lz (n:=0)];unfold y4;generalize B:jy ad (aw E)=K3;simp only[ao,av,ai,aj,aa,ac,dC,ae,MV,dt];refine⟨rfl,aB (b:=b) hp (by decide) (by decide) λr N R P o=>?_⟩
 simp only[frz,ah,NH];rw[<- B];unfold jy;generalize z:jJ ad (aw E)=K1;generalize F:jC ad (aw E)=K2;have add:∀d:D,d∈my->∀e∈ks.map kD++[d],e∈my:=λd I e he=>by
  rcases Nx.mp he with he|he
  .exact iR hk e he
  .rw[NS]at he;subst he;exact I
 have J:r=0\/r=1->∀i,K1 { nx:=i,rt:=drp Q } [some (.ref k.p),some (b8 ks),some (.int r)] N:=λu i=>by
  rw[<- z];unfold jJ;rcases u with rfl|rfl
  .simp![a]
   refine⟨aZ (by decide),λv f=>?_⟩
   simp![Mem.upd_del,af f];refine⟨aZ (by simp),λH g=>?_⟩
   simp![Mem.upd_del,af g,atI_0];refine⟨aZ (by simp),λO G=>?_⟩
   simp![Mem.upd_del,af G];refine⟨aZ (by simp;lia),λA w=>aq (h _ A N (add _ HZ) (by simp) o w)⟩
  .simp![a]
   refine⟨aZ (by decide),λv f=>?_⟩
   simp![Mem.upd_del,af f];refine⟨aZ (by simp),λH g=>?_⟩
   simp![Mem.upd_del,af g,atI_1];refine⟨aZ (by simp),λO G=>?_⟩
   simp![Mem.upd_del,af G];refine⟨aZ (by simp;lia),λA w=>aq (h _ A N (add _ J2) (by simp) o w)⟩
 have L:r=2\/r=3->K2 { nx:=λ_ M'=>drp Q .non M',rt:=drp Q } [some (.ref k.p),some (b8 ks),some (.int r)] N:=λu=>by
  rw[<- F];unfold jC;simp only[aC,aW,cX,ac,a,MV,dt,bt,cq,cc,Nb,NM,Nz,NG,OB];rcases u with rfl|rfl
  .refine dD (λx=>.bl (aI x<|.int 1)) bd (by simp;lia) (λx j K q=>?_) λp hp=>aq ?_
   .obtain⟨y,m,rfl⟩:=Nu.mp j
    simp only[am,ai,bn,aa,ac,dC,ae,MV,dt,cI,wc];refine⟨mi _ _,rfl,aZ (by simp),λv f=>bY f ⟨aZ (by simp),λH g=>bY g ?_⟩⟩
    exact q
   .refine h _ p N (λe he=>?_) (by simp) o hp
    obtain⟨y,m,rfl⟩:=Nu.mp he;exact Kh _
  .refine dD (λx=>.lst [x]) bd (by simp;lia) (λx j K q=>?_) λp hp=>aq ?_
   .obtain⟨y,m,rfl⟩:=Nu.mp j
    simp only[am,ai,bn,aa,ac,dC,ae,MV,dt,cI,wc];refine⟨mi _ _,rfl,aZ (by simp),λv f=>bY f ⟨aZ (by simp),λH g=>bY g ?_⟩⟩
    exact q
   .refine h _ p N (λe he=>?_) (by simp) o hp
    obtain⟨x,j,rfl⟩:=Nu.mp he;obtain⟨y,m,rfl⟩:=Nu.mp j;exact J9 (hk y m)
 simp only[ao,aL,ar,am,ac,dC,ub,yw,MV,dt]
 by_cases c:r<2
 .rw[decide_eq_true c]
  exact J (by lia) _
 .rw[decide_eq_false c]
  exact L (by lia)
end
section
variable {U:Dl}{M N:Mem}{K:DK}{KA:List D->Mem->Prop}{te ta tb:bp}{t:fj}{d:D}{xs ys:List D}
theorem bH{i:Nat}(h:U[i]?=some (some d))(q:K d N):ac i U N K:=by
 unfold ac;rw[h];exact q
theorem aD(h:te U N λd M1=>t U M1 λds M2=>KA (d::ds) M2):aa te t U N KA:=h
theorem bQ(h:KA [] N):ae U N KA:=h
theorem gk(h:t U N λds M1=>ds.length<=sizeLine/\∀p,M1 p=none->frz (.ref p) (M1.upd p<|.lst ds) K):ai (bn t) U N K:=h
theorem eZ(h:t U N λds M1=>ds.length<=sizeLine/\K (.tup ds) M1):b9 t U N K:=h
theorem tU{o:g9}(h:ta U N λx M1=>tb U M1 λy M2=>o x y M2 K):am o ta tb U N K:=h
theorem mS(h:te U N λd M'=>frz d M' K):ai te U N K:=h
theorem CH(h:K d N):dC d U N K:=h
theorem Ck{T:Sd}{EE:DX}{n:Nat}(h:t U N λds M1=>ds.length=n/\calls T EE ds M1 K ⟨⟩):aj T EE n t U N K:=h
theorem Ec{i:Int}(e:atI xs i=some d)(q:K d N):az (.lst xs) (.int i) N K:=by
 simp only[az,bt,e];exact q
theorem x6{i:Int}(q:K (.int i) N):frz (.int i) N K:=q
theorem t6(h:t U N λds M1=>aJ ds M1 K):aQ aJ t U N K:=h
theorem xA(hl:xs.length+ys.length<=100000)(h:∀p,N p=none->K (.ref p) (N.upd p<|.lst (xs++ys))):bj (.lst xs) (.lst ys) N K:=by
 simp![];exact⟨aZ (by simpa using (by lia:xs.length+ys.length<=1000000)),h⟩
theorem D_{lo hi:Option Int}:∀e∈ff xs lo hi,e∈xs:=λe h=>OR (Ow h)
theorem uE{lo hi:Option Int}:(ff xs lo hi).length<=xs.length:=by
 unfold ff;rw[NP,NY];lia
end
def gK(rows:List D):Prop:=(∀r∈rows,bS r)/\rows.length<=2049
def JW(d:D):Prop:=d=.non\/∃rows m,gK rows/\MixAny m/\(d=.tup [.lst rows,m]\/d=.lst [.lst rows,m]\/d=.tup [.tup rows,m]\/d=.tup [.lst rows]\/d=.tup [.lst rows,m,.int 0])
section
variable {C:Cse}{s t:Sta}{ad:Ad}{M N:Mem}{Q:DK}{E:DX}{cs ks all:List ax}{k:Pt}{b:Nat}{rows:List D}{D2:DEnds}{EE:DX}{x:Str}{c4 c5 c6 c7 c8:Option D}{n:Nat}
theorem fw(hk:∀x∈ks,x∈elK)(hl:ks.length<=30):MixAny (b8 ks):=.inr ⟨ks.map kD,iR hk,by simpa using hl,.inl rfl⟩
theorem zU(hk:∀x∈ks,x∈elK)(hl:ks.length<=30):MixAny (.tup<|ks.map kD):=.inr ⟨ks.map kD,iR hk,by simpa using hl,.inr rfl⟩
theorem wP{x:Str}(h:x∈(["sound","faulty","other"]:List Str)):D.str x∈iz:=by
 simp only[Nl,NK,or_false]at h;rcases h with rfl|rfl|rfl<;>simp[iz]
theorem BA{r:D}(hk:∀x∈all,x∈elK)(hl:all.length<=30)(h:Fw all r):bS r:=by
 obtain⟨ks,x,a,e,rfl⟩:=h;exact .inr (.inl ⟨_,_,fw (λy c=>hk y (a.subset c)) (Ny a.length_le hl),wP e,.inl rfl⟩)
structure Ways(k:Pt)(b:Nat)(M:Mem)(cs:List ax)(D2:DEnds):Prop where
 v:∀d N,JW d->Dr k b M N->D2.rt d N
 r:∀rows p N,gK rows->N p=none->Dr k b M N->D2.rt (.tup [.ref p,b8 cs]) (N.upd p<|.lst rows)
theorem Jc(hr:∀r∈rows,bS r)(hl:rows.length<=2048)(h:Ways k b M cs D2)(d:Dr k b M N):gH ad EE D2 [c5,c6,some (.lst rows),some (b8 cs),some (.int (n:Nat)),c7,c8,c4,none] N:=by
 have f:((n:Nat):Int)+1=((n+1:Nat):Int):=by lia
 unfold gH;simp![bT,cR];intro j g;simp![Mem.upd_del,af g,f,cR];intro l e;simp![Mem.upd_del,af e];refine⟨aZ (by simp only[NP,NY];lia),λc i=>⟨aZ (by simp),h.r _ c N ⟨λr a=>?_,by simp only[Nd,NP,NY];lia⟩ i d⟩⟩
 rcases Nx.mp a with z|z
 .exact hr r (Ow z)
 .exact hr r (OR z)
theorem Jl{r0:D}(hr:∀r∈rows,bS r)(hl:rows.length<=2048)(h:Ways k b M cs D2)(d:Dr k b M N)(e:atI rows (n:Nat)=some r0)(h0:r0∈rows):gw ad EE D2 [c5,c6,some (.lst rows),some (b8 cs),some (.int (n:Nat)),c7,c8,c4,none] N:=by
 unfold gw;simp![e];refine⟨aZ (by simp),λi c=>?_⟩
 simp![Mem.upd_del,af c];refine⟨aZ (by simp;lia),λg f=>⟨aZ (by simp),h.r _ g N ⟨λr a=>?_,by simp;lia⟩ f d⟩⟩
 rcases Nx.mp a with z|z
 .exact hr r z
 .rw[NS]at z;subst z;exact hr r h0
theorem Ja(hr:∀r∈rows,bS r)(hl:rows.length<=2048)(h:Ways k b M cs D2)(d:Dr k b M N):gC ad EE D2 [c5,c6,some (.lst rows),some (b8 cs),some (.int (n:Nat)),c7,c8,c4,none] N:=by
 unfold gC;simp![bT,cR];intro j c;simp![Mem.upd_del,af c,bT];intro i f;simp![Mem.upd_del,af f];refine⟨aZ (by simp only[NP,NY];lia),λg e=>⟨aZ (by simp),h.r _ g N ⟨λr a=>?_,by simp only[Nd,NP,NY];lia⟩ e d⟩⟩
 rcases Nx.mp a with z|z
 .exact hr r (OR z)
 .exact hr r (Ow z)
theorem Hd{od:List D}(ho:od.length=9)(hd:∀r∈od,bS r)(hr:∀r∈rows,bS r)(hl:rows.length<=2048)(h:Ways k b M cs D2)(hp:Has k (b+1) N)(d:Dr k (b+1) M N):
  jM ad EE D2 [some (.ref k.p),c6,some (.lst rows),some (b8 cs),some (.int (n:Nat)),c7,c8,c4,some (.lst od)] N:=by
 have v:((n:Nat):Int)+1=((n+1:Nat):Int):=by lia
 unfold jM;simp only[aC,b9,aa,ae];refine tU (mS<|tU ?_);simp only[ai,gn,ac,aU,br,oSl,cP,MV,dt,bT];intro G w;refine bY w ?_;simp only[bn,aa,ae,am,ac,ai,aj,dC,MV,dt];refine⟨rfl,aB (b:=b) hp (by decide) (by decide) λr N2 g H A=>?_⟩
 have e:r.toNat<od.length:=by lia
 have f:atI od r=some od[r.toNat]:=by rw[bO g,MY e]
 have a:=hd _ (Om e);generalize od[r.toNat]=y at f a;refine x6 (Ec f ?_);refine⟨aZ (by simp),λI o=>bY o (xA (by simp only[NP,MZ,Nq];lia) λF j=>bY j ?_)⟩
 have i:∀{K:DK},K (.int ((n+1:Nat):Int)) N2->bj (.int (n:Nat)) (.int 1) N2 K:=λq=>by rw[<- v]at q;exact q
 refine i ?_;simp only[cR];intro B l;refine bY l (xA (by simp only[Nd,NP,NY,MZ,Nq];lia) λu m=>⟨aZ (by simp),h.r _ u N2 ⟨λr c=>?_,by simp only[Nd,NP,NY,MZ,Nq];lia⟩ m<|d.trans A⟩)
 rcases Nx.mp c with z|z
 .rcases Nx.mp z with z|z
  .exact hr r (Ow z)
  .rw[NS]at z;subst z;exact a
 .exact hr r (OR z)
end
section
variable {U:Dl}{N:Mem}{K:DK}{xs:List D}{ks:List ax}{i:Nat}
theorem zN(h:U[i]?=some (some<|.lst xs))(q:K (.lst xs.reverse) N):ai (qw (ac i)<|br<|yA<|dC<|.int 1) U N K:=by
 unfold ai qw;refine bH h ?_;exact⟨rfl,λp a=>bY a q⟩
theorem Ip(h:U[i]?=some (some<|.lst xs))(q:K (.lst<|ff xs (some (-1)) none) N):ai (gn (ac i) (br<|yA<|dC<|.int 1) aU) U N K:=by
 unfold ai gn;refine bH h ?_;exact λp a=>bY a q
theorem C2:(ks.map kD).reverse=ks.reverse.map kD:=by rw[List.map_reverse]
end
section
variable {C:Cse}{s t:Sta}{ad:Ad}{M N:Mem}{Q:DK}{E:DX}{cs ks all:List ax}{k:Pt}{b:Nat}{rows:List D}{D2:DEnds}{EE:DX}{x:Str}{c4 c5 c6 c7 c8:Option D}{n:Nat}
theorem qG{U:Dl}{i j:Nat}{K:DK}(h0:U[j]?=some (some<|.ref k.p))(h1:U[i]?=some (some<|b8 ks))(hk:∀x∈ks,x∈elK)(hl:ks.length<=20)(hp:Has k (b+1) N)(h:∀es N2,(∀e∈es,e∈my)->es.length<=ks.length+1->Dr k b N N2->K (.lst es) N2):
  ai (aj (mW ad) EE 2<|aa (ac j)<|aa (ac i) ae) U N K:=
 mS (Ck<|aD<|bH h0<|aD<|bH h1<|bQ ⟨rfl,aA λQ' E' f _=>rA hk hl hp λes p N2 g a d c=>f _ _ (bY c<|h es N2 g a d)⟩)
theorem tm{U:Dl}{j:Nat}{K:DK}{m:Int}(h0:U[j]?=some (some<|.ref k.p))(hm:0<m)(hm2:m<2 ^ 62)(hp:Has k (b+1) N)(h:∀r N2,0<=r->r<m->Dr k b N N2->K (.int r) N2):
  ai (aj (aX ad) EE 2<|aa (ac j)<|aa (dC<|.int m) ae) U N K:=
 mS (Ck<|aD<|bH h0<|aD<|CH<|bQ ⟨rfl,aB (b:=b) hp hm hm2 λr N2 a b d=>x6 (h r N2 a b d)⟩)
theorem w6{xs:List D}{r:Int}(h0:0<=r)(h1:r<(xs.length:Nat)):∃y,atI xs r=some y/\y∈xs:=by
 have a:r.toNat<xs.length:=by lia
 exact⟨xs[r.toNat],by rw[bO h0,MY a],Om a⟩
theorem IB(hk:∀x∈ks,x∈elK)(kl:ks.length<=11)(hx:x∈(["sound","faulty","other"]:List Str))(hr:∀r∈rows,bS r)(hl:rows.length<=2048)(h:Ways k b M cs D2)(d:Dr k (b+3) M N):
  gL ad EE D2 [some (.ref k.p),c6,some (.lst rows),some (b8 cs),some (.int (n:Nat)),some (b8 ks),some (.str x),c4,none] N:=by
 have F:∀l,b8 l=.lst (l.map kD):=λ_=>rfl;have a:=wP hx;unfold gL ao av;refine gk (aD<|eZ<|aD<|bH rfl<|aD<|tU<|gk<|aD<|CH<|aD<|CH<|aD<|CH<|aD<|CH<|aD<|CH<|bQ ⟨aZ (by simp),λT L=>bY L ?_⟩)
 refine tm (b:=b+2) rfl (by decide) (by decide) d.1 λr N2 A I i=>?_
 obtain⟨w,J,K⟩:=w6 (xs:=iz) A (by simpa [iz] using I)
 refine Ec J (bQ ⟨aZ (by simp),?_⟩)
 refine aD (gk<|aD<|bH rfl<|aD<|bH rfl<|bQ ⟨aZ (by simp),λX H=>bY H ?_⟩)
 refine aD (eZ<|aD<|t6<|aD<|bH rfl<|bQ<|IsMx.mx.tup ?_);refine aD (bH rfl<|bQ ⟨aZ (by simp),?_⟩)
 refine aD (eZ<|aD<|zN rfl ?_);refine aD (bH rfl<|bQ ⟨aZ (by simp),?_⟩)
 refine aD (eZ<|aD<|bH rfl<|bQ ⟨aZ (by simp),?_⟩)
 refine aD (CH ?_);refine aD (eZ<|aD<|mS<|tU<|bH rfl<|gk<|aD<|CH<|bQ ⟨aZ (by simp),λS O=>bY O (xA (by simp;lia) λR m=>bY m ?_)⟩)
 refine aD (bH rfl<|bQ ⟨aZ (by simp),?_⟩)
 refine aD (eZ<|aD<|mS<|tU<|bH rfl<|Ip rfl (xA (by have:=uE (xs:=ks.map kD) (lo:=some (-1)) (hi:=none);simp at this ⊢;lia) λW B=>bY B ?_))
 refine aD (bH rfl<|bQ ⟨aZ (by simp),?_⟩)
 refine aD (eZ<|aD (qG (b:=b+1) rfl rfl hk (by lia) i.1 λv N3 c o j=>?_))
 refine aD (bH rfl<|bQ ⟨aZ (by simp),bQ ⟨aZ (by simp),λU P=>bY P ?_⟩⟩)
 simp only[ah,NH];have G:=uE (xs:=ks.map kD) (lo:=some (-1)) (hi:=none);rw[MW]at G;refine Hd rfl (λr f=>?_) hr hl h ((d.trans i).trans j).1 ((d.trans i).trans j);have g:=fw hk (by lia)
 simp only[Nl,NK,or_false]at f;rcases f with rfl|rfl|rfl|rfl|rfl|rfl|rfl|rfl|rfl
 .exact .inr (.inl ⟨_,_,g,K,.inl rfl⟩)
 .exact .inr (.inl ⟨_,_,g,a,.inr rfl⟩)
 .exact .inr (.inl ⟨_,_,zU hk (by lia),a,.inl rfl⟩)
 .refine .inr (.inl ⟨_,_,?_,a,.inl rfl⟩)
  rw[C2];exact fw (λy u=>hk y (List.mem_reverse.mp u)) (by simp;lia)
 .exact .inr (.inr ⟨_,g,rfl⟩)
 .exact .inl rfl
 .refine .inr (.inl ⟨_,_,.inr ⟨_,λe c=>?_,by simp;lia,.inl rfl⟩,a,.inl rfl⟩)
  rcases Nx.mp c with z|z
  .exact iR hk e z
  .rw[NS]at z
   subst z;exact uy (k:=.inr "q") (by simp[elK])
 .refine .inr (.inl ⟨_,_,.inr ⟨_,λe c=>?_,by simp;lia,.inl rfl⟩,a,.inl rfl⟩)
  rcases Nx.mp c with z|z
  .exact iR hk e z
  .exact iR hk e (D_ e z)
 .exact .inr (.inl ⟨_,_,.inr ⟨v,c,by lia,.inl rfl⟩,a,.inl rfl⟩)
theorem JF(hk:∀x∈ks,x∈elK)(kl:ks.length<=11)(hc:∀x∈cs,x∈elK)(cl:cs.length<=11)(hr:gK rows)(h:Ways k b M cs D2)(d:Dr k (b+3) M N):
  gx ad EE D2 [some (.ref k.p),c6,some (.lst rows),some (b8 cs),c7,some (b8 ks),c8,c4,none] N:=by
 unfold gx aC;refine eZ (aD<|bH rfl ?_);refine aD (tU<|gk<|aD<|bH rfl ?_);refine aD (t6<|aD<|bH rfl<|bQ<|IsMx.mx.tup ?_);refine aD (CH<|aD<|zN rfl ?_);refine aD (qG (b:=b+2) rfl rfl hc (by lia) d.1 λc N3 j e a=>bQ ⟨aZ (by simp),λu q=>bY q ?_⟩)
 refine tm (b:=b+1) rfl (by decide) (by decide) a.1 λr N2 l f o=>?_
 obtain⟨m,i,hm⟩:=w6 (xs:=[b8 ks,.tup (cs.map kD),.non,.lst (cs.map kD).reverse,.lst c]) l (by simpa using f)
 refine Ec i (bQ ⟨aZ (by simp),?_⟩)
 refine h.v _ N2 (.inr ⟨rows,m,hr,?_,.inl rfl⟩) (((d.trans a).trans o).le<|by lia)
 simp only[Nl,NK,or_false]at hm;rcases hm with rfl|rfl|rfl|rfl|rfl
 .exact fw hk (by lia)
 .exact zU hc (by lia)
 .exact .inl rfl
 .rw[C2]
  exact fw (λy g=>hc y (List.mem_reverse.mp g)) (by simp;lia)
 .exact .inr ⟨c,j,by lia,.inl rfl⟩
theorem Jj(hc:∀x∈cs,x∈elK)(cl:cs.length<=11)(hr:gK rows)(h:Ways k b M cs D2)(d:Dr k (b+1) M N):
  h_ ad EE D2 [some (.ref k.p),some (.tup [.lst rows,b8 cs]),some (.lst rows),some (b8 cs),c5,c6,c7,c4,none] N:=by
 have a:=fw hc (by lia)
 have ct:∀{K:DK},K (.tup rows) N->aJ [.lst rows] N K:=λq=>q;have c:∀{K:DK},(∀p,N p=none->K (.ref p) (N.upd p<|.lst [.lst rows,b8 cs]))->dN [.tup [.lst rows,b8 cs]] N K:=λq=>q;unfold h_ aC;refine tU (gk<|aD<|mS ?_);show aQ dN _ _ _ _;refine (show (aa (ac 1) ae) _ N (λi M1=>dN i M1 _) from aD (bH rfl<|bQ (c λy m=>bY m ?_)));refine aD (eZ<|aD<|t6<|aD<|bH rfl<|bQ<|ct ?_);refine aD (bH rfl<|bQ ⟨aZ (by simp),?_⟩)
 refine aD (eZ<|aD<|bH rfl<|bQ ⟨aZ (by simp),?_⟩)
 refine aD (eZ<|aD<|gk<|bQ ⟨aZ (by simp),λA g=>bY g ?_⟩)
 refine aD (bH rfl<|bQ ⟨aZ (by simp),?_⟩)
 refine aD (CH ?_);refine aD (eZ<|aD<|bH rfl ?_);refine aD (bH rfl<|aD<|CH ?_);refine bQ ⟨aZ (by simp),bQ ⟨aZ (by simp),λw o=>bY o ?_⟩⟩
 refine tm (b:=b) rfl (by decide) (by decide) d.1 λr N2 f j u=>?_
 obtain⟨v,l,e⟩:=w6 (xs:=[.lst [.lst rows,b8 cs],.tup [.tup rows,b8 cs],.tup [.lst rows],.tup [.lst [],b8 cs],.non,.tup [.lst rows,b8 cs,.int 0]]) f (by simpa using j)
 refine Ec l (h.v _ N2 ?_<|d.trans u);simp only[Nl,NK,or_false]at e;rcases e with rfl|rfl|rfl|rfl|rfl|rfl
 .exact .inr ⟨rows,_,hr,a,.inr<|.inl rfl⟩
 .exact .inr ⟨rows,_,hr,a,.inr<|.inr<|.inl rfl⟩
 .exact .inr ⟨rows,_,hr,a,.inr<|.inr<|.inr<|.inl rfl⟩
 .exact .inr ⟨[],_,⟨(λ_ z=>by cases z),by simp⟩,a,.inl rfl⟩
 .exact .inl rfl
 .exact .inr ⟨rows,_,hr,a,.inr<|.inr<|.inr<|.inr rfl⟩
theorem yY(hk:∀x∈all,x∈elK)(al:all.length<=11)(sc:cs.Sublist all)(hr:∀r∈rows,Fw all r)(l0:0<rows.length)(l1:rows.length<=2048)(hp:Has k (b+5) M)
  (hv:∀d N,JW d->Dr k b M N->Q d N) (hq:∀rows p N,gK rows->N p=none->Dr k b M N->Q (.tup [.ref p,b8 cs]) (N.upd p<|.lst rows)):vK ad [.ref k.p,.tup [.lst rows,b8 cs]] M Q E:=by
 have c:∀r∈rows,bS r:=λr h=>BA hk (by lia) (hr r h)
 have o:∀x∈cs,x∈elK:=λy e=>hk y (sc.subset e);have q:cs.length<=11:=Ny sc.length_le al;have W:∀a,Ways k b M cs { nx:=a,rt:=drp Q }:=λa=>⟨λd N f m=>aq (hv d N f m),λrows p N f m H=>aq (hq rows p N f m H)⟩;rw[LL (n:=0)];unfold xg mv;generalize g:gP ad (aw E)=K15;simp only[ao,av,cU,aP,cD,ah,NH,ai,aj,aa,ac,aQ,ae,bh,bt,MV,dt,MZ,Nq];refine⟨trivial,trivial,aB (b:=b+4) hp (by lia) (by lia) λr N f G z=>x6 ?_⟩
 have A:r=((r.toNat:Nat):Int):=(Sv f).symm;obtain⟨y,l,e⟩:=w6 f G;obtain⟨ks,x,v,B,rfl⟩:=hr y e;rw[A]at l ⊢;generalize r.toNat=n at l;have j:∀x∈ks,x∈elK:=λy e=>hk y (v.subset e);have u:ks.length<=11:=Ny v.length_le al;rw[<- g];unfold gP lf;generalize i:iq ad (aw E)=K13;simp only[ao,av,am,az,bt,l,cU,aP,cD,ah,NH,ai,aj,aa,ac,dC,ae,MV,dt,MZ,Nq];refine⟨trivial,trivial,aB (b:=b+3) z.1 (by decide) (by decide) λw N2 m J F=>x6 ?_⟩
 have d:=z.trans F;rw[<- i];unfold iq lN kI lW pc pG;have B1:=λa=>Jc (ad:=ad) (EE:=aw E) (n:=n) (c4:=some (.int w)) (c5:=some (.ref k.p)) (c6:=some (.tup [.lst rows,b8 cs])) (c7:=some (b8 ks)) (c8:=some (.str x)) c l1 (W a) (d.le<|by lia)
 have B2:=λa=>Jl (ad:=ad) (EE:=aw E) (n:=n) (c4:=some (.int w)) (c5:=some (.ref k.p)) (c6:=some (.tup [.lst rows,b8 cs])) (c7:=some (b8 ks)) (c8:=some (.str x)) c l1 (W a) (d.le<|by lia) l e
 have B5:=λa=>Ja (ad:=ad) (EE:=aw E) (n:=n) (c4:=some (.int w)) (c5:=some (.ref k.p)) (c6:=some (.tup [.lst rows,b8 cs])) (c7:=some (b8 ks)) (c8:=some (.str x)) c l1 (W a) (d.le<|by lia)
 have B4:=λa=>IB (ad:=ad) (EE:=aw E) (n:=n) (c4:=some (.int w)) (c6:=some (.tup [.lst rows,b8 cs])) j u B c l1 (W a) d;have B6:=λa=>JF (ad:=ad) (EE:=aw E) (c4:=some (.int w)) (c6:=some (.tup [.lst rows,b8 cs])) (c7:=some (.int (n:Nat))) (c8:=some (.str x)) j u o q ⟨c,by lia⟩ (W a) d
 have B7:=λa=>Jj (ad:=ad) (EE:=aw E) (c4:=some (.int w)) (c5:=some (.int (n:Nat))) (c6:=some (b8 ks)) (c7:=some (.str x)) o q ⟨c,by lia⟩ (W a) (d.le<|by lia)
 generalize gH ad (aw E)=K1 at B1 ⊢;generalize gw ad (aw E)=K2 at B2 ⊢;generalize gL ad (aw E)=K4 at B4 ⊢;generalize gC ad (aw E)=K5 at B5 ⊢;generalize gx ad (aw E)=K6 at B6 ⊢;generalize h_ ad (aw E)=K7 at B7 ⊢;have I:w=0\/w=1\/w=2\/w=3\/w=4\/w=5\/w=6\/w=7\/w=8:=by lia
 have rt:drp Q (.tup [.lst rows,b8 cs]) N2:=aq (hv _ N2 (.inr ⟨rows,_,⟨c,by lia⟩,fw o (by lia),.inl rfl⟩)<|d.le<|by lia)
 rcases I with rfl|rfl|rfl|rfl|rfl|rfl|rfl|rfl|rfl
 .exact rt
 .exact rt
 .exact rt
 .exact⟨rfl,rfl,B1 _⟩
 .exact⟨rfl,rfl,⟨rfl,rfl,B2 _⟩⟩
 .exact⟨rfl,rfl,⟨rfl,rfl,⟨rfl,rfl,B4 _⟩⟩⟩
 .exact⟨rfl,rfl,⟨rfl,rfl,⟨rfl,rfl,⟨rfl,rfl,B5 _⟩⟩⟩⟩
 .exact⟨rfl,rfl,⟨rfl,rfl,⟨rfl,rfl,⟨rfl,rfl,⟨rfl,rfl,B6 _⟩⟩⟩⟩⟩
 .exact⟨rfl,rfl,⟨rfl,rfl,⟨rfl,rfl,⟨rfl,rfl,⟨rfl,rfl,B7 _⟩⟩⟩⟩⟩
end
def ShM(n L:Nat)(d:D):Prop:=bw n d=true/\(cr d).showable=true/\(cr d).shown.length<=L
theorem lU{L:Nat}:∀xs:List D,(∀x∈xs,(cr x).shown.length<=L)->piled (Oc<|cW xs)<=(L+2)*xs.length
 |[],_=>by simp[cW,Oc,piled]
 |x::xs,h=>by
  have c:=h x (by simp)
  have a:=lU xs λy b=>h y (Nk _ b);simp only[cW,Oc,MZ,Nat.mul_add];simp[piled]at a ⊢;lia
theorem jZ{n L:Nat}{xs:List D}(h:∀x∈xs,ShM n L x):ShM (n+1) (5+(L+2)*xs.length) (.lst xs):=by
 refine⟨by simp only[bw];exact cH xs λx a=>(h x a).1,by simp only[cr,Ot];exact gv xs λx a=>(h x a).2.1,?_⟩
 simp only[cr,QG];have:=yc (Oc<|cW xs);have:=lU xs λx a=>(h x a).2.2;lia
theorem dH{n L:Nat}{xs:List D}(h:∀x∈xs,ShM n L x):ShM (n+1) (5+(L+2)*xs.length) (.tup xs):=by
 refine⟨by simp only[bw];exact cH xs λx a=>(h x a).1,by simp only[cr,Ot];exact gv xs λx a=>(h x a).2.1,?_⟩
 simp only[cr,QG];have:=Dg (Oc<|cW xs);have:=lU xs λx a=>(h x a).2.2;lia
theorem ShM.le{n L L':Nat}{d:D}(h:ShM n L d)(e:L<=L'):ShM n L' d:=⟨h.1,h.2.1,Ny h.2.2 e⟩
theorem Jb:∀e∈my,(cr e).shown.length<=12:=by decide +kernel
theorem ke{n:Nat}{m:D}(h:MixAny m):ShM (n+2) 425 m:=by
 have he:∀{es:List D},(∀e∈es,e∈my)->∀e∈es,ShM (n+1) 12 e:=λhh e h=>⟨(eS (n:=n)<|hh e h).1,(eS (n:=n)<|hh e h).2.1,Jb e<|hh e h⟩;rcases h with rfl|⟨es,h1,h2,rfl|rfl⟩
 .exact⟨rfl,by simp only[cr,Ot],by decide +kernel⟩
 .exact(jZ<|he h1).le (by lia)
 .exact(dH<|he h1).le (by lia)
theorem ya{n:Nat}{w:D}(h:w∈iz):ShM n 425 w:=by
 refine⟨?_,(oY w h).1,Ny (oY w h).2<|by decide⟩
 simp only[iz,Nl,NK,or_false]at h;rcases h with rfl|rfl|rfl|rfl|rfl<;>cases n<;>rfl
theorem vL{n:Nat}{r:D}(h:bS r):ShM (n+3) 900 r:=by
 rcases h with rfl|⟨m,w,hm,hw,rfl|rfl⟩|⟨m,hm,rfl⟩
 .exact⟨rfl,by simp only[cr,Ot],by decide +kernel⟩
 .refine (dH (n:=n+2) (L:=425) λx a=>?_).le (by simp)
  simp only[Nl,NK,or_false]at a;rcases a with rfl|rfl
  .exact ke hm
  .exact ya hw
 .refine (jZ (n:=n+2) (L:=425) λx a=>?_).le (by simp)
  simp only[Nl,NK,or_false]at a;rcases a with rfl|rfl
  .exact ke hm
  .exact ya hw
 .refine (dH (n:=n+2) (L:=425) λx a=>?_).le (by simp)
  rw[NS]at a;subst a;exact ke hm
theorem Ht{d:D}(h:JW d):ShM 60 6000000 d:=by
 rcases h with rfl|⟨rows,m,hr,hm,h⟩
 .exact⟨rfl,by simp only[cr,Ot],by decide +kernel⟩
 have c:ShM 59 1900000 (.lst rows):=(jZ (n:=58) (L:=900) λx a=>vL (n:=55) (hr.1 x a)).le (by have:=hr.2;lia)
 have b:ShM 59 1900000 (.tup rows):=(dH (n:=58) (L:=900) λx a=>vL (n:=55) (hr.1 x a)).le (by have:=hr.2;lia)
 have f:ShM 59 1900000 m:=(ke (n:=57) hm).le (by decide)
 have e:ShM 59 1900000 (.int 0):=⟨rfl,by decide +kernel,by decide +kernel⟩
 rcases h with rfl|rfl|rfl|rfl|rfl
 .refine (dH (n:=59) (L:=1900000) λx a=>?_).le (by simp)
  simp only[Nl,NK,or_false]at a;rcases a with rfl|rfl<;>assumption
 .refine (jZ (n:=59) (L:=1900000) λx a=>?_).le (by simp)
  simp only[Nl,NK,or_false]at a;rcases a with rfl|rfl<;>assumption
 .refine (dH (n:=59) (L:=1900000) λx a=>?_).le (by simp)
  simp only[Nl,NK,or_false]at a;rcases a with rfl|rfl<;>assumption
 .refine (dH (n:=59) (L:=1900000) λx a=>?_).le (by simp)
  simp only[Nl,NK,or_false]at a;rcases a with rfl<;>assumption
 .refine (dH (n:=59) (L:=1900000) λx a=>?_).le (by simp)
  simp only[Nl,NK,or_false]at a;rcases a with rfl|rfl|rfl<;>assumption
section
variable {C:Cse}{s t:Sta}{ad:Ad}{M N:Mem}{Q:DK}{E:DX}{d:D}
theorem vy{K:DK}(h:JW d)(q:K (.str (cr d).shown) M):da [d] M K:=by
 have:=Ht h;exact⟨this.1,this.2.1,Ny this.2.2 (by decide),q⟩
theorem sR{m:D}{K:List D->Mem->Prop}(h:MixAny m){ds:List D}(q:frzs ds N λes M'=>K (m::es) M'):frzs (m::ds) N K:=by
 rcases h with rfl|⟨es,_,_,rfl|rfl⟩<;>exact q
theorem Kc(h:JW d)(q:Q d N):qi d N Q:=by
 rcases h with rfl|⟨rows,m,hr,hm,rfl|rfl|rfl|rfl|rfl⟩
 .exact q
 .exact sR (N:=N) (m:=m) (K:=λa M'=>Q (.tup (.lst rows::a)) M') hm (ds:=[]) q
 .exact q
 .exact sR (N:=N) (m:=m) (K:=λa M'=>Q (.tup (.tup rows::a)) M') hm (ds:=[]) q
 .exact q
 .exact sR (N:=N) (m:=m) (K:=λa M'=>Q (.tup (.lst rows::a)) M') hm (ds:=[.int 0]) q
theorem both(cs0:CsOk C s t)(hk:∀k∈aY C s t,k∈elK)(hu:(aY C s t).length<=100)(h:JW d):∃B:Bool,(∀(M:Mem) (Q:DK) (E:DX),Q (.bl B) M->lX ad [aF C s t,d] M Q E)/\(∀(M:Mem) (Q:DK) (E:DX),Q (.bl B) M->sE ad [aF C s t,b8 (aY C s t),d] M Q E):=by
 obtain⟨a,b,g,j,c⟩:=cs0.e;have f:iI d=true->∃B:Bool,(∀(M:Mem) (Q:DK) (E:DX),Q (.bl B) M->lX ad [aF C s t,d] M Q E)/\(∀(M:Mem) (Q:DK) (E:DX),Q (.bl B) M->sE ad [aF C s t,b8 (aY C s t),d] M Q E):=λi=>
  ⟨false,λM Q E q=>Au cs0.o cs0.hs cs0.ht g j c i q,λM Q E q=>yx i q⟩
 rcases h with rfl|⟨rows,m,hr,hm,rfl|rfl|rfl|rfl|rfl⟩
 .exact f rfl
 .exact⟨qz C s t rows m,λM Q E q=>yJ cs0.o cs0.hs cs0.ht g j c hu hr.1 (by have:=hr.2;lia) hm q,λM Q E q=>sZ cs0 hk hu hr.1 (by have:=hr.2;lia) hm q⟩
 .exact f rfl
 .exact f rfl
 .exact f rfl
 .exact f rfl
end
section
variable {C:Cse}{s t:Sta}{ad:Ad}{M N:Mem}{k:Pt}{b:Nat}
theorem Ai{EE:DX}{D2:DEnds}{x0 x4 c5 c6 c7:Option D}(cs:CsOk C s t)(hk:∀x∈aY C s t,x∈elK)(ul:(aY C s t).length<=11)(hp:Has k (b+5000) M)(h:∀c5 c6 c7 N,Has k b N->D2.nx [x0,some (.ref k.p),some (aF C s t),some (b8<|aY C s t),x4,c5,c6,c7] N):
  ib ad EE D2 [x0,some (.ref k.p),some (aF C s t),some (b8<|aY C s t),x4,c5,c6,c7] M:=by
 have t4:∀d N,JW d->Has k b N->gG ad EE D2 [x0,some (.ref k.p),some (aF C s t),some (b8<|aY C s t),x4,some d,c6,c7] N:=λd N f A=>by
  obtain⟨B,J,w⟩:=both (ad:=ad) cs hk (by lia) f
  have fb:∀{M:Mem} {Q:DK} {b:Bool},Q (.bl b) M->frz (.bl b) M Q:=λh=>h;unfold gG;generalize o:kg ad EE=K3;simp only[ao,av,aQ,aa,ac,ae,MV,dt];refine vy f ?_;simp only[ah,NH];rw[<- o];unfold kg;generalize r:jN ad EE=K2;simp only[ao,av,ai,aj,aa,ac,ae,MV,dt];refine⟨rfl,aG (λQ' E' q=>J _ Q' E' q)<|fb ?_⟩;simp only[ah,NH];rw[<- r];unfold jN;generalize m:jD ad EE=K1;simp only[ao,aL,mz,dk,bU,ar,am,aQ,aa,ac,dC,ae,MV,dt,bZ,cK];refine⟨rfl,?_⟩;have E:bJ "bool" "bool"=true:=by decide +kernel
  rw[E];simp only[zH,OV,Nv,if_false];refine vy f ?_;refine⟨rfl,rfl,?_⟩;have F:∀(N:Mem) (x:Str),(!aI (L3.dv N<|.str x) (L3.dv N<|.str x))=false:=λN x=>by simp[L3.dv,aI]
  rw[F];show K1 D2 _ N;rw[<- m];unfold jD;simp only[aL,ar,am,ai,aj,aa,ac,ae,MV,dt];refine⟨rfl,aG (λQ' E' q=>w _ Q' E' q)<|fb ⟨rfl,rfl,?_⟩⟩;have L:∀(N:Mem),(!aI (L3.dv N<|.bl B) (L3.dv N<|.bl B))=false:=λN=>by simp[L3.dv,aI]
  rw[L];exact h _ _ _ N A
 have v:∀{N:Mem} {p:Addr} {a:List D} {l:List ax} {Q:DK},N p=some (.lst a)->Q (.tup [.lst a,b8 l]) (N.del p)->qi (.tup [.ref p,b8 l]) N Q:=λe q=>by
  unfold qi frzs;simp only[e];exact q
 unfold ib;generalize gG ad EE=K4 at t4 ⊢;simp only[ao,av,qa,aj,aa,ac,ae,MV,dt];refine⟨rfl,aA λQ' E' I _=>zd (b:=b+700) cs ul (hp.le<|by lia) λN1 S a K P O i z G R=>I _ _ (v P ?_)⟩
 refine⟨rfl,aA λQ2 E2 g _=>yY (b:=b) hk ul i z G R (O.1.le<|by lia) (λd N2 f n=>g _ _ (Kc f<|t4 d N2 f n.1)) λc T N2 j u n=>g _ _ (v Mem.upd_same ?_)⟩
 rw[Mem.upd_del,af u];refine t4 _ N2 (.inr ⟨c,b8 K,j,?_,.inl rfl⟩) n.1;exact fw (λy H=>hk y (i.subset H)) (by have:=i.length_le;lia)
end
theorem zw(ad:Ad)(ns:List Int)(hl:ns.length<=63):Ag ad [.ml (ns.map D.int)] (λ_=>none) (λd _=>d=.bl true) iF:=by
 simp only[MK];unfold wE p9 nP;generalize A:jB ad (aw iF)=K6;simp only[ao,av,aj,aa,ac,ae,startN,Nb,NM,MZ,Nq,Nh,Nz,NG,MV,dt];refine⟨trivial,aA λQ' E' a _=>yp λk M1 G _=>a _ _ ?_⟩;simp only[ao,av,ah,NH,ai,am,aj,aa,ac,dC,ae,MV,dt];refine⟨rfl,aA λQ' E' a _=>yK (rn:=7) (most:=50) (b:=6*5000) (by decide) (by decide) (G.le<|by decide) λC s t M2 cs K2=>a _ _ ?_⟩
 have T:=cs.n.n1;have S:=cs.m;have H:aF C s t=.tup [C.d,s.d,t.d,.int (C.most:Nat)]:=rfl;have R:(cZ C).length=C.names.length+C.many:=by simp[cZ]
 have L:(aY C s t).length<=11:=Ny (O6 _ _) (by lia)
 have P:∀x∈aY C s t,x∈elK:=λx K=>by
  rcases Nx.mp (PU.mp K).1 with h|h
  .obtain⟨y,F,rfl⟩:=Nu.mp h
   exact Pd _ (OL<|cs.n.w y F)
  .obtain⟨i,J,rfl⟩:=Nu.mp h
   have:=N7.mp J;exact NC _ (Nk _<|Nu.mpr ⟨i,N7.mpr (by lia),rfl⟩)
 have I:∀{M:Mem} {Q:DK},Q (aF C s t) M->frz (aF C s t) M Q:=λh=>h;refine I ?_;have u:∀{M:Mem} {Q:DK} (i:Int) (d:D),atI [C.d,s.d,t.d,.int (C.most:Nat)] i=some d->Q d M->az (aF C s t) (.int i) M Q:=λi d e h=>by
  simp only[H,az,bt,e];exact h
 refine u 0 C.d rfl ?_;refine u 1 s.d rfl ?_;refine u 2 t.d rfl ?_;refine⟨rfl,aA λQ' E' a _=>rj cs.o cs.hs cs.ht λp O=>a _ _ (vA O ?_)⟩;have q:∀l,b8 l=.lst (l.map kD):=λ_=>rfl;rw[<- q,<- A];unfold jB;generalize z:ib ad (aw iF)=K5;simp only[ao,ah,NH,cJ,bR,aa,dC,ae];refine⟨by decide,by decide,?_⟩
 refine bA (λr U N=>∃(B g c f:Option D),Has k (r.length*5000) N/\U=[some (.ml<|ns.map D.int),some (.ref k.p),some (aF C s t),some (b8<|aY C s t),B,g,c,f]) (λ_ _ _ _=>bd) ?_ ?_ _ _ _ ⟨none,none,none,none,K2.has,rfl⟩
 .rintro U N ⟨B,g,c,f,E,rfl⟩
  exact⟨N,λ_ _ e=>e,rfl⟩
 .rintro x r U N ⟨B,g,c,f,E,rfl⟩ D' v _ _ _
  simp only[ah,NH];rw[<- z];exact Ai (b:=r.length*5000) cs P L (E.le<|by rw[MZ,Nat.add_mul];lia) λg c f N j=>v _ _ ⟨_,_,_,_,j,rfl⟩
def A3(K:Ng):Sp:=λb H Q _=>∃(a:Addr) (ns:List Int),b=[.ref a]/\Al H/\SqL K H a (ns.map V.int)/\ns.length<=63/\∀H',Q (.bl true) H'
theorem HE{l:W.OpenLaw}{w:World}{K:Ng}{h:Heap}{mg:Str->Option Value}{fa C_Askings C_Walk C_Dry C_NoCase f2 f3 f4 f5 f6 f7 f8 f9 f10 f11 f12 f13 f14 f15 f16 f17 f18 f19 f20 f21 f22 f23 f24 f25 f26 f28 f29 f30 f31 f32 f33 f34 f35 f36 f37 f38 f39 f40 f41 f42 f43 f44 f45 f46 f47 f48 f49 f50 f51 f52 f53 f54 f55 f56 f57 f58 f59 f60:Addr}(X:K.In h)(G:h.Ns mainGlobals mg)(hfa:mg "law"=some (.ref fa))
  {e2 e3 e4 e5 e6 e7 e8 e9 e10 e11 e12 e13 e14 e15 e16 e17 e18 e19 e20 e21 e22 e23 e24 e25 e26 e28 e29 e30 e31 e32 e33 e34 e35 e36 e37 e38 e39 e40 e41 e42 e43 e44 e45 e46 e47 e48 e49 e50 e51 e52 e53 e54 e55 e56 e57 e58 e59 e60:FuncData}
  (aC_Askings:Pa K mainGlobals "Askings"=some (some<|.ref C_Askings))
  (aC_Walk:Pa K mainGlobals "Walk"=some (some<|.ref C_Walk))
  (aC_Dry:Pa K mainGlobals "Dry"=some (some<|.ref C_Dry))
  (aC_NoCase:Pa K mainGlobals "NoCase"=some (some<|.ref C_NoCase))
  (l2:Mf K C_Walk "__init__" "Walk.__init__" Mp f2 e2)
  (l3:Mf K C_Walk "note_step" "Walk.note_step" KZ f3 e3)
  (l4:Mf K C_Walk "look" "Walk.look" FG f4 e4)
  (l5:Nf K "run" FZ f5 e5)
  (l6:Nf K "mark" G3 f6 e6)
  (l7:Nf K "do_rows" FA f7 e7)
  (l8:Nf K "do_row" Gk f8 e8)
  (l9:Nf K "do_if" G6 f9 e9)
  (l10:Nf K "do_again" Gp f10 e10)
  (l11:Nf K "number_of" FR f11 e11)
  (l12:Nf K "piece_read" GN f12 e12)
  (l13:Nf K "joined" FD f13 e13)
  (l14:Nf K "all_things" G1 f14 e14)
  (l15:Nf K "number_in" GC f15 e15)
  (l16:Nf K "is_just" FN f16 e16)
  (l17:Nf K "are_just" FK f17 e17)
  (l18:Nf K "unlike" G7 f18 e18)
  (l19:Nf K "marks" G9 f19 e19)
  (l20:Nf K "unlike_of" Gb f20 e20)
  (l21:Nf K "is_mix" FP f21 e21)
  (l22:Nf K "stand_of" Gj f22 e22)
  (l23:Nf K "number_mixed" Gm f23 e23)
  (l24:Nf K "verdict_of" Gu f24 e24)
  (l25:Mf K C_Askings "__init__" "Askings.__init__" Mo f25 e25)
  (l26:Mf K C_Askings "ask" "Askings.ask" Fz f26 e26)
  (l28:Nf K "all_one_less" KF f28 e28)
  (l29:Nf K "is_narrowed" G4 f29 e29)
  (l30:Nf K "has_narrowed_form" Kv f30 e30)
  (l31:Nf K "is_asking" Gx f31 e31)
  (l32:Nf K "_law_tape" Gw f32 e32)
  (l33:Nf K "_law_draw" FQ f33 e33)
  (l34:Nf K "_law_names" GH f34 e34)
  (l35:Nf K "_law_one_row" FY f35 e35)
  (l36:Nf K "_law_loop" GD f36 e36)
  (l37:Nf K "_law_some_rows" My f37 e37)
  (l38:Nf K "_law_plan" Go f38 e38)
  (l39:Nf K "_law_stand" FW f39 e39)
  (l40:Nf K "_law_set" FU f40 e40)
  (l41:Nf K "_law_do" GJ f41 e41)
  (l42:Nf K "_law_begun" Gn f42 e42)
  (l43:Nf K "_law_mark_by" FT f43 e43)
  (l44:Nf K "_law_two_stands" Lr f44 e44)
  (l45:Nf K "_law_fewer" GL f45 e45)
  (l46:Nf K "_law_last_row" KR f46 e46)
  (l47:Nf K "_law_case" Gy f47 e47)
  (l48:Nf K "_law_things" G8 f48 e48)
  (l49:Nf K "_law_unlike" FF f49 e49)
  (l50:Nf K "_law_mixed" Ga f50 e50)
  (l51:Nf K "_law_verdict" FV f51 e51)
  (l52:Nf K "_law_is_mix" Gg f52 e52)
  (l53:Nf K "_law_is_narrowed" Ma f53 e53)
  (l54:Nf K "_law_power" Gd f54 e54)
  (l55:Nf K "_law_mix_of" GK f55 e55)
  (l56:Nf K "_law_bare" Gh f56 e56)
  (l57:Nf K "_law_made" Gq f57 e57)
  (l58:Nf K "_law_odd_mix" Ge f58 e58)
  (l59:Nf K "_law_bent" FS f59 e59)
  (l60:Nf K "law" dI f60 e60)
  (S8:W.excIn K C_Dry [.type "ValueError",.type "Exception",.type "BaseException",.type "object"] "ValueError.__new__"=true)
  (S1:W.excIn K C_NoCase [.type "ValueError",.type "Exception",.type "BaseException",.type "object"] "ValueError.__new__"=true)
  (SU:Qr K C_Askings Str.empty=true)
  (SV:QA K C_Askings=true)
  (SW:Rl K C_Askings=true)
  (SX:Oz K (.ref C_Askings) "__setattr__"=some (some<|.builtin "object.__setattr__"))
  (SY:Rc K C_Askings=true)
  (S0:Pw K (.ref C_Askings)=true)
  (S2:Qr K C_Walk Str.empty=true)
  (S3:QA K C_Walk=true)
  (S4:Rl K C_Walk=true)
  (S5:Oz K (.ref C_Walk) "__setattr__"=some (some<|.builtin "object.__setattr__"))
  (S6:Rc K C_Walk=true)
  (S7:Pw K (.ref C_Walk)=true)
  (SI:Oz K (.ref C_Askings) "case"=some none)
  (SJ:Oz K (.ref C_Askings) "told"=some none)
  (SM:Oz K (.ref C_Askings) "two"=some none)
  (SQ:Oz K (.ref C_Walk) "most"=some none)
  (SK:Oz K (.ref C_Walk) "numbers"=some none)
  (SN:Oz K (.ref C_Walk) "pieces"=some none)
  (SS:Oz K (.ref C_Walk) "plan"=some none)
  (SO:Oz K (.ref C_Walk) "steps"=some none)
  (z_all:Pa K mainGlobals "all"=some none)
  (z_any:Pa K mainGlobals "any"=some none)
  (z_bool:Pa K mainGlobals "bool"=some none)
  (z_dict:Pa K mainGlobals "dict"=some none)
  (z_enumerate:Pa K mainGlobals "enumerate"=some none)
  (z_int:Pa K mainGlobals "int"=some none)
  (z_isinstance:Pa K mainGlobals "isinstance"=some none)
  (z_len:Pa K mainGlobals "len"=some none)
  (z_list:Pa K mainGlobals "list"=some none)
  (z_min:Pa K mainGlobals "min"=some none)
  (z_range:Pa K mainGlobals "range"=some none)
  (z_repr:Pa K mainGlobals "repr"=some none)
  (z_str:Pa K mainGlobals "str"=some none)
  (z_tuple:Pa K mainGlobals "tuple"=some none)
  (z_zip:Pa K mainGlobals "zip"=some none):
  ∃fd:FuncData,(∀(s:Shared) (v:Value),BindsTo s fd ⟨[v],[]⟩ [("_law_script",v)])/\∀base:Heap,K.In base->base.Ns mainGlobals mg->FnOk l.prog w K mg base CX0 33 fa fd ["_law_script"] (A3 K):=by
 have e:=hfa.symm.trans (Ry X G l60.a);cases e;obtain⟨_,_,kV,g,b,i,f,c,_,rfl,_⟩:=l60.F.ex;refine⟨Qs "law" "law" (di dI) (cE dI) (bq dI) .none kV g b i f c,λs v=>.of_eq rfl,λbase _ _=>?_⟩
 let j:Ad:=⟨C_Askings,C_Walk,C_Dry,C_NoCase,fa,f2,f3,f4,f5,f6,f7,f8,f9,f10,f11,f12,f13,f14,f15,f16,f17,f18,f19,f20,f21,f22,f23,f24,f25,f26,fa,f28,f29,f30,f31,f32,f33,f34,f35,f36,f37,f38,f39,f40,f41,f42,f43,f44,f45,f46,f47,f48,f49,f50,f51,f52,f53,f54,f55,f56,f57,f58,f59,fa,Qs "law" "law" (di dI) (cE dI) (bq dI) .none kV g b i f c,e2,e3,e4,e5,e6,e7,e8,e9,e10,e11,e12,e13,e14,e15,e16,e17,e18,e19,e20,e21,e22,e23,e24,e25,e26,Qs "law" "law" (di dI) (cE dI) (bq dI) .none kV g b i f c,e28,e29,e30,e31,e32,e33,e34,e35,e36,e37,e38,e39,e40,e41,e42,e43,e44,e45,e46,e47,e48,e49,e50,e51,e52,e53,e54,e55,e56,e57,e58,e59,Qs "law" "law" (di dI) (cE dI) (bq dI) .none kV g b i f c⟩
 have T:En l.prog w K mg base j:=⟨⟨SU,SV,SW,SX⟩,
  Ry X G aC_Askings,
  ⟨S2,S3,S4,S5⟩,
  Ry X G aC_Walk,
  SI,
  SJ,
  SM,
  SQ,
  SK,
  SN,
  SS,
  SO,
  kL X S8,
  Ry X G aC_Dry,
  kL X S1,
  Ry X G aC_NoCase,
  Oq X G z_all,
  Oq X G z_any,
  Oq X G z_bool,
  Oq X G z_dict,
  Oq X G z_enumerate,
  Oq X G z_int,
  Oq X G z_isinstance,
  Oq X G z_len,
  Oq X G z_list,
  Oq X G z_min,
  Oq X G z_range,
  Oq X G z_repr,
  Oq X G z_str,
  Oq X G z_tuple,
  Oq X G z_zip,
  gi S6 S7 l2,
  gm l3,
  gm l4,
  gf X G l5,
  gf X G l6,
  gf X G l7,
  gf X G l8,
  gf X G l9,
  gf X G l10,
  gf X G l11,
  gf X G l12,
  gf X G l13,
  gf X G l14,
  gf X G l15,
  gf X G l16,
  gf X G l17,
  gf X G l18,
  gf X G l19,
  gf X G l20,
  gf X G l21,
  gf X G l22,
  gf X G l23,
  gf X G l24,
  gi SY S0 l25,
  gm l26,
  gf X G l28,
  gf X G l29,
  gf X G l30,
  gf X G l31,
  gf X G l32,
  gf X G l33,
  gf X G l34,
  gf X G l35,
  gf X G l36,
  gf X G l37,
  gf X G l38,
  gf X G l39,
  gf X G l40,
  gf X G l41,
  gf X G l42,
  gf X G l43,
  gf X G l44,
  gf X G l45,
  gf X G l46,
  gf X G l47,
  gf X G l48,
  gf X G l49,
  gf X G l50,
  gf X G l51,
  gf X G l52,
  gf X G l53,
  gf X G l54,
  gf X G l55,
  gf X G l56,
  gf X G l57,
  gf X G l58,
  gf X G l59,
  gf X G l60⟩
 exact(J7<|HG T).imp λp H Q E ⟨a,o,e,m,hS,n,k⟩=>by subst e;exact F9 m hS (zw j o n) k
theorem walk{l:W.OpenLaw}{q:Program}{loose:List Str}{XP:(Str->Option Value)->Heap->Prop}{YP:World->Heap->Prop}{d:DefRec}{K:Params->Ng}(hn:l.most=some 63)(hdf:d.params.defaults=[])
  (hY:∀(w:World) (h:Heap),YP w h->(K w.params).In h)
  (F:∀(w:World) (mg:Str->Option Value) (fa:Addr) (h:Heap),(K w.params).In h->h.Ns mainGlobals mg->mg d.name=some (.ref fa)->
   ∃fd:FuncData,(∀(s:Shared) (u:Value),BindsTo s fd ⟨[u],[]⟩ [("_law_script",u)])/\∀base:Heap,(K w.params).In base->base.Ns mainGlobals mg->FnOk l.prog w (K w.params) mg base CX0 33 fa fd ["_law_script"] (A3<|K w.params)):
  W.WalkO q loose XP YP l.row.toRowW d [] (λf vs=>Sf f vs):=
 L2.Ep (n:=63) (k:=33) (x:="_law_script") (CX:=λ_=>CX0) (sp:=λw=>A3 (K w.params)) hn (by decide) hdf ⟨rfl,by decide,by decide,rfl⟩ hY F (λ_ _ a e c b hS=>⟨a,e,rfl,b,hS,c,λ_=>rfl⟩) λ_ _ _ _ _ z=>z
end Tw
open PySem PySem.W PyProof.Rows
structure PySem.W.Fast:Prop where
 (tw7423501801733726492 tw12847130814805513896 tw18276762924362212624 tw15739777214124734597 tw13418799868686000806 tw15226234395278671729 tw9939775968392953222 tw3374467474991551512 tw1088344405154101044 tw3565526811839497014 tw16854678756805135003 tw322565987955076631 tw11200075626905649323 tw10129659980928650310 tw5379606494139905390 tw7544028103971045281 tw7871591020365931805 tw3735800416342772773 tw11853676351510905424 tw14326196967756081783 tw13521538532933162235 tw15693643427594266576 tw16236808056115791646 tw5281239304846021668 tw8584954544933978283 tw15166716765933349544 tw12436079249103916296 tw5159121038084694821 tw7327356678720152718 tw5943159055072485335 tw13294985579997795558 tw6284017487895975565 tw1494070540486978137 tw4247719053604432777 tw14875037256365641814 tw9739811917196691547 tw11606427431983884063 tw3637187908768771210 tw4052236264815656560 tw16934521811791248515 tw13317506121202027237 tw4231822954756134012 tw9413041502140485416 tw8907339702079908227 tw2904967373551188680 tw1181598213941650762 tw17503936031725425029 tw10729630628557023383 tw1831672559094533729 tw547791481010695105 tw2288634691033891475 tw7906573754349206047 tw11094139645047225312 tw12957863549426237478 tw17487459123176053985 tw3986553235044115268 tw9803948005582859247 tw16045721966869756092 tw9488582999592618222 tw3129448370368470972 tw11684759766533735142 tw10488430514367801276 tw3299980793720797987 tw3901207013550886684 tw16766700360356822856 tw16711269891970139205 tw10947131816456505893 tw4468901722079772124 tw4235082334851776548 tw11186823392912299326 tw8215840718316392913 tw15764114061164457528 tw18170372121154738382 tw1261368512349829569 tw1383641801816008349 tw11399976920431797242 tw11952182381367856252 tw15954974395733452717 tw11212359392835934865 tw11226319538071224072 tw6425589336347751169 tw16900263472071432612 tw499719840457593073 tw3550952499366109113 tw11701612431924901157 tw8051796328248532816 tw18316321061104987973 tw1323234280132446554 tw9570451948732310755 tw3650783914028916187 tw17292673475488423145 tw9778477924131234857 tw717138393634676487 tw13005401561322435629 tw12693999961206233511 tw14051812161326383266 tw12068171389352902388 tw5659774210310778701 tw17904823867950356189 tw8282227968554496407 tw17285541692887999912 tw8954881497868211918 tw17272510592962846461 tw11780766062636969855 tw15512673110814845517 tw6685003934122313957 tw13346570770350452353 tw12572811743581355320 tw16039342590138121083 tw5891027825297402481 tw13349588409171351081 tw5152723238941522950 tw1326377837557000384 tw9233663522701942204 tw11507719108668904904 tw1691766932975263436 tw9050034593915880404 tw17720702160247268943 tw16971199663751160929 tw11322715700756804406 tw5638315879884440367 tw15924360831140532248 tw7836879480811064595 tw18086609772124196998 tw5971629022447339633 tw6474451894743175325 tw8978940280788016075 tw2144456031769761356 tw14014248739517725140 tw15599116800571940022 tw4388102698845222431 tw3512568219607283207 tw17322704709932755784 tw7044251987491667268 tw4214409943264598496 tw18391700441758798205 tw14067255699125425818 tw5502234218929088201 tw8163502815243402410 tw11410690602043096712 tw17282176207347179302 tw17835887009651515991 tw11233725848979839037 tw15461159264508955241 tw13439943882699313997 tw14201860680349856235 tw7496266969281036793 tw10965038727089143438 tw10236531042952172337 tw3426385801039453269 tw12681365172938570038 tw10054550515287976999 tw14387196643520141439 tw8330944148766666049 tw16597796774276761049 tw10953340588505984776 tw7303912308121684411 tw5111894800987721585 tw5144034888925674768 tw17403585602296824491 tw16448629272656587493 tw5803773547337668890 tw7761552623197597019 tw16179212189792865901 tw1955359077606454973 tw8234795668879037179 tw15901887629471452712 tw14377459490432534064 tw12307277838540644494 tw9952618402802711537 tw14836675456003611074 tw784727825467154089 tw7004559677380775158 tw9722114497570906950 tw13043500578320927007 tw6049584904861045562 tw1888625511383037884 tw6600908807606596994 tw13575398957617792112 tw1701332009738975582 tw676596369435038511 tw18083902220258492483 tw7368144500459311297 tw543418647766515151 tw9354563262481897271 tw16399032849023977142 tw10561108454592341870 tw9664420441941849395 tw10227600263847290413 tw12755613989315076366 tw9842613467458134715 tw16857944095179183962 tw3728549281430503035 tw162885970888103862 tw7427488971911003028 tw4055810562845468491 tw15949421293590507291 tw16772674820772496737 tw9060693159420032577 tw16445815623126398974 tw7575425002446383735 tw16306639666922348032 tw6051216634368978935 tw6970921093815565146 tw10023225516777576131 tw13673310613925344712 tw9542433759596621854 tw11252208191976881075 tw8690915397465348473 tw9280650436892616509 tw5855280921274827191 tw2357048678890843168 tw11673360400111043952 tw10275513070896181600 tw16324042371961120213 tw11274459694531390018 tw17615760539496888740 tw15847551523774761010 tw14881190558864540956 tw9294994154925488068 tw13086296531854646558 tw9261626811257136974 tw15950705210344696822 tw15732440224582923603 tw5575102482107279771 tw17375365159283446091 tw5653410915678978829 tw13897180948863163539 tw6050652313306470697 tw15580602806613803718 tw15959481356892732160 tw7095858515129305613 tw11719456783187588035 tw15973239466428904396 tw9812843333734871832 tw1734970645189441895 tw16450864507522883259 tw4552309265682415062 tw11640965245088271070 tw5924629197831844762 tw981962889395310336 tw9777462303507803484 tw98322143561194230 tw11205454621904386064 tw6167457328292404073 tw8986251636626171098 tw4434897961876703298 tw14601143140685246387 tw17737011374397085304 tw13969406876689406125 tw2313710725931750529 tw14227498143251054012 tw17386157671461637480 tw8271359723031229043 tw6347504085691874077 tw6678118728967849724 tw16259977237464445117 tw12818273682049909054 tw7166559708485041435 tw3513026950512572597 tw15081273496924379055 tw17609619441738997805 tw5903732340701921680 tw3990278856193270296 tw1089160176814885247 tw13824828310683614690 tw6866965237168433495 tw892874826556814454 tw1525250875793961455 tw10024175448494545630 tw6085840528812415153 tw3528155320920838192 tw2245995074806463584 tw510992906994728080 tw2316144818604721898 tw12876390715475404502 tw12340581564429006915 tw2273906214591790947 tw9482195638561093566 tw16893958628683962614 tw16282515134057120813 tw14882090380835617057 tw16422555104776115482 tw4441117931350824213 tw8351380037080991574 tw9972749622184623754 tw8711093386846225061 tw13734009845868892150 tw4390196869042360019 tw15782782454266302709 tw1750347617587199547:True)
set_option maxRecDepth 100000 in
set_option maxHeartbeats 0 in
theorem PySem.Challenge.cw_twinstride_k66_narrowings_looked_at_holds : PySem.Challenge.rw_twinstride_k66_narrowings_looked_at.Holds := by
 w_on;o_law;k_head;(case hw=>w_witness2)
 k_fill
 refine Tw.walk (l:=PySem.Challenge.rw_twinstride_k66_narrowings_looked_at) rfl rfl (λw h Y=>W.kIn_of Y) ?F
 case F=>
  intro w b c h KX G a;refine' Tw.HE KX G a ..
  any_goals k_is
  any_goals (first|refine' L3.Nf.mk ?_ (L2.A4 ?_ ?_ ?_)|refine' L3.Mf.mk ?_ ?_ (L2.A4 ?_ ?_ ?_))
  any_goals k_is
  any_goals k_exc
