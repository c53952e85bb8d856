import PyProof.Rows.All
import Wide.All
import OpenK.AllK
import Wide.FinOn
import Lean
import PyProof.EqAt
import PyProof.EqKinds
import PyProof.TupleCall
import PySem.Challenge.RW_twinstride_k53_whole_shares_come_to_one
set_option Elab.async false
set_option linter.all false
set_option maxRecDepth 100000
set_option maxHeartbeats 4000000
set_option compiler.extract_closed false
set_option Elab.async false
set_option linter.all false
set_option maxRecDepth 100000
open Array renaming replicate->RP,append_assoc->Sn,length_toList->SW,toList->S3,size_append->Ui,getElem?_toList->VH,forIn_toList->V3
open Bool renaming false_ne_true->Qq,false_eq_true->QA,beq_eq_decide_eq->QE,and_eq_true->Q9,false_or->RF,or_false->Sk,and_false->Sy,not_true->SI,true_or->TJ,and_true->T7,or_true->Us,false_and->U1,and_self->Vi
open False renaming elim->Q7
open ForInStep renaming yield->Tq
open Int renaming toNat_natCast->Qh,emod_nonneg->Q0,emod_lt_of_pos->Q8,natCast_mul->RV,natCast_dvd_natCast->Sr,le_refl->Ss,toNat_of_nonneg->S4,zero_add->TR,add_zero->TU,mul_one->UO,mul_le_mul_of_nonneg_left->UP,fdiv_eq_ediv_of_nonneg->Vb,mul_ediv_cancel_left->Vq,mul_assoc->Vr,toNat->VD,mul_ediv_mul_of_pos->VE,eq_ofNat_of_zero_le->VF,dvd_mul_of_dvd_left->VG
open List renaming getElem?_cons_zero->dt,getElem?_cons_succ->PN,length_map->PQ,map_cons->PU,getElem?_eq_getElem->PV,length_append->PX,mem_filter->Qa,size_toArray->Qd,length_cons->Qe,mem_cons_of_mem->Qf,set->Qi,getElem?_map->Qj,mem_cons->Ql,mem_cons_self->Qm,cons_append->Qn,nil_append->Qo,map_nil->Qt,mem_map->Qv,mem_append_right->Qw,lookup->Qy,replicate->Qz,filter_cons->QB,mem_append->QC,getElem?_append_right->QD,range->QG,length_filter_le->QH,sum_cons->QJ,not_mem_nil->QM,length_nil->QN,append_nil->QO,getElem?_eq_none->QU,foldl_cons->QW,getElem?_append_left->QY,replicate_succ->Q3,map_congr_left->Q6,find?_cons->Rb,length_singleton->Rc,filter_append->Rf,mem_range->Ri,filter_map->Rk,map_map->Ro,getElem?_eq_some_iff->Ry,map_id->RA,any_cons->RE,getElem?_range->RG,filterMap_cons->RH,zipIdx_cons->RI,getElem_mem->RJ,nodup_cons->RT,length_set->RU,idxOf_lt_length_of_mem->RX,flatten_cons->RY,filter_congr->RZ,length->R7,range'_succ->Sa,lookup_cons->Sb,drop_eq_getElem_cons->Sg,filter_eq_self->Sh,of_mem_zip->Sl,map_append->Sm,range_eq_range'->SK,mem_of_getElem?->SM,mem_map_of_mem->S2,getD_eq_getElem?_getD->Ta,range'->Tj,getElem?_set->Tn,length_take->TB,filter_eq_nil_iff->TF,drop_eq_nil_of_le->TH,length_zip->TQ,mem_append_left->TX,forIn_nil->TY,take_succ_eq_append_getElem->Ul,sum_nil->Um,nodup_append->Uo,length_range->Uq,getElem?_nil->Ur,eraseIdxIfInBounds_toArray->Uw,nodup_range->Uz,isEmpty_nil->UA,getElem_map->UB,eq_nil_of_length_eq_zero->UJ,range_succ->UM,forIn_cons->UN,mem_or_eq_of_mem_set->Va,getElem?_replicate->Vn,filter_cons_of_pos->Vo,filter_cons_of_neg->Vp,take_of_length_le->Vz,range_succ_eq_map->VA,getElem_cons_zero->VB,getElem?_set_self->VC,dropLast_eq_take->VR,getElem?_set_ne->VV,length_reverse->V1,length_pos_iff->V2,zip_cons_cons->V6,mem_singleton->V7,mem_filterMap->V8,getElem_idxOf->V9,findIdx?_cons->Wa
open List.Pairwise renaming filter->UK,map->U0
open List.cons renaming injEq->Ru
open Nat renaming le_refl->PZ,lt_of_lt_of_le->Qc,ne_of_lt->Qk,le_trans->Qp,lt_irrefl->QK,pow_le_pow_right->QR,le_add_right->Rg,zero_le->Rq,ne_of_gt->RB,lt_or_ge->RC,gcd->So,lt_succ_of_lt->SE,lt_succ_self->SH,not_lt_zero->S1,mul_comm->S5,lt_of_le_of_lt->Te,mul_assoc->Tv,testBit_lt_two_pow->TN,mul_le_mul->TZ,div_mul_cancel->Uh,zero_add->Ut,lt_trans->Uu,le_of_succ_le->Uv,zero_testBit->UI,le_succ->UL,testBit_or->U9,gcd_pos_of_pos_left->Vy,min_self->VN,le_of_lt->VO,le_of_eq->VP,add_zero->VQ,log2_lt->V0
open Ne renaming symm->Qu
open Option renaming map_some->QZ,join_some->Q4,isSome_iff_exists->Rz,map_eq_some_iff->Tz,isSome_map->Ub,isSome_some->VT,isNone_some->VU,getD_none->V5
open Option.some renaming inj->QX
open PyProof.Rows renaming callWith_type1->QL,slot_tuple_getitem->Q1,envOfC->SD,assign_Tuple->Ug
open PySem renaming mem_of_lookup->QS,stored->Su,list_append->Uc,Within->Vj,call->VW
open PySem.Around renaming under_plainId->R0,under->Ua
open PySem.AutoSeq1 renaming sub_tuple_tuple->S9,idx_int->T9
open PySem.Builtin renaming bitAnd->S0,bitOr->TV
open PySem.Builtin.Dict renaming updateFrom->R8,pairItems->S8,selfAndRest->Uj,addKeywords->Uk
open PySem.Builtin.Int renaming intBits->Rh
open PySem.Builtin.Slice renaming slicePlaces->RS,sliceAdjust->SG,sliceApplied->T6
open PySem.Builtin.SmallTypes renaming nextOf->Qx,ownedTupleIsFree->QP,ownedTupleHandOut->S7
open PySem.Builtin.Tuple renaming tupleExact->Rt,tupleTooMany->T4,tupleItemsOf->T5
open PySem.Calls renaming spliced_cons->RM,callWith_builtin->RN,evalArgs_plain->R6,spliced_nil->Sv,Name_function_global->UW
open PySem.Code renaming isFrame->Vx
open PySem.Expr renaming Call->Vm
open PySem.F renaming slot_tuple_mul->RK,slot_NoneType_hash->RW,slot_tuple_iterator_next->Sf,slot_zip_next->Sq,slot_dict_pop->Sw,slot_list_getattribute->SA,slot_list_append->SY,slot_list_pop->S6,args_tuple_mul_2->Tc,args_tuple_add_2->Td,plainAttrs_list->Tg,entry_tuple_mul->Th,entry_tuple_add->Ti,slot_tuple_add->Tu,slot_zip_getattribute->TM,args_list_append_2->T3,entry_list_append->Ue,args_zip_next_1->UH,slot_tuple_index->UT,entry_zip_next->UU,slot_tuple_rmul->UX,plainAttrs_dict->UY,args_dict_pop_3->UZ,entry_dict_pop->U7,args_tuple_iterator_next_1->U8,type_list_pop->Ve,type_dict_pop->Vf,slot_int_rmul->Vg,entry_tuple_iterator_next->Vh,args_dict_init_2->VM,entry_dict_init->VS,slot_enumerate_next->V4
open PySem.Heap renaming get?_push_of_some->PR,lt_size->Qb,get?_push_size->Qg,size_push->QF,SameBut->RO,ExtBut->UG,get?_update_other->Vv,get?_update_self->VL
open PySem.Heap.DictOf renaming new->Vw
open PySem.Heap.SameBut renaming update->US
open PySem.NameKind renaming cell->Sz
open PySem.Obj renaming mapSeq->Ud
open PySem.Paired renaming length->Rn
open PySem.PyData renaming hasDict->Ra,shownAll->Sj,showable->SJ,shown->SU,depth->SV,showableAll->T2,hasDictAll->T8,depthAll->Uy,noDict_hsm->VZ
open PySem.SeqAt renaming EqAt->TC,RcNeAt->Vk,RcAt->VY
open PySem.SeqAt.EqAt renaming str_none->U3,none_str->U4,none_int->U5,int_none->U6,str_int->Vc,int_str->Vd
open PySem.SeqAt.RcAt renaming lists_lengths->Ux,tuples->Vl,lists->Vu
open PySem.Shared renaming heap->Vt
open PySem.Str renaming ofString->QI,empty->UE
open PySem.Txt renaming contains->SS
open PySem.Value renaming ref->Qs,none->RL,int->RQ,bool->R5,str->Tt,type->UR,builtin->U2,float->VJ
open PySem.W renaming Frag->PY,findIn->QT,mg_none_of->Q5,keepIn->Rj,nsIn->Rr,emptyDict->Se,kia_one->Si,plainGet->SN,fnOf->SO,cellsFrom_some->SQ,hasDictIn->SX,mg_of->Tb,instObj->Tf,plainOver->Tx,makesIn->TL,codeIn->UC,callWith_K->UD,hideAll->UQ,plainGet_of->VI,excIn->VX
open Std.Legacy renaming Range->Vs
open String renaming reduceBEq->To
open Sum renaming inr->Qr,inl->Rx
open Sum.inl renaming inj->SF
open Sum.inr renaming inj->TK
open True renaming intro->RD
open Bool renaming false->eC
open Option renaming some->ap,none->cm
open PyProof.Rows renaming AllBare->W9,assignInOrder_cons->Xw,IsTup->XE,subscriptTail_builtinR->X5,IntsAre->Yb
open PySem renaming wpAny_bind->ax,Value->ay,Addr->eg,Shared->el,wpAny->eH,wpAny_pure->fe,starEach->ff,model->fv,mainGlobals->fx,Program->fy,Expr->gl,bootBuiltins->gp,eval->g3,World->g4,FuncData->g5,wpAny_field->hB,binaryOp->hG,Heap->hI,backTo->j0,Around->kc,builtinLookup_eq_fast->kr,compareOp->mu,wpAny_call_entry->nr,wpAny_mono->n7,attributeBase->ol,wpAny_newObj_type->om,foldedSetIterable->o4,wpAny_holding->pa,wpAny_loadPart'->pr,wpAny_seqItems->pt,typeLookup_type->py,wpAny_setField_rec->p3,assignEach->ra,cLine->rc,wpAny_Call_Name_kw->re,Stmt->rz,IsPair->tm,cellsFrom->t3,holding->va,call_meets->vb,swapsWith->vr,rawInt->wh,isSubtype_type->x9,Keyword->z0,wpAny_passesOwn->z4,backToKw->z5,wpAny_rule->PP,typeLookup->Re,sysModules->Rs,pyNext->Sc,Scope->SB,wpAny_attempt->SC,wpAny_execs_nil->SL,codeAny->SZ,wpAny_of_eq->Tk,wpAny_typeOf->Tl,relabel->TD,codeAny_mono->TW,closureFor->T0,wpAny_standAt->Uf,sliceBounds->UF,wpAny_specialOf->UV,codeAny_builtin->Wp,pushCells->WF,getMethod->WP,tupleKind_room_in1->W1,getattributeRaised->W6,standAt->W7,field->W8,wpAny_comprehension_free->Xa,stored->Xb,plainId_quiet->Xc,wpAny_isInstance->Xd,Operator->Xe,valueAt->Xf,getItem->Xg,PlainAttrs->Xh,Paired->Xi,pushCells_keeps->Xj,letOwnedTupleGo->Xk,newFunctionEnv->Xl,firstArgMember->Xm,entryFor->Xn,assign->Xo,NameKind->Xp,IsPart->Xq,wpAny_dictSet_pairs->Xr,swapsWithSole->Xs,swappedStores->Xt,behindInMarks->Xu,typeOf->Xv,wpAny_pyIter_list->Xx,callerA->Xy,callWith->Xz,IsZip->XA,wpAny_execs_cons->XB,noFill_tuple_add->XC,sizeLine_eq->XD,setItem->XF,BindsTo->XG,wpAny_newTuple->XH,isSubtype_stop->XI,entryFor_alias->XJ,builtinsNs->XM,bindArgs->XN,atKey->XO,argsOk->XQ,Result->XR,Meets->XS,seq_tuple_add->XT,assignInOrder->XU,Slot->XV,tupleKind->XW,seqItems?->XX,seqIndex?->XY,bindL->XZ,bindC->X0,PassesOwn->X1,DictEntry->X2,wpAny_pyNext_list_item->X3,wpAny_Call_method_late->X4,seqIndex_neg->X6,isTrue->X7,concat_meets->X8,codeAny_compStart_list->X9,callType_new->Ya,wpAny_pyNext_list_end->Yc,wpAny_updateSeq_pair->Yd,wpAny_raiseAttrError->Ye,wpAny_loadName_local->Yf,table->Yg,setField->Yh,seqIndex_of->Yi,loadIfAlive->Yj,getAttr?->Yk,bindName->Yl
abbrev Yu:=List Int
abbrev Yv:=List PySem.Str
abbrev Yw:=List ay
abbrev Yx:=List eg
abbrev Yy:=List gl
abbrev Yz:=List rz
abbrev YA:=ay->el->Prop
abbrev YB:=List (eg×PySem.Obj)
abbrev YC:=PySem.Str->Option ay
abbrev YD:=Array ay
namespace L2
open PySem PySem.Spec PyProof.Rows
variable{C a b dx f:eg}{A:kc}{X:Cx}{c e tg:gl}{fd:g5}{o:HO}{base h h':hI}{H H':Hp}{Ym:YB}{kw:List (Str×ay)}{ch fp:Yx}{es:Yy}{body:Yz}{N ps:Yv}{us:Yw}{M:Model}{i j t':Nat}{op:Xe}{K:PY}{p pos pos':Pos}{P:fy}{s:el}{sp:Sp}{Z:St}{m x:Str}{mA mg:YC}{ta tb te:TE}{u:ay}{E Q:YA}{w:g4}{CX:oh}
abbrev aG:=Sum Int Str
def mq:aG->ay->Bool
 |.inl k,v=>Value.isInt k v
 |.inr x,v=>Value.isStrOf x v
def OW(w:g4):aG->Int
 |.inl k=>hashInt k
 |.inr x=>hashStr w x
theorem ba:∀{k:aG}{v:ay},mq k v=true->(∃i t,k=Rx i/\v=RQ i t)\/(∃x t,k=Qr x/\v=Tt x t)
 |.inl i,v,h=>by
  obtain⟨t,e⟩:=Value.isInt_shape (k:=i) (v:=v) h;exact .inl ⟨i,t,rfl,e⟩
 |.inr x,v,h=>by
  obtain⟨t,e⟩:=Value.isStrOf_shape (x:=x) (v:=v) h;exact .inr ⟨x,t,rfl,e⟩
theorem AD(i:Int)(t:Tok):mq (.inl i) (.int i t)=true:=by simp[mq,Value.isInt]
theorem AQ(x:Str)(t:Tok):mq (.inr x) (.str x t)=true:=by simp[mq,Value.isStrOf]
theorem MV(a b:Int):decide ((Rx a:aG)=Rx b)=(a==b):=by
 by_cases e:a=b
 .subst e;simp
 .have h:¬(Rx a:aG)=Rx b:=λq=>e (SF q)
  rw[decide_eq_false h];exact(beq_eq_false_iff_ne.mpr e).symm
theorem KC(a b:Str):decide ((Qr a:aG)=Qr b)=decide (a=b):=by
 by_cases e:a=b
 .subst e;simp
 .have h:¬(Qr a:aG)=Qr b:=λq=>e (TK q)
  rw[decide_eq_false h,decide_eq_false e]
theorem MN(a:Int)(b:Str):decide ((Rx a:aG)=Qr b)=false:=decide_eq_false (λq=>nomatch q)
theorem ME(a:Str)(b:Int):decide ((Qr a:aG)=Rx b)=false:=decide_eq_false (λq=>nomatch q)
def aW(prog:fy)(w:g4):PySem.KeyKind prog w aG where
 is:=mq
 hash:=OW w
 inj:=λv a b q n=>by
  rcases ba q with⟨i,t,rfl,rfl⟩|⟨x,t,rfl,rfl⟩
  .rcases ba n with⟨j,u,rfl,e⟩|⟨y,u,rfl,e⟩
   .injection e with e1 _;rw[e1]
   .exact nomatch e
  .rcases ba n with⟨j,u,rfl,e⟩|⟨y,u,rfl,e⟩
   .exact nomatch e
   .injection e with e1 _;rw[e1]
 byValue:=λk v h=>by
  rcases ba h with⟨i,t,rfl,rfl⟩|⟨x,t,rfl,rfl⟩<;>rfl
 pyHash:=λg h=>by
  rcases ba g with⟨i,t,rfl,rfl⟩|⟨x,t,rfl,rfl⟩
  .exact wpAny_pyHash_int h
  .exact wpAny_pyHash_str h
 eqBool:=λz g h=>by
  rcases ba z with⟨i,t,rfl,rfl⟩|⟨x,t,rfl,rfl⟩
  .rcases ba g with⟨j,u,rfl,rfl⟩|⟨y,u,rfl,rfl⟩
   .rw[MV]at h;exact wpAny_eqBool_int h
   .rw[MN]at h;exact Vd i t y u _ _ _ _ h
  .rcases ba g with⟨j,u,rfl,rfl⟩|⟨y,u,rfl,rfl⟩
   .rw[ME]at h;exact Vc x t j u _ _ _ _ h
   .rw[KC]at h;exact wpAny_eqBool_str h
 «strs»:=λk x t v h=>by
  rcases ba h with⟨i,u,rfl,e⟩|⟨y,u,rfl,e⟩
  .exact nomatch e
  .injection e with e1 _
   subst e1;cases v<;>rfl
theorem rJ(prog:fy)(w:g4)(i:Int)(t:Tok):(aW prog w).is (.inl i) (.int i t)=true:=AD i t
theorem rM(prog:fy)(w:g4)(x:Str)(t:Tok):(aW prog w).is (.inr x) (.str x t)=true:=AQ x t
inductive V where
 |non|bl (b:Bool)|int (i:Int)|str (x:Str)|byt (b:Array UInt8)|flt (b:UInt64)|ref (a:eg)|ty (n:String)
 deriving DecidableEq
def RelV:V->ay->Prop
 |.non,u=>u=RL
 |.bl b,u=>u=R5 b
 |.int i,u=>∃t,u=RQ i t
 |.str x,u=>∃t,u=Tt x t
 |.byt b,u=>∃t,u=Value.bytes b t
 |.flt b,u=>∃t,u=VJ b t
 |.ref a,u=>u=Qs a
 |.ty n,u=>u=UR n
abbrev Vals:List V->List ay->Prop:=Xi RelV
theorem Vals.length{xs:List V}(r:Vals xs us):xs.length=us.length:=Rn r
theorem Vals.get:∀{xs:List V}{us:Yw}{i:Nat}{x:V},Vals xs us->xs[i]?=ap x->∃u,us[i]?=ap u/\RelV x u
 |_,_,_,_,.nil,e=>by simp at e
 |_,_,0,_,.cons r _,e=>by simp at e;subst e;exact⟨_,rfl,r⟩
 |_,_,i+1,x,.cons _ t,e=>by
  obtain⟨u,g,n⟩:=Vals.get (i:=i) (x:=x) t (by simpa using e)
  exact⟨u,by simpa using g,n⟩
theorem Vals.set{x:V}{u:ay}(r:RelV x u):∀{xs:List V}{us:Yw}(i:Nat),Vals xs us->Vals (xs.set i x) (us.set i u)
 |_,_,_,.nil=>.nil
 |_,_,0,.cons _ t=>.cons r t
 |_,_,i+1,.cons q t=>.cons q (Vals.set r i t)
theorem Vals.append:∀{xs ys:List V}{us g:Yw},Vals xs us->Vals ys g->Vals (xs++ys) (us++g)
 |_,_,_,_,.nil,s=>s
 |_,_,_,_,.cons r t,s=>.cons r (Vals.append t s)
theorem Vals.take:∀{xs:List V}{us:Yw}(n:Nat),Vals xs us->Vals (xs.take n) (us.take n)
 |_,_,0,_=>.nil
 |_,_,_+1,.nil=>.nil
 |_,_,n+1,.cons r t=>.cons r (Vals.take n t)
theorem Vals.drop:∀{xs:List V}{us:Yw}(n:Nat),Vals xs us->Vals (xs.drop n) (us.drop n)
 |_,_,0,r=>r
 |_,_,_+1,.nil=>.nil
 |_,_,n+1,.cons _ t=>Vals.drop n t
def RelO:Option V->Option ay->Prop
 |some v,ap u=>RelV v u
 |none,cm=>True
 |_,_=>False
def KV{κ:Type}:List (κ×V)->List (κ×ay)->Prop:=Xi λ(p:κ×V)(q:κ×ay)=>p.1=q.1/\RelV p.2 q.2
def kV:aG->V
 |.inl i=>.int i
 |.inr x=>.str x
inductive HO where
  |lst (xs:List V)
  |tup (xs:List V)
  |dK (Yo:List (aG×V))|dT (Yo:List (List aG×V))
  |set (S:Int->Bool) (n:Nat)
  |ins (C dx:eg) (fs:List (Str×V))
  |own (x:eg)
  |xd (fs:List (Str×V))
  |met (f x:eg)
  |rng (lo hi:Int)
  |frz (o:Obj) (u:HO)
  |tbl (ps:YD)
  |ext (φ:hI->Prop)
abbrev Hp:=eg->Option HO
def upd(H:Hp)(a:eg)(o:HO):Hp:=λb=>if b=a then ap o else H b
theorem upd_same:upd H a o a=ap o:=by unfold upd;rw[if_pos rfl]
theorem aK(h:b≠a):upd H a o b=H b:=by unfold upd;rw[if_neg h]
theorem Pm{u:HO}(h:H a=ap o)(h':H b=ap u)(d:o≠u):a≠b:=by
 intro e;subst e;rw[h]at h';exact d (QX h')
theorem bc(h:H a=ap o)(h':H b=cm):a≠b:=by
 intro e;subst e;rw[h]at h';cases h'
section
variable(P:fy)(w:g4)
def ObjOk(H:Hp)(h:hI)(a:eg):HO->Prop
 |.lst xs=>xs.length<=sizeLine/\∃(Ys:Yw)(n:Nat),Vals xs Ys/\h.get? a=ap { cls:=.type "list",data:=.seq Ys.toArray n }
 |.tup xs=>xs.length<=sizeLine/\∃Ys:List ay,Vals xs Ys/\∃o,h.get? a=ap o/\(o.cls=.type "tuple"/\∃n,o.data=.seq Ys.toArray n)/\o.dict=cm
 |.dK Yo=>Yo.length<=sizeLine/\(a==Rs)=eC/\∃vs,KV Yo vs/\h.DictOf (aW P w) a vs
 |.dT Yo=>Yo.length<=sizeLine/\(a==Rs)=eC/\∃xs:List (List aG×eg×ay),
   Xi (λ(p:List aG×V)(q:List aG×eg×ay)=>p.1=q.1/\H q.2.1=ap (.tup<|p.1.map kV)/\RelV p.2 q.2.2) Yo xs/\
   ∃o es ep,h.get? a=ap o/\o.ExactDict/\o.data=.dict es ep/\es.toList=xs.map (entryOfKey<|tupleKind<|aW P w)/\(xs.map (·.1)).Nodup
 |.set S n=>h.SetOf (intKind P w) a S n
 |.ins C dx fs=>H dx=ap (.own a)/\fs.length<=1000/\dx≠a/\h.get? a=ap (Tf C dx)/\
   ∃mA,h.Ns1 dx mA/\(∀f,RelO (fs.lookup f) (mA f))/\Vj mA (fs.map (·.1))
 |.own _=>∃o,h.get? a=ap o
 |.xd fs=>∃mA,h.Ns1 a mA/\∀f,RelO (fs.lookup f) (mA f)
 |.rng lo hi=>∃t u v,h.get? a=ap { cls:=.type "range",data:=.fields #[.int lo t,.int hi u,.int 1 v] }
 |.frz o u=>h.get? a=ap o/\ObjOk H h a u
 |.tbl ps=>h.get? a=ap { cls:=.none,data:=.fields ps }
 |.met f x=>h.get? a=ap (W.methodObj (.ref f)<|.ref x)
 |.ext φ=>φ h/\(∃o,h.get? a=ap o)/\∀h1 h2:hI,φ h1->(∀o,h1.get? a=ap o->h2.get? a=ap o)->φ h2
def HOk(H:Hp)(h:hI):Prop:=∀a o,H a=ap o->ObjOk P w H h a o
end
section
theorem ObjOk.lt(x:ObjOk P w H h a o):a<h.objs.size:=by
 cases o with
 |lst xs=>obtain⟨_,_,_,_,e⟩:=x;exact Qb e
 |tup xs=>obtain⟨_,_,_,_,e,_⟩:=x;exact Qb e
 |dK Yo=>obtain⟨_,_,_,_,o,_,_,e,_⟩:=x;exact Qb e
 |dT Yo=>obtain⟨_,_,_,_,o,_,_,e,_⟩:=x;exact Qb e
 |set S n=>obtain⟨o,_,_,_,e,_⟩:=x;exact Qb e
 |ins C dx fs=>obtain⟨_,_,_,e,_⟩:=x;exact Qb e
 |own y=>obtain⟨_,e⟩:=x;exact Qb e
 |xd fs=>obtain⟨_,⟨_,_,_,e,_⟩,_⟩:=x;exact Qb e
 |rng lo hi=>obtain⟨_,_,_,e⟩:=x;exact Qb e
 |frz ob u=>obtain⟨e,_⟩:=x;exact Qb e
 |tbl ps=>exact Qb (show h.get? a=ap _ from x)
 |met f y=>exact Qb (show h.get? a=ap _ from x)
 |ext φ=>obtain⟨_,⟨_,e⟩,_⟩:=x;exact Qb e
theorem eF{α q:Type}{F G:α->q->Prop}:∀{n:List α}{g:List q},Xi F n g->(∀a b,F a b->G a b)->Xi G n g
 |_,_,.nil,_=>.nil
 |_,_,.cons r t,f=>.cons (f _ _ r) (eF t f)
theorem ObjOk.stay(x:ObjOk P w H h a o)(k:∀b u,(b=a\/H b=ap (.own a))->h.get? b=ap u->h'.get? b=ap u)(R:∀b,H b=ap (.own a)->H' b=ap (.own a))(O:∀b xs,H b=ap (.tup xs)->H' b=ap (.tup xs)):ObjOk P w H' h' a o:=by
 induction o with
 |lst xs=>obtain⟨z,F,n,r,e⟩:=x;exact⟨z,F,n,r,k _ _ (.inl rfl) e⟩
 |tup xs=>obtain⟨z,F,r,g,e,c⟩:=x;exact⟨z,F,r,g,k _ _ (.inl rfl) e,c⟩
 |dK Yo=>obtain⟨z,y,L,r,g,es,B,e,c⟩:=x;exact⟨z,y,L,r,g,es,B,k _ _ (.inl rfl) e,c⟩
 |dT Yo=>
  obtain⟨z,y,xs,r,g,es,B,e,c⟩:=x;exact⟨z,y,xs,eF r λp q z=>⟨z.1,O _ _ z.2.1,z.2.2⟩,g,es,B,k _ _ (.inl rfl) e,c⟩
 |set S n=>obtain⟨g,es,B,t,e,c⟩:=x;exact⟨g,es,B,t,k _ _ (.inl rfl) e,c⟩
 |ins C dx fs=>
  obtain⟨d,z,ne,e,mA,⟨G,es,B,J,c⟩,r⟩:=x;exact⟨R _ d,z,ne,k _ _ (.inl rfl) e,mA,⟨G,es,B,k _ _ (.inr d) J,c⟩,r⟩
 |own y=>obtain⟨g,e⟩:=x;exact⟨g,k _ _ (.inl rfl) e⟩
 |xd fs=>obtain⟨mA,⟨G,es,B,e,c⟩,r⟩:=x;exact⟨mA,⟨G,es,B,k _ _ (.inl rfl) e,c⟩,r⟩
 |rng lo hi=>obtain⟨t,u,v,e⟩:=x;exact⟨t,u,v,k _ _ (.inl rfl) e⟩
 |frz g u ih=>obtain⟨e,q⟩:=x;exact⟨k _ _ (.inl rfl) e,ih q⟩
 |tbl ps=>
  have e:h.get? a=ap { cls:=.none,data:=.fields ps }:=x;show h'.get? a=ap { cls:=.none,data:=.fields ps };exact k a _ (.inl rfl) e
 |met f y=>
  have e:h.get? a=ap (W.methodObj (.ref f)<|.ref y):=x;show h'.get? a=ap (W.methodObj (.ref f)<|.ref y);exact k a _ (.inl rfl) e
 |ext φ=>obtain⟨p,⟨o,e⟩,I⟩:=x;exact⟨I _ _ p λo q=>k _ _ (.inl rfl) q,⟨o,k _ _ (.inl rfl) e⟩,I⟩
theorem HOk.lt(x:HOk P w H h)(e:H a=ap o):a<h.objs.size:=(x a o e).lt
theorem HOk.fresh(x:HOk P w H h)(e:h.objs.size<=a):H a=none:=by
 cases q:H a with
 |none=>rfl
 |some u=>exact absurd (Qc (x.lt q) e) (QK _)
theorem HOk.kept(x:HOk P w H h)(k:∀b u,h.get? b=ap u->h'.get? b=ap u):HOk P w H h':=λa o e=>
 (x a o e).stay (λb u _ q=>k b u q) (λ_ q=>q) λ_ _ q=>q
theorem HOk.laid(x:HOk P w H h)(k:∀b u,h.get? b=ap u->h'.get? b=ap u)(y:h.objs.size<=a)(new:ObjOk P w (upd H a o) h' a o):HOk P w (upd H a o) h':=λb u e=>by
 have n:=x.fresh y
 by_cases g:b=a
 .subst g;rw[upd_same]at e;cases e;exact new
 .rw[aK g]at e
  exact(x b u e).stay (λc v _ q=>k c v q) (λc q=>by rw[aK (bc q n)];exact q) λc z q=>by rw[aK (bc q n)];exact q
end
def Rd(H:Hp)(a:eg)(u:HO):Prop:=H a=ap u\/∃o,H a=ap (.frz o u)
theorem Rd.ok{u:HO}(r:Rd H a u)(x:HOk P w H h):ObjOk P w H h a u:=by
 rcases r with r|⟨o,r⟩
 .exact x a u r
 .obtain⟨_,q⟩:=x a _ r
  exact q
def Nq:Option HO->Prop
 |some (.lst _)=>True
 |some (.dK _)=>True
 |some (.dT _)=>True
 |some (.set _ _)=>True
 |some (.ins _ _ _)=>True
 |some (.ext _)=>True
 |_=>False
section
variable{x e:eg}{o':HO}
theorem HOk.write(ok:HOk P w H h)(I:Nq (H x))(O:e=x\/H e=ap (.own x))(k:∀b u,b≠e->h.get? b=ap u->h'.get? b=ap u)(J:∃u,h'.get? e=ap u)(new:ObjOk P w (upd H x o') h' x o'):HOk P w (upd H x o') h':=λb u q=>by
 have n:∀c y,H c=ap (.own y)->c≠x:=λc y r z=>by subst z;rw[r]at I;exact I
 have B:∀c G,H c=ap (.tup G)->c≠x:=λc G r z=>by subst z;rw[r]at I;exact I
 by_cases F:b=x
 .subst F;rw[upd_same]at q;cases q;exact new
 .rw[aK F]at q
  by_cases g:b=e
  .have L:H b=ap (.own x):=by
    rcases O with z|z
    .exact absurd (g.trans z) F
    .rw[g];exact z
   rw[q]at L;cases L;obtain⟨v,R⟩:=J;exact⟨v,by rw[g];exact R⟩
  .refine (ok b u q).stay (λc v hc r=>k c v ?_ r) (λc r=>by rw[aK (n c b r)];exact r) λc G r=>by rw[aK (B c G r)];exact r
   rcases hc with rfl|hc
   .exact g
   .rintro rfl
    rcases O with z|z
    .exact n c b hc z
    .rw[hc]at z;cases z;exact F rfl
end
structure Un(fs ex:Yx)(H H':Hp)(h h':hI):Prop where
 keep:∀b o,h.get? b=ap o->H b=cm->b∉fs->b∉ex->h'.get? b=ap o
 slot:∀b o,h.get? b=ap o->H b=cm->b∈fs->b∉ex->∃sl,h'.get? b=ap { o with slots:=sl }
 free:∀b o,h.get? b=ap o->H b=cm->b∉ex->H' b=cm
 there:∀b o,h.get? b=ap o->b∉ex->∃o',h'.get? b=ap o'
 tups:∀b xs,H b=ap (.tup xs)->H' b=ap (.tup xs)
 frzs:∀b o u,H b=ap (.frz o u)->H' b=ap (.frz o u)
 tbls:∀b ps,H b=ap (.tbl ps)->∃more,H' b=ap (.tbl (ps++more))
section
variable{fs fs' ex ex':Yx}{H1 H2:Hp}{h1 h2:hI}{x e:eg}
theorem Un.any(u:Un fs ex H H1 h h1){g:Obj}(q:h.get? b=ap g)(n:H b=cm)(y:b∉ex):∃z,h1.get? b=ap { g with slots:=z }:=by
 by_cases v:b∈fs
 .exact u.slot b g q n v y
 .exact⟨g.slots,u.keep b g q n v y⟩
theorem Un.kept(k:∀b u,h.get? b=ap u->h'.get? b=ap u):Un fs ex H H h h':=
 ⟨λb g q _ _ _=>k b g q,λb g q _ _ _=>⟨g.slots,k b g q⟩,λ_ _ _ n _=>n,λb g q _=>⟨g,k b g q⟩,λ_ _ q=>q,λ_ _ _ q=>q,λ_ ps q=>⟨#[],by rw[q];simp⟩⟩
theorem Un.refl:Un fs ex H H h h:=Un.kept λ_ _ q=>q
theorem Un.laid(k:∀b u,h.get? b=ap u->h'.get? b=ap u)(y:h.objs.size<=a)(g:H a=cm):Un fs ex H (upd H a o) h h' where
 keep:=λb u q _ _ _=>k b u q
 slot:=λb u q _ _ _=>⟨u.slots,k b u q⟩
 free:=λb u q n _=>by rw[aK (Qk<|Qc (Qb q) y)];exact n
 there:=λb u q _=>⟨u,k b u q⟩
 tups:=λb v q=>by rw[aK (bc q g)];exact q
 frzs:=λb u v q=>by rw[aK (bc q g)];exact q
 tbls:=λb ps q=>⟨#[],by rw[aK (bc q g),q];simp⟩
theorem Un.write(v:Nq (H x))(J:e=x\/H e=ap (.own x))(k:∀b u,b≠e->h.get? b=ap u->h'.get? b=ap u)(B:∃u,h'.get? e=ap u):Un fs ex H (upd H x o) h h':=by
 have F:∀b,H b=cm->b≠x:=λb n z=>by subst z;rw[n]at v;exact v
 have G:∀b,H b=cm->b≠e:=λb n z=>by
  subst z;rcases J with r|r
  .exact F b n r
  .rw[n]at r;cases r
 have y:∀b u,H b=ap u->¬Nq (ap u)->b≠x:=λb u q nm z=>by subst z;rw[q]at v;exact nm v
 refine⟨λb u q n _ _=>k b u (G b n) q,λb u q n _ _=>⟨u.slots,k b u (G b n) q⟩,λb u q n _=>by rw[aK (F b n)];exact n,λb u q _=>?_,
  λb I q=>by rw[aK (y b _ q λz=>z)];exact q,λb u I q=>by rw[aK (y b _ q λz=>z)];exact q,λb ps q=>⟨#[],by rw[aK (y b _ q λz=>z),q];simp⟩⟩
 by_cases g:b=e
 .subst g;exact B
 .exact⟨u,k b u g q⟩
end
def trk(h:hI)(H:Hp):List Addr:=(QG h.objs.size).filter λa=>(H a).isSome
def qf(h:hI)(H:Hp):Heap:=UQ h (trk h H)
theorem B2(h:hI)(H:Hp):(qf h H).objs.size=h.objs.size:=W.hideAll_size _ _
theorem Cc{o:Obj}(e:h.get? b=ap o)(n:H b=cm):(qf h H).get? b=ap o:=
 W.hideAll_get _ e λg=>by
  have q:(H b).isSome=true:=(Qa.mp g).2;rw[n]at q;simp at q
theorem Hk{o:Obj}(e:(qf h H).get? b=ap o):h.get? b=ap o/\H b=none:=by
 have g:h.get? b=ap o:=W.of_hideAll (trk h H) e;refine⟨g,?_⟩;cases q:H b with
 |none=>rfl
 |some x=>
  have n:b∈trk h H:=Qa.mpr ⟨Ri.mpr (Qb g),by simp[q]⟩
  have z:(qf h H).get? b=none:=W.hideAll_none (trk h H) n;rw[z]at e;cases e
structure Mod(K:PY)(mg:YC)(base:hI):Prop where
 kin:K.In base
 glob:base.Ns fx mg
 blt:∃mb,base.Ns XM mb/\∀x:Str,x≠"__name__"->mb x=gp x
 nolimit:base.NoLimit
structure Cx where
 prog:fy
 w:g4
 K:PY
 mg:Str->Option ay
 base:hI
 A:kc
 N:List Str
 s₀:el
 H₀:Hp
 env:Env
 outer:List Env
 stack:List Env
 ex:List eg
 fn:Str->Bool
 calm:Bool
 pn:List (eg×Obj)
 xe:ay->el->Prop
def gW(l:List Env):List Addr:=l.filterMap (·.frame)
abbrev Cx.fs(X:Cx):List Addr:=gW X.outer
def Kt(sc:SB)(x:Str):Prop:=sc.names.lookup x=ap .local\/sc.names.lookup x=ap .cell\/sc.names.lookup x=ap .free
def Bz(sc:SB)(x:Str):Prop:=sc.names.lookup x=ap .local\/sc.names.lookup x=ap .cell
def Look(env:Env)(h:hI)(m:YC)(x:Str)(u:ay):Prop:=
 (env.kindOf x=ap .local/\m x=ap u)\/((env.kindOf x=ap .cell\/env.kindOf x=ap .free)/\∃c,env.cells.lookup x=ap c/\h.IsCell c (ap u))
structure Cx.Ok(X:Cx):Prop where
 mod:Mod X.K X.mg X.base
 kind:X.env.scope.kind=.function
 glob:X.env.globals=fx
 blt:X.env.builtins=XM
 above:X.s₀.heap.objs.size<=X.env.locals
 inj:∀x y c,X.env.cells.lookup x=ap c->X.env.cells.lookup y=ap c->x=y
 has:∀x,(X.env.kindOf x=ap .cell\/X.env.kindOf x=ap .free)->∃c,X.env.cells.lookup x=ap c
 cab:∀x c,X.fn x=true->X.env.cells.lookup x=ap c->X.s₀.heap.objs.size<=c
 hd:X.calm=true->X.A.handled=cm
 frames:X.A.frames=ap X.stack
 stk:X.stack=X.outer\/(X.stack=X.env::X.outer/\X.env.frame=ap X.env.locals)
 exf:∀b∈X.ex,b≠X.env.locals/\∀x c,X.env.cells.lookup x=ap c->c≠b
 bs:∀b o,X.base.get? b=ap o->X.s₀.heap.get? b=ap o/\X.H₀ b=cm
 bsz:X.base.objs.size<=X.s₀.heap.objs.size
 noex:∀b o,X.base.get? b=ap o->b∉X.ex
 exfs:∀b∈X.ex,b∉X.fs
 funs:X.s₀.heap.FunFrames X.base X.outer
 frf:∀b∈X.fs,X.H₀ b=cm
structure Inv(X:Cx)(Ym:YB)(Z:List (Option V))(H:Hp)(s:el):Prop where
 ok:X.Ok
 os:s.os=X.s₀.os
 bare:W9 s.gens
 base:Un X.fs X.ex X.H₀ H X.s₀.heap s.heap
 loc:∃m,s.heap.Ns X.env.locals m/\∀(i:Nat)(x:Str)(v:V),X.N[i]?=ap x->Z[i]?=ap (ap v)->Kt X.env.scope x->∃u,RelV v u/\Look X.env s.heap m x u
 cell:∀x c,X.env.cells.lookup x=ap c->∃v,s.heap.IsCell c v
 free:H X.env.locals=cm
 freeC:∀x c,X.env.cells.lookup x=ap c->H c=cm
 pin:∀p∈X.pn++Ym,s.heap.get? p.1=ap p.2/\H p.1=cm/\p.1≠X.env.locals/\p.1∉X.fs/\∀v,p.2.data≠.cell v
 hok:HOk X.prog X.w H s.heap
 len:Z.length=X.N.length
section
variable{Z:List (Option V)}
theorem Cx.Ok.nofr(ok:X.Ok){o:Obj}(e:X.base.get? b=ap o):b∉X.fs:=λg=>by
 have:=(ok.funs.mem g).1;rw[e]at this;cases this
theorem Inv.bs(I:Inv X Ym Z H s):∀b o,X.base.get? b=ap o->s.heap.get? b=ap o/\H b=none:=λb o e=>
 ⟨I.base.keep b o (I.ok.bs b o e).1 (I.ok.bs b o e).2 (I.ok.nofr e) (I.ok.noex b o e),I.base.free b o (I.ok.bs b o e).1 (I.ok.bs b o e).2<|I.ok.noex b o e⟩
theorem Inv.bk(I:Inv X Ym Z H s):∀b o,X.base.get? b=ap o->s.heap.get? b=ap o:=λb o e=>(I.bs b o e).1
theorem Inv.mod(I:Inv X Ym Z H s):Mod X.K X.mg X.base:=I.ok.mod
theorem Inv.kIn(I:Inv X Ym Z H s):X.K.In s.heap:=I.ok.mod.kin.keeps I.bk
theorem Inv.lt(I:Inv X Ym Z H s):X.env.locals<s.heap.objs.size:=let ⟨_,hn,_⟩:=I.loc;hn.lt
theorem Inv.sz(I:Inv X Ym Z H s):X.s₀.heap.objs.size<=s.heap.objs.size:=Qp I.ok.above (VO I.lt)
theorem Inv.nofs(I:Inv X Ym Z H s)(h:s.heap.objs.size<=a):a∉X.fs:=λn=>by
 obtain⟨_,o,g,_⟩:=I.ok.funs.mem n;exact absurd (Qc (Qb g)<|Qp I.sz h) (QK _)
theorem Inv.cne(I:Inv X Ym Z H s):∀x c,X.env.cells.lookup x=ap c->c≠X.env.locals:=λx c e z=>by
 obtain⟨v,o,q,y⟩:=I.cell x c e;obtain⟨m,⟨F,es,B,n,g,_⟩,_⟩:=I.loc;rw[z,n]at q;cases q;rw[g]at y;cases y
theorem Inv.funs(I:Inv X Ym Z H s):s.heap.FunFrames X.base X.outer:=by
 have all:∀(l:List Env),(∀b∈gW l,b∈X.fs)->X.s₀.heap.FunFrames X.base l->s.heap.FunFrames X.base l:=by
  intro l
  induction l with
  |nil=>intro _ _;trivial
  |cons env r ih=>
   intro v y;obtain⟨G,⟨L,o,g,O,F,J⟩,B⟩:=y;have n:L∈X.fs:=v L (by unfold gW;rw[RH,g];exact Qm)
   obtain⟨R,e⟩:=I.base.slot L o F (I.ok.frf L n) n λz=>I.ok.exfs L z n;exact⟨G,⟨L,_,g,O,e,J⟩,ih (λb q=>v b (by unfold gW;rw[RH,g];exact Qf _ q)) B⟩
 exact all X.outer (λ_ q=>q) I.ok.funs
theorem Inv.stack(I:Inv X Ym Z H s):s.heap.FunFrames X.base X.stack:=by
 rcases I.ok.stk with e|⟨e,hf⟩
 .rw[e];exact I.funs
 .rw[e]
  obtain⟨m,g,_⟩:=I.loc;refine .cons (by rw[I.ok.kind];decide) hf g ?_ I.funs
  exact Heap.get?_none_of_le (Qp I.ok.bsz I.ok.above)
theorem Inv.stkSub(I:Inv X Ym Z H s):∀b∈gW X.stack,b∈X.env.locals::X.fs:=λb g=>by
 rcases I.ok.stk with e|⟨e,hf⟩
 .rw[e]at g;exact Qf _ g
 .rw[e]at g
  unfold gW at g;rw[RH,hf]at g;exact g
theorem Inv.stkFree(I:Inv X Ym Z H s):∀b∈gW X.stack,H b=none:=λb hb=>by
 rcases Ql.mp (I.stkSub b hb) with e|hb
 .rw[e];exact I.free
 .obtain⟨_,o,g,_⟩:=I.ok.funs.mem hb
  exact I.base.free b o g (I.ok.frf b hb) λz=>I.ok.exfs b z hb
theorem Inv.step{g':Array GenState}{t':Nat}{d':Drawn}(I:Inv X Ym Z H s)(F:∀b∈ch,(b∈X.ex\/X.s₀.heap.objs.size<=b)/\b≠X.env.locals/\(∀x c,X.env.cells.lookup x=ap c->c≠b)/\∀p∈X.pn++Ym,p.1≠b)(keep:∀b o,b≠X.env.locals->b∉X.fs->b∉ch->s.heap.get? b=ap o->H b=cm->h'.get? b=ap o)(slot:∀b o,b≠X.env.locals->b∈X.fs->b∉ch->s.heap.get? b=ap o->H b=cm->∃sl,h'.get? b=ap { o with slots:=sl })(free:∀b o,b∉ch->s.heap.get? b=ap o->H b=cm->H' b=cm)(there:∀b o,b∉ch->s.heap.get? b=ap o->∃U,h'.get? b=ap U)(tups:∀b L,H b=ap (.tup L)->H' b=ap (.tup L))(frzs:∀b o u,H b=ap (.frz o u)->H' b=ap (.frz o u))(tbls:∀b ps,H b=ap (.tbl ps)->∃more,H' b=ap (.tbl (ps++more)))(ns:∀m,s.heap.Ns X.env.locals m->h'.Ns X.env.locals m)(hok:HOk X.prog X.w H' h')(hg:W9 g'):
  Inv X Ym Z H' { s with heap:=h',gens:=g',drawn:=d',toks:=t' }:=by
 have T:∀b o,X.s₀.heap.get? b=ap o->b≠X.env.locals:=λb o e=>Qk (Qc (Qb e) I.ok.above);have J:∀b o,X.s₀.heap.get? b=ap o->b∉X.ex->b∉ch:=λb o e g O=>by
  rcases (F b O).1 with z|z
  .exact g z
  .exact absurd (Qc (Qb e) z) (QK _)
 have B:∀x c,X.env.cells.lookup x=ap c->∀v,s.heap.IsCell c v->h'.IsCell c v:=λx c e v ⟨o,R,Y⟩=>by
  have y:c∉ch:=λz=>(F c z).2.2.1 x c e rfl
  by_cases hc:c∈X.fs
  .obtain⟨sl,q⟩:=slot c o (I.cne x c e) hc y R (I.freeC x c e)
   exact⟨_,q,Y⟩
  .exact⟨o,keep c o (I.cne x c e) hc y R (I.freeC x c e),Y⟩
 refine⟨I.ok,I.os,hg,⟨λb o e n O g=>?_,λb o e n O g=>?_,λb o e n g=>?_,λb o e g=>?_,λb L e=>tups b L (I.base.tups b L e),λb o L e=>frzs b o L (I.base.frzs b o L e),λb ps e=>?_⟩,?_,λx c e=>?_,?_,λx c e=>?_,λp hp=>?_,hok,I.len⟩
 .exact keep b o (T b o e) O (J b o e g) (I.base.keep b o e n O g) (I.base.free b o e n g)
 .obtain⟨sl,G⟩:=I.base.slot b o e n O g
  obtain⟨W,S⟩:=slot b _ (T b o e) O (J b o e g) G (I.base.free b o e n g);exact⟨W,S⟩
 .obtain⟨U,G⟩:=I.base.there b o e g
  exact free b U (J b o e g) G (I.base.free b o e n g)
 .obtain⟨U,G⟩:=I.base.there b o e g
  exact there b U (J b o e g) G
 .obtain⟨m1,G⟩:=I.base.tbls b ps e
  obtain⟨m2,S⟩:=tbls b _ G;exact⟨m1++m2,by rw[S,Sn]⟩
 .obtain⟨m,hn,hl⟩:=I.loc
  refine⟨m,ns m hn,λi x v G S e3=>?_⟩;obtain⟨u,r,l⟩:=hl i x v G S e3;refine⟨u,r,?_⟩;rcases l with l|⟨k,c,e,z⟩
  .exact .inl l
  .exact .inr ⟨k,c,e,B x c e _ z⟩
 .obtain⟨v,z⟩:=I.cell x c e
  exact⟨v,B x c e v z⟩
 .obtain⟨m,⟨o,_,_,R,_⟩,_⟩:=I.loc
  exact free _ o (λz=>(F _ z).2.1 rfl) R I.free
 .obtain⟨v,o,R,Y⟩:=I.cell x c e
  exact free c o (λz=>(F c z).2.2.1 x c e rfl) R (I.freeC x c e)
 .obtain⟨e,n,ne,nf,d⟩:=I.pin p hp
  have y:p.1∉ch:=λz=>(F p.1 z).2.2.2 p hp rfl;exact⟨keep p.1 p.2 ne nf y e n,free p.1 p.2 y e n,ne,nf,d⟩
theorem Inv.un{t':Nat}(I:Inv X Ym Z H s)(u:Un X.fs [] H H' s.heap h')(B:HOk X.prog X.w H' h'):Inv X Ym Z H' { s with heap:=h',toks:=t' }:=by
 obtain⟨m,⟨o,es,T,F,r⟩,_⟩:=id I.loc;obtain⟨R,G⟩:=u.any F I.free (by simp)
 exact I.step (g':=s.gens) (d':=s.drawn) (ch:=[]) (λ_ z=>nomatch z) (λb o _ y _ e n=>u.keep b o e n y (by simp)) (λb o _ y _ e n=>u.slot b o e n y (by simp)) (λb o _ e n=>u.free b o e n (by simp)) (λb o _ e=>u.there b o e (by simp)) u.tups u.frzs u.tbls (λO J=>by
  obtain⟨S,v,q,g,L⟩:=J;rw[F]at g;cases g;exact⟨_,v,q,G,L⟩) B I.bare
theorem Inv.call{g':Array GenState}{t':Nat}{d':Drawn}(I:Inv X Ym Z H s)(u:Un (gW X.stack) ch H H' s.heap h')(G:HOk X.prog X.w H' h')(S:W9 g')(v:∀b∈ch,(b∈X.ex\/X.s₀.heap.objs.size<=b)/\b≠X.env.locals/\(∀x c,X.env.cells.lookup x=ap c->c≠b)/\∀p∈X.pn++Ym,p.1≠b):
  Inv X Ym Z H' { s with heap:=h',gens:=g',drawn:=d',toks:=t' }:=by
 obtain⟨m,⟨o,es,Y,J,r⟩,_⟩:=id I.loc;obtain⟨U,F⟩:=u.any J I.free λz=>(v _ z).2.1 rfl;exact I.step (ch:=ch) v (λb o F R g e n=>u.keep b o e n (λz=>(Ql.mp<|I.stkSub b z).elim F R) g) (λb o _ _ g e n=>u.any e n g) (λb o g e n=>u.free b o e n g) (λb o g e=>u.there b o e g) u.tups u.frzs u.tbls (λT O=>by
  obtain⟨W,B,y,q,L⟩:=O;rw[J]at q;cases q;exact⟨_,B,y,F,L⟩) G S
theorem Inv.turned{t':Nat}{it:eg}(I:Inv X Ym Z H s)(k:∀b o,b≠it->s.heap.get? b=ap o->h'.get? b=ap o)(R:H it=cm)(B:it≠X.env.locals)(O:it∈X.ex\/X.s₀.heap.objs.size<=it)(S:∀x c,X.env.cells.lookup x=ap c->c≠it)(T:∀p∈X.pn++Ym,p.1≠it):Inv X Ym Z H { s with heap:=h',toks:=t' }:=by
 have y:∀b u,H b=ap u->b≠it:=λb u e z=>by rw[z,R]at e;cases e
 refine I.step (g':=s.gens) (d':=s.drawn) (ch:=[it]) (λb J=>?_) (λb o _ _ g e _=>k b o (λz=>g (by simp[z])) e) (λb o _ _ g e _=>⟨o.slots,k b o (λz=>g (by simp[z])) e⟩) (λ_ _ _ _ n=>n)
  (λb o g e=>⟨o,k b o (λz=>g (by simp[z])) e⟩) (λ_ _ e=>e) (λ_ _ _ e=>e) (λb ps e=>⟨#[],by rw[e];simp⟩) (λm G=>?_) (λb u e=>?_) I.bare
 .have e:b=it:=by simpa using J
  subst e;exact⟨O,B,S,T⟩
 .obtain⟨o,es,L,F,r⟩:=G
  exact⟨o,es,L,k _ o (Qu B) F,r⟩
 .refine (I.hok b u e).stay (λc v g q=>k c v ?_ q) (λ_ q=>q) λ_ _ q=>q
  rcases g with z|z
  .rw[z];exact y b u e
  .exact y c _ z
theorem Inv.tok(I:Inv X Ym Z H s)(t:Nat):Inv X Ym Z H { s with toks:=t }:=I.un (h':=s.heap) (t':=t) Un.refl I.hok
theorem Inv.kept{t':Nat}(I:Inv X Ym Z H s)(k:∀b u,s.heap.get? b=ap u->h'.get? b=ap u):Inv X Ym Z H { s with heap:=h',toks:=t' }:=I.un (Un.kept k) (I.hok.kept k)
theorem Inv.laid{t':Nat}(I:Inv X Ym Z H s)(k:∀b u,s.heap.get? b=ap u->h'.get? b=ap u)(g:s.heap.objs.size<=a)(new:ObjOk X.prog X.w (upd H a o) h' a o):
  Inv X Ym Z (upd H a o) { s with heap:=h',toks:=t' }:=I.un (Un.laid k g<|I.hok.fresh g) (I.hok.laid k g new)
theorem Inv.write{x e:eg}{t':Nat}(I:Inv X Ym Z H s)(n:Nq (H x))(q:e=x\/H e=ap (.own x))(k:∀b u,b≠e->s.heap.get? b=ap u->h'.get? b=ap u)(g:∃u,h'.get? e=ap u)(new:ObjOk X.prog X.w (upd H x o) h' x o):Inv X Ym Z (upd H x o) { s with heap:=h',toks:=t' }:=I.un (Un.write n q k g) (I.hok.write n q k g new)
theorem Inv.pins_of{g:YB}(I:Inv X Ym Z H s)(h:∀p∈g,s.heap.get? p.1=ap p.2/\H p.1=cm/\p.1≠X.env.locals/\p.1∉X.fs/\∀v,p.2.data≠.cell v):Inv X g Z H s:=
 ⟨I.ok,I.os,I.bare,I.base,I.loc,I.cell,I.free,I.freeC,λp n=>(QC.mp n).elim (λz=>I.pin p (TX _ z)) (h p),I.hok,I.len⟩
theorem tU(q:N.Nodup)(a:N[i]?=ap x)(b:N[j]?=ap x):i=j:=by
 obtain⟨v,n⟩:=Ry.mp a;obtain⟨y,g⟩:=Ry.mp b;exact(List.getElem_inj q).mp (n.trans g.symm)
theorem o_{v:V}{Q:Unit->el->Prop}(I:Inv X Ym Z H s)(hN:X.N.Nodup)(hi:X.N[i]?=ap x)(G:Bz X.env.scope x)(r:RelV v u)(h:∀s',Inv X Ym (Z.set i<|some v) H s'->(∃a,RO a s.heap s'.heap/\(a=X.env.locals\/X.env.cells.lookup x=ap a))->Q () s')(hf:X.fn x=true\/X.env.scope.names.lookup x=ap .local:=by first|exact .inl rfl|exact .inr rfl|assumption):eH M A (storeName X.env x u) Q E s:=by
 obtain⟨m,hn,hl⟩:=id I.loc;have hcls:(X.env.scope.kind==.class||(X.env.scope.kind==.module&&X.env.locals != X.env.globals))=false:=by rw[I.ok.kind];rfl
 have O:i<Z.length:=by rw[I.len];exact(Ry.mp hi).1
 have cne:=I.cne;have F:∀{a:eg}{h':hI},(∃o,s.heap.get? a=ap o/\H a=cm)->RO a s.heap h'->HOk X.prog X.w H h':=λ{a h'} ha g b ob e=>by
  obtain⟨_,_,J⟩:=ha;refine (I.hok b ob e).stay (λc w' hc q=>(g.2 c ?_).trans q) (λ_ q=>q) λ_ _ q=>q
  rintro rfl
  rcases hc with rfl|hc
  .rw[J]at e;cases e
  .rw[J]at hc;cases hc
 rcases G with hk|hk
 .refine wpAny_storeName_local hk hn (λh' hn' g=>?_) hcls
  obtain⟨oL,_,_,hoL,_⟩:=id hn;refine h _ ⟨I.ok,I.os,I.bare,⟨λb o e n T G=>?_,λb o e n T G=>?_,I.base.free,λb o e G=>?_,I.base.tups,I.base.frzs,I.base.tbls⟩,⟨_,hn',λj y v' B L e3=>?_⟩,λy c e=>?_,I.free,I.freeC,λp hp=>?_,F ⟨oL,hoL,I.free⟩ g,by simpa using I.len⟩ ⟨_,g,.inl rfl⟩
  .exact(g.2 b<|Qk<|Qc (Qb e) I.ok.above).trans (I.base.keep b o e n T G)
  .obtain⟨sl,B⟩:=I.base.slot b o e n T G
   exact⟨sl,(g.2 b<|Qk<|Qc (Qb e) I.ok.above).trans B⟩
  .obtain⟨o',B⟩:=I.base.there b o e G
   exact⟨o',(g.2 b<|Qk<|Qc (Qb e) I.ok.above).trans B⟩
  .by_cases R:j=i
   .subst R
    rw[hi]at B;cases B;rw[VC O]at L;cases L;exact⟨u,r,.inl ⟨hk,by simp⟩⟩
   .rw[VV (Qu R)]at L
    obtain⟨u',r',q⟩:=hl j y v' B L e3;refine⟨u',r',?_⟩;rcases q with⟨k,e⟩|⟨k,c,e,z⟩
    .refine .inl ⟨k,?_⟩
     have:y≠x:=λe=>R (tU hN B (e▸hi));simp[this,e]
    .exact .inr ⟨k,c,e,z.sameBut g<|cne y c e⟩
  .obtain⟨w',z⟩:=I.cell y c e
   exact⟨w',z.sameBut g<|cne y c e⟩
  .obtain⟨e,n,ne,nf,d⟩:=I.pin p hp
   exact⟨(g.2 p.1 ne).trans e,n,ne,nf,d⟩
 .have S:X.fn x=true:=by
   rcases hf with z|z
   .exact z
   .rw[z]at hk;cases hk
  obtain⟨c,hc⟩:=I.ok.has x (.inl hk);obtain⟨w',z⟩:=I.cell x c hc;refine wpAny_storeName_cell I.ok.kind hk hc z (λh' W g=>?_);obtain⟨oc,U,hocd⟩:=id z;refine h { s with heap:=h' } ⟨I.ok,I.os,I.bare,⟨λb o e n T G=>?_,λb o e n T G=>?_,I.base.free,λb o e G=>?_,I.base.tups,I.base.frzs,I.base.tbls⟩,⟨m,hn.sameBut g (Qu<|cne x c hc),λj y v' B L e3=>?_⟩,λy c' e=>?_,I.free,I.freeC,λp hp=>?_,F ⟨oc,U,I.freeC x c hc⟩ g,by simpa using I.len⟩ ⟨c,g,.inr hc⟩
  .exact(g.2 b<|Qk<|Qc (Qb e)<|I.ok.cab x c S hc).trans (I.base.keep b o e n T G)
  .obtain⟨sl,B⟩:=I.base.slot b o e n T G
   exact⟨sl,(g.2 b<|Qk<|Qc (Qb e)<|I.ok.cab x c S hc).trans B⟩
  .obtain⟨o',B⟩:=I.base.there b o e G
   exact⟨o',(g.2 b<|Qk<|Qc (Qb e)<|I.ok.cab x c S hc).trans B⟩
  .by_cases R:j=i
   .subst R
    rw[hi]at B;cases B;rw[VC O]at L;cases L;exact⟨u,r,.inr ⟨.inl hk,c,hc,W⟩⟩
   .rw[VV (Qu R)]at L
    obtain⟨u',r',q⟩:=hl j y v' B L e3;refine⟨u',r',?_⟩;rcases q with q|⟨k,c',e,z'⟩
    .exact .inl q
    .refine .inr ⟨k,c',e,z'.sameBut g ?_⟩
     rintro rfl
     exact R (tU hN B (I.ok.inj _ _ _ e hc▸hi))
  .by_cases Y:c'=c
   .subst Y;exact⟨_,W⟩
   .obtain⟨w2,z2⟩:=I.cell y c' e
    exact⟨w2,z2.sameBut g Y⟩
  .obtain⟨e,n,ne,nf,d⟩:=I.pin p hp
   refine⟨(g.2 p.1 ?_).trans e,n,ne,nf,d⟩;intro q;rw[q,U]at e;have q':oc=p.2:=QX e;exact d w' (by rw[<- q'];exact hocd)
theorem fU{v:V}{Q:Unit->el->Prop}(I:Inv X Ym Z H s)(q:X.N.Nodup)(g:X.N[i]?=ap x)(n:Bz X.env.scope x)(r:RelV v u)(h:∀s',Inv X Ym (Z.set i<|some v) H s'->Q () s')(y:X.fn x=true\/X.env.scope.names.lookup x=ap .local:=by first|exact .inl rfl|exact .inr rfl|assumption):eH M A (storeName X.env x u) Q E s:=
 o_ I q g n r (λs' I' _=>h s' I') y
theorem Inv.call'{s':el}(I:Inv X Ym Z H s)(y:s'.os=s.os)(u:Un (gW X.stack) ch H H' s.heap s'.heap)(n:HOk X.prog X.w H' s'.heap)(v:W9 s'.gens)(g:∀b∈ch,(b∈X.ex\/X.s₀.heap.objs.size<=b)/\b≠X.env.locals/\(∀x c,X.env.cells.lookup x=ap c->c≠b)/\∀p∈X.pn++Ym,p.1≠b):Inv X Ym Z H' s':=by
 obtain⟨h',g',d',t',q⟩:=s';have e:q=s.os:=y;subst e;exact I.call (g':=g') (t':=t') (d':=d') u n v g
end
abbrev XK:=ay->Option eg->Hp->Prop
abbrev St:=List (Option V)
abbrev VK:=V->Hp->Prop
abbrev TE:=St->Hp->VK->Prop
abbrev TT:=St->Hp->(Bool->Hp->Prop)->Prop
abbrev TA:=St->Hp->(List V->Hp->Prop)->Prop
structure Ends where
 nx:St->Hp->Prop
 rt:VK
 bk:St->Hp->Prop:=λ_ _=>False
 ct:St->Hp->Prop:=λ_ _=>False
abbrev TS:=Ends->St->Hp->Prop
inductive EP(X:Cx)(Ym:YB)(Z:St)(Q:VK)(u:ay)(s':el):Prop
 |mk (v:V) (H':Hp) (h0:Inv X Ym Z H' s') (h1:RelV v u) (h2:Q v H'):EP X Ym Z Q u s'
inductive TP(X:Cx)(Ym:YB)(Z:St)(Q:Bool->Hp->Prop)(b:Bool)(s':el):Prop
 |mk (H':Hp) (h0:Inv X Ym Z H' s') (h1:Q b H'):TP X Ym Z Q b s'
inductive AP(X:Cx)(Ym:YB)(Z:St)(Q:List V->Hp->Prop)(us:Yw)(s':el):Prop
 |mk (vs:List V) (H':Hp) (h0:Inv X Ym Z H' s') (h1:Vals vs us) (h2:Q vs H'):AP X Ym Z Q us s'
def SP(X:Cx)(Ym:YB)(D:Ends)(f:Flow)(s':el):Prop:=
 match f with
 |.next=>∃σ' H',Inv X Ym σ' H' s'/\D.nx σ' H'
 |.brk=>∃σ' H',Inv X Ym σ' H' s'/\D.bk σ' H'
 |.cont=>∃σ' H',Inv X Ym σ' H' s'/\D.ct σ' H'
 |.ret u=>∃v σ' H',Inv X Ym σ' H' s'/\RelV v u/\D.rt v H'
def PE(X:Cx)(e:gl)(t:TE):Prop:=
 ∀(Ym:YB)(s:el)(Z:St)(H:Hp)(Q:VK),Inv X Ym Z H s->t Z H Q->eH (fv X.prog X.w) X.A (g3 e X.env) (EP X Ym Z Q) X.xe s
def PT(X:Cx)(e:gl)(t:TT):Prop:=
 ∀(Ym:YB)(s:el)(Z:St)(H:Hp)(Q:Bool->Hp->Prop),Inv X Ym Z H s->t Z H Q->eH (fv X.prog X.w) X.A (X7 e X.env<|eval e X.env) (TP X Ym Z Q) X.xe s
def PW(X:Cx)(e:gl)(t:TT):Prop:=
 ∀(whole:Sem ay)(Ym:YB)(s:el)(Z:St)(H:Hp)(Q:Bool->Hp->Prop),Inv X Ym Z H s->t Z H Q->eH (fv X.prog X.w) X.A (X7 e X.env whole) (TP X Ym Z Q) X.xe s
theorem PK{t:TT}(h:PW X e t):PT X e t:=h _
def PA(X:Cx)(es:Yy)(t:TA):Prop:=
 ∀(pos:Pos)(Ym:YB)(s:el)(Z:St)(H:Hp)(Q:List V->Hp->Prop),Inv X Ym Z H s->t Z H Q->eH (fv X.prog X.w) X.A (spliced<|backTo pos<|starEach es X.env) (AP X Ym Z Q) X.xe s
def PS(X:Cx)(st:rz)(t:TS):Prop:=
 ∀(Ym:YB)(s:el)(Z:St)(H:Hp)(D:Ends),Inv X Ym Z H s->t D Z H->eH (fv X.prog X.w) X.A (exec st X.env) (SP X Ym D) X.xe s
def yi(X:Cx)(st:Yz)(t:TS):Prop:=
 ∀(Ym:YB)(s:el)(Z:St)(H:Hp)(D:Ends),Inv X Ym Z H s->t D Z H->eH (fv X.prog X.w) X.A (execs st X.env) (SP X Ym D) X.xe s
theorem bp{α:Type}{t:Sem α}{Q Q':α->el->Prop}(h:eH M A t Q E s)(g:∀a s,Q a s->Q' a s):eH M A t Q' E s:=n7 h g λ_ _ x=>x
section
def tVar(i:Nat):TE:=λZ H Q=>∃v,Z[i]?=ap (ap v)/\Q v H
def tC(v:V):TE:=λ_ H Q=>Q v H
theorem Lx(B:X.N[i]?=ap x)(z:Kt X.env.scope x)(g:(x==("__debug__":Str))=false:=by decide)(hcd:(x==("__classdict__":Str))=false:=by decide):PE X (.Name x pos) (tVar i):=by
 intro Ym s Z H Q I h;obtain⟨v,e,h⟩:=h;obtain⟨m,q,y⟩:=I.loc;obtain⟨u,r,l⟩:=y i x v B e z;have fin:EP X Ym Z Q u s:=⟨v,H,I,r,h⟩;rcases l with⟨hk,n⟩|⟨hk,c,hc,hcell⟩
 .exact wpAny_Name (Yf I.ok.kind hk q n fin) g
 .rcases hk with hk|hk
  .exact wpAny_Name (wpAny_loadName_cell I.ok.kind hk hc hcell fin) g
  .exact wpAny_Name (wpAny_loadName_free I.ok.kind hk hc hcell fin hcd) g
theorem LN{i j pos}:PE X (.Constant (.int i) j pos) (tC<|.int i):=λ_ _ _ H _ I h=>wpAny_Constant_int ⟨.int i,H,I.tok _,⟨_,rfl⟩,h⟩
theorem Ol{b j pos}:PE X (.Constant (.bool b) j pos) (tC<|.bl b):=λ_ _ _ H _ I h=>Constant_bool ⟨.bl b,H,I,rfl,h⟩
theorem KF{j pos}:PE X (.Constant .none j pos) (tC .non):=λ_ _ _ H _ I h=>Constant_none ⟨.non,H,I,rfl,h⟩
theorem Dz{x j pos}:PE X (.Constant (.str x) j pos) (tC<|.str x):=λ_ _ _ H _ I h=>Calls.Constant_str ⟨.str x,H,I.tok _,⟨_,rfl⟩,h⟩
def Gl(X:Cx)(x:Str):Prop:=X.env.kindOf x=ap .globalImplicit
theorem ik(I:Inv X Ym Z H s)(g:Gl X x)(q:X.mg x=ap u)(h:Q u s)(n:(x==("__debug__":Str))=false:=by decide):eH (fv X.prog X.w) X.A (g3 (.Name x pos) X.env) Q E s:=
 UW I.ok.kind g (Calls.loadGlobal_global (by rw[I.ok.glob];exact I.mod.glob.keeps I.bk) q h) n
theorem eJ(I:Inv X Ym Z H s)(v:Gl X x)(z:X.mg x=cm)(q:gp x=ap u)(h:Q u s)(y:x≠"__name__":=by decide)(hd:(x==("__debug__":Str))=false:=by decide):eH (fv X.prog X.w) X.A (g3 (.Name x pos) X.env) Q E s:=by
 obtain⟨B,g,n⟩:=I.mod.blt;exact UW I.ok.kind v (Calls.loadGlobal_builtin (by rw[I.ok.glob];exact I.mod.glob.keeps I.bk) z (by rw[I.ok.blt];exact g.keeps I.bk) ((n x y).trans q) h) hd
theorem HN{v:V}(n:Gl X x)(y:X.mg x=cm)(g:gp x=ap u)(r:RelV v u)(q:x≠"__name__":=by decide)(hd:(x==("__debug__":Str))=false:=by decide):PE X (.Name x pos) (tC v):=
 λ_ _ _ H _ I h=>eJ I n y g ⟨v,H,I,r,h⟩ q hd
variable{a b:gl}
variable{tA tB':TT}{rest:Yy}
def tAnd(t u:TT):TT:=λZ H Q=>t Z H λc H1=>if c=true then u Z H1 Q else Q eC H1
def tOr(t u:TT):TT:=λZ H Q=>t Z H λc H1=>if c=true then Q true H1 else u Z H1 Q
def tNot(t:TT):TT:=λZ H Q=>t Z H λc H1=>Q (!c) H1
theorem Hw(g:PT X a tA):PW X (.BoolOp .And [a] pos) tA:=by
 intro n Ym s Z H Q I h;refine isTrue_and (bp (g Ym s Z H Q I h) λc q e=>?_);cases c with
 |true=>exact isTrue_and_nil e
 |false=>exact e
theorem MA(g:PT X a tA):PW X (.BoolOp .Or [a] pos) tA:=by
 intro n Ym s Z H Q I h;refine isTrue_or (bp (g Ym s Z H Q I h) λc q e=>?_);cases c with
 |false=>exact isTrue_or_nil e
 |true=>exact e
theorem Mb(v:PT X a tA)(y:PW X (.BoolOp .And (b::rest) pos) tB'):PW X (.BoolOp .And (a::b::rest) pos) (tAnd tA tB'):=by
 intro n Ym s Z H Q I h;refine isTrue_and (bp (v Ym s Z H _ I h) λc q ⟨H1,I1,g⟩=>?_);cases c with
 |true=>exact y n Ym q Z H1 Q I1 g
 |false=>exact⟨H1,I1,g⟩
theorem OO(v:PT X a tA)(y:PW X (.BoolOp .Or (b::rest) pos) tB'):PW X (.BoolOp .Or (a::b::rest) pos) (tOr tA tB'):=by
 intro n Ym s Z H Q I h;refine isTrue_or (bp (v Ym s Z H _ I h) λc q ⟨H1,I1,g⟩=>?_);cases c with
 |true=>exact⟨H1,I1,g⟩
 |false=>exact y n Ym q Z H1 Q I1 g
theorem Ko(g:PT X a tA):PT X (.UnaryOp .Not a pos) (tNot tA):=by
 intro Ym s Z H Q I h;exact isTrue_not (n7 (g Ym s Z H (λc H1=>Q (!c) H1) I h) (λc n z=>by cases z with|mk a b d=>exact⟨a,b,d⟩) λ_ _ e=>e)
def tIf(t:TT)(ta tb:TE):TE:=λZ H Q=>t Z H λc H1=>if c=true then ta Z H1 Q else tb Z H1 Q
theorem BP(y:PT X c tA)(q:PE X a ta)(v:PE X b tb):PE X (.IfExp c a b pos) (tIf tA ta tb):=by
 intro Ym s Z H Q I h;refine wpAny_IfExp (bp (y Ym s Z H _ I h) λd n ⟨H1,I1,g⟩=>?_);cases d with
 |true=>exact q Ym n Z H1 Q I1 g
 |false=>exact v Ym n Z H1 Q I1 g
end
def SqL(K:PY)(H:Hp)(a:eg)(xs:List V):Prop:=
 Rd H a (.lst xs)\/
  ∃(o:Obj)(Ys:YD)(n:Nat),K.lookup a=ap o/\o.cls=.type "list"/\o.dict=cm/\o.data=.seq Ys n/\Ys.size<=sizeLine/\Vals xs Ys.toList
def ie(K:PY)(H:Hp)(a:eg)(xs:List V):Prop:=
 Rd H a (.tup xs)\/
  ∃(o:Obj)(Ys:YD)(n:Nat),K.lookup a=ap o/\o.cls=.type "tuple"/\o.data=.seq Ys n/\Ys.size<=sizeLine/\Vals xs Ys.toList
def absV:ay->Option V
 |.none=>ap .non
 |.bool b=>ap (.bl b)
 |.int i _=>ap (.int i)
 |.str x _=>ap (.str x)
 |.bytes b _=>ap (.byt b)
 |.float b _=>ap (.flt b)
 |.ref a=>ap (.ref a)
 |.type n=>ap (.ty n)
 |_=>cm
theorem RelV.abs{x:V}(r:RelV x u):absV u=ap x:=by
 cases x with
 |non=>cases r;rfl
 |bl _=>cases r;rfl
 |int _=>obtain⟨t,rfl⟩:=r;rfl
 |str _=>obtain⟨t,rfl⟩:=r;rfl
 |byt _=>obtain⟨t,rfl⟩:=r;rfl
 |flt _=>obtain⟨t,rfl⟩:=r;rfl
 |ref _=>cases r;rfl
 |ty _=>cases r;rfl
theorem RelV.inj{x y:V}(r:RelV x u)(q:RelV y u):x=y:=QX (r.abs.symm.trans q.abs)
theorem Vals.inj:∀{xs ys:List V}{us:Yw},Vals xs us->Vals ys us->xs=ys
 |_,_,_,.nil,.nil=>rfl
 |_,_,_,.cons r t,.cons r' t'=>by rw[r.inj r',Vals.inj t t']
section
variable{xs ys:List V}
theorem SqL.of(h:H a=ap (.lst xs)):SqL K H a xs:=.inl (.inl h)
theorem Inv.list(I:Inv X Ym Z H s)(h:SqL X.K H a xs):∃Ys:List ay,Vals xs Ys/\PlainL s.heap a Ys.toArray/\xs.length<=sizeLine:=by
 rcases h with h|⟨o,Ys,n,hk,hc,hd,hs,hz,r⟩
 .obtain⟨z,Ys,n,r,e⟩:=h.ok I.hok
  exact⟨Ys,r,⟨_,n,e,rfl,rfl,rfl⟩,z⟩
 .refine⟨Ys.toList,r,⟨o,n,I.kIn a o hk,hc,hd,by simpa using hs⟩,?_⟩
  have e:=r.length;simp only[SW]at e;lia
theorem Inv.tuple(I:Inv X Ym Z H s)(h:ie X.K H a xs):∃Ys:List ay,Vals xs Ys/\XE s.heap a Ys.toArray/\xs.length<=sizeLine:=by
 rcases h with h|⟨o,Ys,n,hk,hc,hs,hz,r⟩
 .obtain⟨z,Ys,r,g,e,c,_⟩:=h.ok I.hok
  exact⟨Ys,r,⟨g,e,c⟩,z⟩
 .refine⟨Ys.toList,r,⟨o,I.kIn a o hk,hc,n,by simpa using hs⟩,?_⟩
  have e:=r.length;simp only[SW]at e;lia
theorem Inv.list_inj(I:Inv X Ym Z H s)(h:SqL X.K H a xs)(h':SqL X.K H a ys):xs=ys:=by
 obtain⟨q,r,⟨o,n,e,_,_,d⟩,_⟩:=I.list h;obtain⟨g,z,⟨F,B,v,_,_,y⟩,_⟩:=I.list h';rw[e]at v;cases v;rw[d]at y
 injection y with d1 _
 have:q=g:=by simpa using congrArg S3 d1
 subst this;exact r.inj z
theorem Inv.tuple_inj(I:Inv X Ym Z H s)(h:ie X.K H a xs)(h':ie X.K H a ys):xs=ys:=by
 obtain⟨q,r,⟨o,e,_,n,d⟩,_⟩:=I.tuple h;obtain⟨g,z,⟨F,v,_,B,y⟩,_⟩:=I.tuple h';rw[e]at v;cases v;rw[d]at y
 injection y with d1 _
 have:q=g:=by simpa using congrArg S3 d1
 subst this;exact r.inj z
end
abbrev Cx.wish(X:Cx)(E:YA):Cx:={ X with xe:=E }
abbrev Cx.nox(X:Cx):Cx:=X.wish λ_ _=>False
theorem Cx.Ok.wish(ok:X.Ok)(E:YA):(X.wish E).Ok:=
 ⟨ok.mod,ok.kind,ok.glob,ok.blt,ok.above,ok.inj,ok.has,ok.cab,ok.hd,ok.frames,ok.stk,ok.exf,ok.bs,ok.bsz,ok.noex,ok.exfs,ok.funs,ok.frf⟩
theorem Cx.Ok.unwish(ok:(X.wish E).Ok):X.Ok:=
 ⟨ok.mod,ok.kind,ok.glob,ok.blt,ok.above,ok.inj,ok.has,ok.cab,ok.hd,ok.frames,ok.stk,ok.exf,ok.bs,ok.bsz,ok.noex,ok.exfs,ok.funs,ok.frf⟩
section
theorem Inv.wish(I:Inv X Ym Z H s)(E:YA):Inv (X.wish E) Ym Z H s:=⟨I.ok.wish E,I.os,I.bare,I.base,I.loc,I.cell,I.free,I.freeC,I.pin,I.hok,I.len⟩
theorem Inv.unwish(I:Inv (X.wish E) Ym Z H s):Inv X Ym Z H s:=⟨I.ok.unwish,I.os,I.bare,I.base,I.loc,I.cell,I.free,I.freeC,I.pin,I.hok,I.len⟩
end
section
variable{st:rz}{rest:Yz}{t u:TS}
def P3:TS:=λD Z H=>D.nx Z H
def tSeq(t u:TS):TS:=λD Z H=>t { D with nx:=u D } Z H
theorem HG:yi X [] P3:=λ_ _ Z H _ I h=>SL ⟨Z,H,I,h⟩
theorem ED(y:PS X st t)(z:yi X rest u):yi X (st::rest) (tSeq t u):=by
 intro Ym s Z H D I h;refine XB (bp (y Ym s Z H { D with nx:=u D } I h) λf n q=>?_);cases f with
 |next=>
  obtain⟨g,H',I',q⟩:=q;exact z Ym n g H' D I' q
 |ret v=>exact q
 |brk=>exact q
 |cont=>exact q
theorem Gm(g:PS X st t):yi X [st] t:=by
 intro Ym s Z H D I h;refine XB (bp (g Ym s Z H D I h) λf n q=>?_);cases f with
 |next=>exact SL q
 |ret v=>exact q
 |brk=>exact q
 |cont=>exact q
theorem Inv.quiet(I:Inv X Ym Z H s):interactive X.env=false:=by simp[interactive,I.ok.kind]
def OU(te:TE):TS:=λD Z H=>te Z H λ_ H1=>D.nx Z H1
theorem Hx(n:PE X e te)(q:vr e cm pos.line X.env=pure false:=by rfl):PS X (.Expr e pos) (OU te):=by
 intro Ym s Z H D I h;exact wpAny_Expr_any (bp (n Ym s Z H _ I h) λv z ⟨x,H1,I1,y,g⟩=>⟨Z,H1,I1,g⟩) I.quiet q
def tRet(te:TE):TS:=λD Z H=>te Z H D.rt
theorem Mr(q:PE X e te):PS X (.Return (ap e) pos) (tRet te):=by
 intro Ym s Z H D I h;exact wpAny_Return_some (bp (q Ym s Z H _ I h) λv y ⟨x,H1,I1,n,g⟩=>⟨x,Z,H1,I1,n,g⟩)
def tIfS(c:TT)(t u:TS):TS:=λD Z H=>c Z H λb H1=>if b=true then t D Z H1 else u D Z H1
theorem Pz{a b:Yz}{q:TT}(z:PT X c q)(v:yi X a t)(y:yi X b u):PS X (.If c a b pos) (tIfS q t u):=by
 intro Ym s Z H D I h;refine wpAny_If (bp (z Ym s Z H _ I h) λd n ⟨H1,I1,g⟩=>?_);cases d with
 |true=>exact v Ym n Z H1 D I1 g
 |false=>exact y Ym n Z H1 D I1 g
end
abbrev TG:=V->St->Hp->(St->Hp->Prop)->Prop
abbrev Ip:=List V->St->Hp->(St->Hp->Prop)->Prop
def PG(X:Cx)(target:gl)(t:TG):Prop:=
 ∀(Ym:YB)(s:el)(Z:St)(H:Hp)(v:V)(u:ay)(Q:St->Hp->Prop),Inv X Ym Z H s->RelV v u->t v Z H Q->
  eH (fv X.prog X.w) X.A (Xo target X.env u) (λ_ g=>∃σ' H',Inv X Ym σ' H' g/\Q σ' H') X.xe s
def Lp(X:Cx)(ts:Yy)(t:Ip):Prop:=
 ∀(Ym:YB)(s:el)(Z:St)(H:Hp)(vs:List V)(us:Yw)(Q:St->Hp->Prop),Inv X Ym Z H s->Vals vs us->t vs Z H Q->
  eH (fv X.prog X.w) X.A (XU ((ra ts X.env).map (·.2)) us) (λ_ g=>∃σ' H',Inv X Ym σ' H' g/\Q σ' H') X.xe s
abbrev Cq:=V->V->V->Hp->(Hp->Prop)->Prop
def FN(X:Cx)(t:Cq):Prop:=
 ∀(Ym:YB)(s:el)(Z:St)(H:Hp)(o i v:V)(ov iv u:ay)(Q:Hp->Prop),Inv X Ym Z H s->RelV o ov->RelV i iv->RelV v u->t o i v H Q->
  eH (fv X.prog X.w) X.A (XF ov iv u) (λ_ g=>∃H',Inv X Ym Z H' g/\Q H') X.xe s
abbrev Nb:=V->V->Hp->VK->Prop
def ES(X:Cx)(op:Xe)(t:Nb):Prop:=
 ∀(Ym:YB)(s:el)(Z:St)(H:Hp)(x y:V)(v u:ay)(Q:VK),Inv X Ym Z H s->RelV x v->RelV y u->t x y H Q->
  eH (fv X.prog X.w) X.A (inplaceOp op v u) (EP X Ym Z Q) X.xe s
section
def IE(i:Nat):TG:=λv Z H Q=>Q (Z.set i<|some v) H
theorem Fw(q:X.N.Nodup)(g:X.N[i]?=ap x)(n:Bz X.env.scope x)(y:X.fn x=true\/X.env.scope.names.lookup x=ap .local:=by first|exact .inl rfl|exact .inr rfl|assumption):PG X (.Name x pos) (IE i):=by
 intro Ym s Z H v u Q I r h;exact wpAny_assign_Name (fU I q g n r (λz I'=>⟨_,H,I',h⟩) y)
def gNil:Ip:=λg Z H Q=>g=[]/\Q Z H
def Nj(t:TG)(u:Ip):Ip:=λn Z H Q=>∃v r,n=v::r/\t v Z H λg H'=>u r g H' Q
theorem Hy:Lp X [] gNil:=by
 intro Ym s Z H g us Q I r h;obtain⟨e,h⟩:=h;subst e;cases r;exact assignInOrder_nil ⟨Z,H,I,h⟩
theorem Dy{t:TG}{u:Ip}(z:PG X e t)(F:Lp X es u)(B:(ra (e::es) X.env).map (·.2)=Xo e X.env::(ra es X.env).map (·.2):=by rfl):Lp X (e::es) (Nj t u):=by
 intro Ym s Z H G us Q I r h;obtain⟨v,J,y,h⟩:=h;subst y;cases r with
 |cons r rr=>
  rw[B];refine Xw (bp (z Ym s Z H _ _ _ I r h) λ_ n ⟨g,H1,I1,q⟩=>?_);exact F Ym n g H1 _ _ Q I1 rr q
def gTup(K:PY)(n:Nat)(t:Ip):TG:=λv Z H Q=>∃a xs,v=.ref a/\ie K H a xs/\xs.length=n/\t xs Z H Q
theorem Mx{k:Nat}{t:Ip}{n:Nat}(R:X.calm=true)(h:Lp X es t)(O:(ra es X.env).length=n:=by rfl)(hst:(ra es X.env).findIdx? (·.1)=none:=by rfl):PG X (.Tuple es k pos) (gTup X.K n t):=by
 intro Ym s Z H v u Q I r g;obtain⟨a,z,F,G,B,g⟩:=g;subst F;cases r;obtain⟨J,q,L,S⟩:=I.tuple G;refine assign_Tuple_tuple (I.ok.hd R) L (by simp[O,<- B,q.length]) hst λh' y=>?_
 have I1:Inv X Ym Z H { s with heap:=h' }:=I.kept (t':=s.toks) λb o e=>y b o (Qk<|Qb e) e;exact h Ym _ Z H z _ Q I1 (by simpa using q) g
def gSub(to ti:TE)(t:Cq):TG:=λv Z H Q=>to Z H λo H1=>ti Z H1 λi H2=>t o i v H2 λH3=>Q Z H3
theorem Lm{o i:gl}{to ti:TE}{t:Cq}(L:PE X o to)(J:PE X i ti)(O:FN X t)(R:∀v,Xo (.Subscript o i pos) X.env v=(do
   let ov <- va [v] (g3 o X.env)
   let iv <- va [v,ov] (g3 i X.env)
   W7 pos
   va [v,ov,iv] (XF ov iv v)
   release [v,ov,iv] []):=by intro _;rfl):PG X (.Subscript o i pos) (gSub to ti t):=by
 intro Ym s Z H v u Q I r h;rw[R];refine ax (pa (bp (L Ym s Z H _ I h) λov n ⟨x,H1,I1,g,F⟩=>?_));refine ax (pa (bp (J Ym n Z H1 _ I1 F) λiv G ⟨y,H2,I2,B,q⟩=>?_));refine ax (Uf<|wpAny_bind<|wpAny_holding (bp (O Ym G Z H2 x y v ov iv u _ I2 g B r q) λ_ S ⟨H3,I3,z⟩=>?_));exact wpAny_release ⟨Z,H3,I3,z⟩
def Pe(te:TE)(g:TG):TS:=λD Z H=>te Z H λx H1=>g x Z H1 D.nx
theorem KG{g:TG}(B:PE X e te)(F:PG X tg g)(G:Xs [tg] e pos.line X.env=pure false:=by rfl)(hw:Xt [tg] e X.env=pure none:=by rfl)(h1:(ra [tg] X.env).map (·.2)=[Xo tg X.env]:=by rfl):PS X (.Assign [tg] e pos) (Pe te g):=by
 intro Ym s Z H D I h;refine wpAny_Assign_stores (bp (B Ym s Z H _ I h) λv z ⟨x,H1,I1,y,n⟩=>?_) G hw;rw[h1];exact bp (F Ym z Z H1 x v _ I1 y n) λ_ J q=>q
theorem Ms(B:X.N.Nodup)(q:X.N[i]?=ap x)(z:Bz X.env.scope x)(G:PE X e te)(F:vr e (ap<|.Name x pos') pos.line X.env=pure false:=by rfl)(hf:X.fn x=true\/X.env.scope.names.lookup x=ap .local:=by first|exact .inl rfl|exact .inr rfl|assumption):
  PS X (.Assign [.Name x pos'] e pos) (Pe te<|IE i):=by
 intro Ym s Z H D I h;refine wpAny_Assign_Name (bp (G Ym s Z H _ I h) λv L ⟨y,H1,I1,n,g⟩=>?_) F;exact fU I1 B q z n (λJ I2=>⟨_,H1,I2,g⟩) hf
def tPar(i j:Nat)(ta:TA):TS:=λD Z H=>ta Z H λg H1=>∃v w,g=[v,w]/\D.nx ((Z.set i<|some v).set j<|some w) H1
theorem MR{y:Str}{a b:gl}{ta:TA}{J R O:Pos}{kt k2 pt2}(hc:X.calm=true)(T:X.N.Nodup)(hi:X.N[i]?=ap x)(hj:X.N[j]?=ap y)(L:i≠j)(S:X.env.scope.names.lookup x=ap .local)(U:X.env.scope.names.lookup y=ap .local)(ha:PA X [a,b] ta)(hw:Xt [.Tuple [.Name x J,.Name y R] kt O] (.Tuple [a,b] k2 pt2) X.env=pure (ap [x,y]))(hs:Xs [.Tuple [.Name x J,.Name y R] kt O] (.Tuple [a,b] k2 pt2) pos.line X.env=pure false:=by rfl):
  PS X (.Assign [.Tuple [.Name x J,.Name y R] kt O] (.Tuple [a,b] k2 pt2) pos) (tPar i j ta):=by
 intro Ym s Z H D I h;rw[exec_Assign_arm];refine ax (Uf ?_);rw[hs];refine ax (fe ?_);rw[if_neg (by decide)]
 refine ax (Tuple_ (bp (ha _ Ym s Z H _ I h) λus n ⟨vs,H1,I1,Y,F⟩=>?_));obtain⟨v,w,e1,F⟩:=F;subst e1;obtain⟨g,z,rfl,W,B⟩:∃g z,us=[g,z]/\RelV v g/\RelV w z:=by
  cases Y with
  |cons p q=>
   cases q with
   |cons p' q'=>
    cases q';exact⟨_,_,rfl,p,p'⟩
 refine om ?_ (by show 2<=sizeLine;decide)
 have I2:Inv X Ym Z H1 { n with heap:=n.heap.push { cls:=.type "tuple",data:=.seq [g,z].toArray } }:=I1.kept (t':=n.toks) λb o e=>PR _ e;rw[hw];refine ax (fe ?_);show eH (fv X.prog X.w) X.A (do rule "assign.swapped-stores";let items <- unpackItems (.ref n.heap.objs.size) 2 cm;XU [λv=>Yl X.env y v,λv=>Yl X.env x v] items.reverse;pure Flow.next) _ _ _
 refine ax (PP<|wpAny_bind (unpackItems_tuple (items:=#[g,z]) (I.ok.hd hc) (IsTup.new n.heap _) λh' G=>?_));have I3:=I2.kept (h':=h') (t':=n.toks) λb o e=>G b o (Qk<|Qb e) e;show eH _ _ (XU [λv=>Yl X.env y v,λv=>Yl X.env x v] [z,g] >>= λ_=>pure Flow.next) _ _ _;refine ax (Xw<|wpAny_bindName<|fU I3 T hj (.inl U) B (λs2 I4=>?_)<|.inr U);refine Xw (wpAny_bindName<|fU I4 T hi (.inl S) W (λs3 I5=>assignInOrder_nil (fe ?_))<|.inr S);rw[List.set_comm _ _ (Qu L)]at I5;exact⟨_,H1,I5,F⟩
def tAug(i:Nat)(te:TE)(ti:Nb):TS:=λD Z H=>∃x,Z[i]?=ap (ap x)/\te Z H λy H1=>ti x y H1 λz H2=>D.nx (Z.set i<|some z) H2
theorem Ll{ti:Nb}(Y:X.N.Nodup)(F:X.N[i]?=ap x)(B:Bz X.env.scope x)(he:PE X e te)(ho:ES X op ti)(hf:X.fn x=true\/X.env.scope.names.lookup x=ap .local:=by first|exact .inl rfl|exact .inr rfl|assumption):
  PS X (.AugAssign (.Name x pos') op e pos) (tAug i te ti):=by
 intro Ym s Z H D I h;obtain⟨v,L,h⟩:=h;obtain⟨m,T,G⟩:=I.loc;have q:Kt X.env.scope x:=by rcases B with k|k;exact .inl k;exact .inr (.inl k)
 obtain⟨u,r,l⟩:=G i x v F L q;refine wpAny_AugAssign_Name ?_;have go:eH (fv X.prog X.w) X.A (g3 e X.env) (λw g=>eH (fv X.prog X.w) X.A (inplaceOp op u w) (λr n=>eH (fv X.prog X.w) X.A (storeName X.env x r) (λ_=>SP X Ym D .next) X.xe n) X.xe g) X.xe s:=by
  refine bp (he Ym s Z H _ I h) λw R ⟨y,H1,I1,U,W⟩=>?_;refine bp (ho Ym R Z H1 v y u w _ I1 r U W) λz s2 ⟨zv,H2,I2,J,S⟩=>?_;exact fU I2 Y F B J (λs3 I3=>⟨_,H2,I3,S⟩) hf
 rcases l with⟨hk,O⟩|⟨hk,c,hc,hcell⟩
 .exact Yf I.ok.kind hk T O go
 .rcases hk with hk|hk
  .exact wpAny_loadName_cell I.ok.kind hk hc hcell go
  .rcases B with k|k
   .have:X.env.scope.names.lookup x=ap .free:=hk
    rw[k]at this;cases this
   .have:X.env.scope.names.lookup x=ap .free:=hk
    rw[k]at this;cases this
def Np(to ti te:TE)(tget:V->V->Hp->VK->Prop)(tip:Nb)(tset:Cq):TS:=λD Z H=>to Z H λo H1=>ti Z H1 λi H2=>tget o i H2 λx H3=>te Z H3 λy H4=>tip x y H4 λz H5=>tset o i z H5 λH6=>D.nx Z H6
def Ob(X:Cx)(t:V->V->Hp->VK->Prop):Prop:=
 ∀(Ym:YB)(s:el)(Z:St)(H:Hp)(o i:V)(ov iv:ay)(Q:VK),Inv X Ym Z H s->RelV o ov->RelV i iv->t o i H Q->
  eH (fv X.prog X.w) X.A (Xg ov iv) (EP X Ym Z Q) X.xe s
theorem HC{o i:gl}{to ti:TE}{g:V->V->Hp->VK->Prop}{z:Nb}{n:Cq}{tpos:Pos}(ho:PE X o to)(hi:PE X i ti)(hg:Ob X g)(he:PE X e te)(hp:ES X op z)(hs:FN X n)(ha:∀q y new,augStore i q y new=(do va [new,q,y] (XF q y new);release [new,q,y] [];pure .next):=by intros;rfl):PS X (.AugAssign (.Subscript o i tpos) op e pos) (Np to ti te g z n):=by
 intro Ym s Z H D I h;refine wpAny_AugAssign_SubscriptAny (bp (ho Ym s Z H _ I h) λq s1 ⟨J,H1,I1,L,q1⟩=>?_) ha;refine bp (hi Ym s1 Z H1 _ I1 q1) λy T ⟨F,H2,I2,G,q2⟩=>?_;refine bp (hg Ym T Z H2 J F q y _ I2 L G q2) λB s3 ⟨U,H3,I3,S,R⟩=>?_;refine bp (he Ym s3 Z H3 _ I3 R) λv W ⟨x4,H4,I4,r4,Y⟩=>?_;refine bp (hp Ym W Z H4 U x4 B v _ I4 S r4 Y) λnew s5 ⟨x5,H5,I5,r5,O⟩=>?_;exact bp (hs Ym s5 Z H5 J F x5 q y new _ I5 L G r5 O) λ_ s6 ⟨H6,I6,q6⟩=>⟨Z,H6,I6,q6⟩
def ipI(f:Int->Int->Int):Nb:=λx y H Q=>∃i j,x=.int i/\y=.int j/\Q (.int<|f i j) H
theorem JQ:ES X .Add (ipI λi j=>i+j):=by
 intro Ym s Z H x y v u Q I n z h;obtain⟨i,j,B,g,q⟩:=h;subst B;subst g;obtain⟨t,rfl⟩:=n;obtain⟨t',rfl⟩:=z;exact iadd_int ⟨.int _,H,I.tok _,⟨_,rfl⟩,q⟩
theorem My:ES X .Sub (ipI λi j=>i-j):=by
 intro Ym s Z H x y v u Q I n z h;obtain⟨i,j,B,g,q⟩:=h;subst B;subst g;obtain⟨t,rfl⟩:=n;obtain⟨t',rfl⟩:=z;exact isub_int ⟨.int _,H,I.tok _,⟨_,rfl⟩,q⟩
end
section
def JS(c:TT)(tb:TS):TS:=λD Z H=>∃W:Nat->St->Hp->Prop,(∃m,W m Z H)/\∀m Z H,W m Z H->
 c Z H λb H1=>if b=true then ∃N:St->Hp->Prop,(∀σ' H',N σ' H'->∃m',m'<m/\W m' σ' H')/\tb { D with nx:=N,ct:=N,bk:=D.nx } Z H1 else D.nx Z H1
theorem EF{R:TT}{tb:TS}(O:X1 (fv X.prog X.w) X.A X.env X.xe)(hc:PT X c R)(hb:yi X body tb):PS X (.While c body [] pos) (JS R tb):=by
 intro Ym s Z H D I h;obtain⟨W,⟨m0,S⟩,turn⟩:=h;refine wpAny_While (codeAny_whileLoop (λn T=>∃σ' H',Inv X Ym σ' H' T/\W n σ' H') ?_ m0 ⟨Z,H,I,S⟩)
 rintro n Y ⟨q,H1,I1,w1⟩
 refine z4 O (bp (hc Ym Y q H1 _ I1<|turn n q H1 w1) λb U ⟨H2,I2,z⟩=>?_);cases b with
 |true=>
  obtain⟨N,L,z⟩:=z;rw[if_pos rfl];refine z4 O (bp (hb Ym U q H2 _ I2 z) λf s3 y=>?_);cases f with
  |next=>
   obtain⟨g,H3,I3,G⟩:=y;obtain⟨F,B,J⟩:=L g H3 G;exact⟨F,B,g,H3,I3,J⟩
  |cont=>
   obtain⟨g,H3,I3,G⟩:=y;obtain⟨F,B,J⟩:=L g H3 G;exact⟨F,B,g,H3,I3,J⟩
  |brk=>exact y
  |ret v=>exact y
 |false=>
  rw[if_neg Qq];exact SL ⟨q,H2,I2,z⟩
end
structure It where
 go:Nat->Hp->Prop
 yld:Nat->Hp->V->Hp->Prop
 stop:Nat->Hp->Prop
def fR(X:Cx)(Ym:YB)(H:Hp)(b:eg):Prop:=
 H b=cm/\b≠X.env.locals/\b∉X.fs/\(b∈X.ex\/X.s₀.heap.objs.size<=b)/\(∀x c,X.env.cells.lookup x=ap c->c≠b)/\∀p∈X.pn++Ym,p.1≠b
theorem Inv.fpOk(I:Inv X Ym Z H s)(g:s.heap.objs.size<=b)(y:H' b=cm):fR X Ym H' b:=by
 refine⟨y,RB (Qc I.lt g),I.nofs g,.inr (Qp I.sz g),λx c e z=>?_,λp n z=>?_⟩
 .obtain⟨v,q⟩:=I.cell x c e
  exact absurd (Qc q.lt<|by rw[z];exact g) (QK _)
 .exact absurd (Qc (Qb (I.pin p n).1)<|by rw[z];exact g) (QK _)
structure Turn(P:fy)(w:g4)(K:PY)(tg:gl)(J:It)(fp:Yx)(it:eg)(tn:Nat->hI->Prop):Prop where
 mem:it∈fp
 obj:∀i h,tn i h->∀b∈fp,∃o,h.get? b=ap o/\∀v,o.data≠.cell v
 keep:∀i h h',tn i h->(∀b∈fp,∀o,h.get? b=ap o->h'.get? b=ap o)->tn i h'
 item:∀(X:Cx),X.prog=P->X.w=w->X.K=K->X.calm=true->∀(i:Nat)(Ym:YB)(s:el)(Z:St)(H:Hp)(E:YA),Inv X Ym Z H s->(∀b∈fp,fR X Ym H b)->tn i s.heap->J.go i H->
  eH (fv P w) X.A (Sc<|.ref it) (λr s1=>∃u,r=ap u/\
   eH (fv P w) X.A (Xk tg (.ref it) u) (λ_ s2=>∃x H',Inv X Ym Z H' s2/\RelV x u/\J.yld i H x H'/\tn (i+1) s2.heap/\∀b∈fp,H' b=cm) E s1) E s
 done:∀(X:Cx),X.prog=P->X.w=w->X.K=K->X.calm=true->∀(i:Nat)(Ym:YB)(s:el)(Z:St)(H:Hp)(E:YA),Inv X Ym Z H s->(∀b∈fp,fR X Ym H b)->tn i s.heap->J.stop i H->
  eH (fv P w) X.A (Sc<|.ref it) (λr s1=>r=cm/\Inv X Ym Z H s1) E s
 self:∀(A:kc)(i:Nat)(s:el)(Q:YA)(E:YA),tn i s.heap->Q (.ref it) s->eH (fv P w) A (pyIter<|.ref it) Q E s
abbrev TI:=St->Hp->(It->Hp->Prop)->Prop
def PIE(X:Cx)(Ym:YB)(Z:St)(tg:gl)(R:It->Hp->Prop)(itv:ay)(s2:el):Prop:=
 ∃(it:eg)(fp:Yx)(tn:Nat->hI->Prop)(J:It)(H':Hp),itv=.ref it/\Inv X Ym Z H' s2/\Turn X.prog X.w X.K tg J fp it tn/\tn 0 s2.heap/\(∀b∈fp,fR X Ym H' b)/\R J H'
def PI(X:Cx)(tg iter:gl)(wi:TI):Prop:=
 ∀(Ym:YB)(s:el)(Z:St)(H:Hp)(R:It->Hp->Prop),Inv X Ym Z H s->wi Z H R->
  eH (fv X.prog X.w) X.A (g3 iter X.env) (λv g=>eH (fv X.prog X.w) X.A (pyIter v) (PIE X Ym Z tg R) X.xe g) X.xe s
theorem yD{it:eg}{o:Obj}{n:String}{vs:YD}{Q:Unit->el->Prop}(v:s.heap.get? it=ap o)(y:o.cls=.type n)(z:o.data=.fields vs)(q:["enumerate","zip","dict_itemiterator","dict_reverseitemiterator","odict_iterator","itertools.zip_longest","itertools.pairwise"].contains n=eC)(g:Q () s):eH M A (Xk tg (.ref it) u) Q E s:=by
 unfold Xk
 cases tg<;>first
  |exact fe g
  |(cases u<;>first
    |exact fe g
    |(refine ax (wpAny_load v ?_)
      rw[y,z];show eH M A (if (["enumerate","zip","dict_itemiterator","dict_reverseitemiterator","odict_iterator","itertools.zip_longest","itertools.pairwise"].contains n&&vs[0]?==ap (wh _))=true then _ else _) Q E s
      rw[if_neg (by intro h;rw[q,U1]at h;cases h)]
      exact fe g))
def Itl(K:PY)(a:eg):It:=
 ⟨λi H=>∃xs x,SqL K H a xs/\xs[i]?=ap x,λi H x H'=>H'=H/\∀xs,SqL K H a xs->xs[i]?=ap x,λi H=>∃xs,SqL K H a xs/\xs.length<=i⟩
def Itt(K:PY)(a:eg):It:=
 ⟨λi H=>∃xs x,ie K H a xs/\xs[i]?=ap x,λi H x H'=>H'=H/\∀xs,ie K H a xs->xs[i]?=ap x,λi H=>∃xs,ie K H a xs/\xs.length<=i⟩
def Itr(lo:Int)(n:Nat):It:=⟨λi _=>i<n,λi H x H'=>H'=H/\x=.int (lo+i),λi _=>n<=i⟩
theorem At(a it:eg):Turn P w K tg (Itl K a) [it] it (λi h=>h.IsListIter it a i) where
 mem:=by simp
 obj:=λi h g b n=>by
  have e:b=it:=by simpa using n
  subst e;obtain⟨o,e,c,d⟩:=g;exact⟨o,e,λv z=>by rw[d]at z;cases z⟩
 keep:=λi h h' g k=>g.at λo e=>k it (by simp) o e
 item:=by
  intro X O hw L hc i Ym s Z H E I y g G;subst O hw L;obtain⟨xs,x,B,F⟩:=G;obtain⟨Y,J,p,hz⟩:=I.list B;obtain⟨u,hu,ru⟩:=J.get F;obtain⟨S,W,f2,U,R,T⟩:=y it (by simp)
  refine X3 g p.isList (x:=u) (by simpa using hu) λh' q sb=>?_
  have I1:Inv X Ym Z H { s with heap:=h' }:=I.turned (t':=s.toks) (λb o n e=>(sb.2 b n).trans e) S W U R T;obtain⟨o,e,c,d⟩:=id q;exact⟨u,rfl,yD (s:={ s with heap:=h' }) e c d (by decide) ⟨x,H,I1,ru,⟨rfl,λys hy=>by rw[I.list_inj hy B];exact F⟩,q,λb n=>(y b n).1⟩⟩
 done:=by
  intro X O hw L hc i Ym s Z H E I y g G;subst O hw L;obtain⟨xs,B,F⟩:=G;obtain⟨Y,J,p,hz⟩:=I.list B;obtain⟨S,W,f2,U,R,T⟩:=y it (by simp)
  have hl:=J.length;exact Yc (I.ok.hd hc) g p.isList (by simp;lia) λh' eb=>⟨rfl,I.turned (t':=s.toks) (λb o n e=>eb b o n e) S W U R T⟩
 self:=λ_ _ _ _ _ g h=>wpAny_pyIter_listiter g h
theorem vF(a it:eg):Turn P w K tg (Itt K a) [it] it (λi h=>h.IsTupleIter it a i) where
 mem:=by simp
 obj:=λi h g b n=>by
  have e:b=it:=by simpa using n
  subst e;obtain⟨o,e,c,d⟩:=g;exact⟨o,e,λv z=>by rw[d]at z;cases z⟩
 keep:=λi h h' g k=>g.at λo e=>k it (by simp) o e
 item:=by
  intro X R hw O hc i Ym s Z H E I B g J;subst R hw O;obtain⟨xs,x,F,G⟩:=J;obtain⟨q,L,p,hz⟩:=I.tuple F;obtain⟨u,hu,ru⟩:=L.get G;obtain⟨T,Y,f2,W,S,U⟩:=B it (by simp)
  refine wpAny_pyNext_tuple_item g (show s.heap.IsTuple a q.toArray from p) (x:=u) (by simpa using hu) λh' y sb=>?_
  have I1:Inv X Ym Z H { s with heap:=h' }:=I.turned (t':=s.toks) (λb o n e=>(sb.2 b n).trans e) T Y W S U;obtain⟨o,e,c,d⟩:=id y;exact⟨u,rfl,yD (s:={ s with heap:=h' }) e c d (by decide) ⟨x,H,I1,ru,⟨rfl,λys hy=>by rw[I.tuple_inj hy F];exact G⟩,y,λb n=>(B b n).1⟩⟩
 done:=by
  intro X R hw O hc i Ym s Z H E I B g J;subst R hw O;obtain⟨xs,F,G⟩:=J;obtain⟨q,L,p,hz⟩:=I.tuple F;obtain⟨T,Y,f2,W,S,U⟩:=B it (by simp)
  have hl:=L.length;exact wpAny_pyNext_tuple_end (I.ok.hd hc) g (show s.heap.IsTuple a q.toArray from p) (by simp;lia) λh' eb=>⟨rfl,I.turned (t':=s.toks) (λb o n e=>eb b o n e) T Y W S U⟩
 self:=λ_ _ _ _ _ g h=>wpAny_pyIter_tupleiter g h
theorem uL(it:eg)(F:Int)(n:Nat):Turn P w K tg (Itr F n) [it] it (λi h=>IsRangeIter h it (F+(i:Nat)*1) ((n:Int)-(i:Nat)) 1) where
 mem:=by simp
 obj:=λi h g b q=>by
  have e:b=it:=by simpa using q
  subst e;exact⟨_,g,λv z=>by
   have z':Data.fields _=Data.cell v:=z;cases z'⟩
 keep:=λi h h' g k=>k it (by simp) _ g
 item:=by
  intro X L hw J Y i Ym s Z H E I B g G;subst L hw J;obtain⟨R,U,f2,T,O,S⟩:=B it (by simp)
  have W:=Walks.range (prog:=X.prog) (w:=X.w) (I.ok.hd Y) it F 1 n;refine W.item i s _ _ G g λv h' tk hv y kk=>?_;obtain⟨t,rfl⟩:=hv;have I1:Inv X Ym Z H { s with heap:=h',toks:=tk }:=I.turned (λb o q e=>kk b o (by simpa using q) e) R U T O S
  refine⟨_,rfl,yD (s:={ s with heap:=h',toks:=tk }) (n:="range_iterator") y rfl rfl (by decide) ⟨.int (F+i),H,I1,⟨t,?_⟩,⟨rfl,rfl⟩,y,λb q=>(B b q).1⟩⟩
  rw[UO]
 done:=by
  intro X L hw J Y i Ym s Z H E I B g G;subst L hw J;obtain⟨R,U,f2,T,O,S⟩:=B it (by simp)
  exact wpAny_pyNext_range_end (I.ok.hd Y) g (by have:n<=i:=G;lia) λh' eb=>⟨rfl,I.turned (t':=s.toks) (λb o q e=>eb b o q e) R U T O S⟩
 self:=λ_ _ _ _ _ g h=>wpAny_pyIter_rangeiter g h
section
theorem Ef{R:It->Hp->Prop}{g n:Int}{t u v:Tok}{y:Nat}(I:Inv X Ym Z H s)(G:-(2 ^ 62)<=g)(L:g<2 ^ 62)(O:-(2 ^ 62)<=n)(J:n<2 ^ 62)(q:R (Itr g (n-g).toNat) H):eH (fv X.prog X.w) X.A (pyIter<|.ref s.heap.objs.size) (PIE X Ym Z tg R) E { s with heap:=s.heap.push { cls:=.type "range",data:=.fields #[.int g t,.int n u,.int 1 v] },toks:=y }:=by
 refine wpAny_pyIter_range (IsRange.new ..) (small_one G L O J) ?_;have I1:Inv X Ym Z H { s with heap:=s.heap.push { cls:=.type "range",data:=.fields #[.int g t,.int n u,.int 1 v] },toks:=y }:=I.kept λb o e=>PR _ e;refine⟨(s.heap.push { cls:=.type "range",data:=.fields #[.int g t,.int n u,.int 1 v] }).objs.size,[(s.heap.push { cls:=.type "range",data:=.fields #[.int g t,.int n u,.int 1 v] }).objs.size],_,_,H,rfl,
  I1.kept (t':=y) λb o e=>PR _ e,uL _ g (n-g).toNat,?_,λb F=>?_,q⟩
 .have B:g+((0:Nat):Int)*1=g:=by simp
  have z:(((n-g).toNat:Nat):Int)-((0:Nat):Int)=Builtin.Range.rangeSize g n 1:=by rw[rangeSize_one];split<;>lia
  show IsRangeIter _ _ (g+((0:Nat):Int)*1) ((((n-g).toNat:Nat):Int)-((0:Nat):Int)) 1;rw[B,z];exact Qg _ rfl
 .have e:b=(s.heap.push { cls:=.type "range",data:=.fields #[.int g t,.int n u,.int 1 v] }).objs.size:=by simpa using F
  subst e;exact I1.fpOk (PZ _) (I1.hok.fresh<|PZ _)
def OD(ta:TA):TI:=λZ H R=>ta Z H λg H1=>∃j:Int,g=[.int j]/\-(2 ^ 62)<=j/\j<2 ^ 62/\R (Itr 0 j.toNat) H1
theorem AI{a:gl}{ta:TA}(z:Gl X "range")(F:X.mg "range"=cm)(y:PA X [a] ta)(B:ff [a] X.env=[(eC,g3 a X.env)]:=by rfl):PI X tg (.Call (.Name "range" p) [a] [] pos) (OD ta):=by
 intro Ym s Z H R I h;refine Call_ (eJ I z F boot_range<|QL (bp (y pos Ym s Z H _ I h) λus G ⟨J,H1,I1,n,g⟩=>?_) B rfl);obtain⟨j,e,g,v,q⟩:=g;subst e;cases n with
 |cons r rr=>
  cases rr;obtain⟨t,rfl⟩:=r;exact call_range_1 (Ef I1 (by lia) (by lia) g v<|by simpa using q)
def tFor(wi:TI)(g:TG)(tb:TS):TS:=λD Z H=>wi Z H λJ H1=>∃W:Nat->Nat->St->Hp->Prop,(∃m,W 0 m Z H1)/\∀i m Z H,W i m Z H->
 (J.stop i H/\D.nx Z H)\/(J.go i H/\∃N:St->Hp->Prop,(∀σ' H',N σ' H'->∃m',m'<m/\W (i+1) m' σ' H')/\∀x H',J.yld i H x H'->g x Z H' λn H2=>tb { D with nx:=N,ct:=N,bk:=D.nx } n H2)
def jt(fp:Yx)(h:hI):List (eg×Obj):=fp.filterMap λb=>(h.get? b).map λo=>(b,o)
theorem cX{o:Obj}(g:b∈fp)(e:h.get? b=ap o):(b,o)∈jt fp h:=V8.mpr ⟨b,g,by rw[e];rfl⟩
theorem AT{p:eg×Obj}(v:p∈jt fp h):p.1∈fp/\h.get? p.1=ap p.2:=by
 obtain⟨b,n,e⟩:=V8.mp v;cases q:h.get? b with
 |none=>rw[q]at e;cases e
 |some o=>
  rw[q]at e;have g:(b,o)=p:=QX e;subst g;exact⟨n,q⟩
theorem Inv.pinned(I:Inv X Ym Z H s)(J:∀b∈fp,fR X Ym H b)(G:∀b∈fp,∃o,s.heap.get? b=ap o/\∀v,o.data≠.cell v):Inv X (Ym++jt fp s.heap) Z H s:=
 I.pins_of λp y=>(QC.mp y).elim (λz=>I.pin p (Qw _ z)) λz=>by
  obtain⟨n,e⟩:=AT z;obtain⟨q,F,B,_⟩:=J p.1 n;obtain⟨o,g,d⟩:=G p.1 n;rw[e]at g;cases g;exact⟨e,q,F,B,d⟩
theorem Inv.unpinned{pl:YB}(I:Inv X (Ym++pl) Z H s):Inv X Ym Z H s:=I.pins_of λp g=>I.pin p (Qw _<|TX _ g)
theorem LY{F:gl}{wi:TI}{g:TG}{tb:TS}(hp:X1 (fv X.prog X.w) X.A X.env X.xe)(hc:X.calm=true)(hi:PI X tg F wi)(hg:PG X tg g)(B:yi X body tb)(hs:∀x,o4 F X.env x=pure x:=by intro _;rfl):PS X (.For tg F body [] pos) (tFor wi g tb):=by
 intro Ym s Z H D I h;refine wpAny_For (bp (hi Ym s Z H _ I h) λv s1 h1=>bp h1 λitv s2 h2=>?_) hs;obtain⟨it,fp,tn,J,H2,e,I2,T,st2,f2,W,⟨m0,w0⟩,R⟩:=h2;subst e
 -- what stays true of the iterator's objects through the loop
 have z:∀{H':Hp},(∀b∈fp,H' b=cm)->∀b∈fp,fR X Ym H' b:=λhn b B=>⟨hn b B,(f2 b B).2⟩;refine codeAny_forLoop_any (λn s'=>∃i σ' H',Inv X Ym σ' H' s'/\tn i s'.heap/\(∀b∈fp,H' b=cm)/\W i n σ' H') ?_ m0 ⟨0,Z,H2,I2,st2,λb B=>(f2 b B).1,w0⟩
 rintro n s3 ⟨i,y,H3,I3,O,S,w3⟩
 rcases R i n y H3 w3 with⟨Y,qn⟩|⟨go,N,hN,step⟩
 .refine z4 hp (bp (T.done X rfl rfl rfl hc i Ym s3 y H3 X.xe I3 (z S) O Y) λr s4 ⟨hr,I4⟩=>?_)
  subst hr;exact SL ⟨y,H3,I4,qn⟩
 .refine z4 hp (bp (T.item X rfl rfl rfl hc i Ym s3 y H3 X.xe I3 (z S) O go) λr s4 ⟨u,hr,h4⟩=>?_)
  subst hr;refine z4 hp (bp h4 λ_ s5 ⟨x,H5,I5,r5,y5,L,fr5⟩=>?_);have I5':=I5.pinned (z fr5) (T.obj _ _ L);refine z4 hp (bp (hg _ s5 y H5 x u _ I5' r5<|step x H5 y5) λ_ s6 ⟨σ6,H6,I6,q6⟩=>?_);refine z4 hp (bp (B _ s6 σ6 H6 _ I6 q6) λf s7 G=>?_);have again:∀{q:St}{H7:Hp},Inv X (Ym++jt fp s5.heap) q H7 s7->N q H7->∃m,m<n/\∃i σ' H',Inv X Ym σ' H' s7/\tn i s7.heap/\(∀b∈fp,H' b=cm)/\W i m σ' H':=λ{q H7} I7 U=>by
   obtain⟨m',hm,w7⟩:=hN q H7 U;refine⟨m',hm,i+1,q,H7,I7.unpinned,T.keep _ _ _ L λb B o e=>(I7.pin (b,o)<|Qw _<|Qw _<|cX B e).1,λb B=>?_,w7⟩;obtain⟨o,e,d⟩:=T.obj _ _ L b B;exact(I7.pin (b,o)<|Qw _<|Qw _<|cX B e).2.1
  cases f with
  |next=>obtain⟨q,H7,I7,U⟩:=G;exact again I7 U
  |cont=>obtain⟨q,H7,I7,U⟩:=G;exact again I7 U
  |brk=>obtain⟨q,H7,I7,G⟩:=G;exact⟨q,H7,I7.unpinned,G⟩
  |ret v=>obtain⟨x7,q,H7,I7,r7,G⟩:=G;exact⟨x7,q,H7,I7.unpinned,r7,G⟩
end
abbrev R2:=V->V->Hp->VK->Prop
def cF(X:Cx)(f:ay->ay->Sem ay)(r:R2):Prop:=
 ∀(Ym:YB)(s:el)(Z:St)(H:Hp)(x y:V)(v u:ay)(Q:VK),Inv X Ym Z H s->RelV x v->RelV y u->r x y H Q->
  eH (fv X.prog X.w) X.A (f v u) (EP X Ym Z Q) X.xe s
def UnR(X:Cx)(f:ay->Sem ay)(r:V->Hp->VK->Prop):Prop:=
 ∀(Ym:YB)(s:el)(Z:St)(H:Hp)(x:V)(v:ay)(Q:VK),Inv X Ym Z H s->RelV x v->r x H Q->
  eH (fv X.prog X.w) X.A (f v) (EP X Ym Z Q) X.xe s
def bQ(X:Cx)(f:ay)(r:List V->Hp->VK->Prop):Prop:=
 ∀(Ym:YB)(s:el)(Z:St)(H:Hp)(xs:List V)(us:Yw)(Q:VK),Inv X Ym Z H s->Vals xs us->r xs H Q->
  eH (fv X.prog X.w) X.A (call f us) (EP X Ym Z Q) X.xe s
def TruR(X:Cx)(r:V->Hp->(Bool->Hp->Prop)->Prop):Prop:=
 ∀(Ym:YB)(s:el)(Z:St)(H:Hp)(x:V)(v:ay)(Q:Bool->Hp->Prop),Inv X Ym Z H s->RelV x v->r x H Q->
  eH (fv X.prog X.w) X.A (truthy v) (TP X Ym Z Q) X.xe s
def P8(r:R2)(ta tb:TE):TE:=λZ H Q=>ta Z H λx H1=>tb Z H1 λy H2=>r x y H2 Q
def tUn(r:V->Hp->VK->Prop)(ta:TE):TE:=λZ H Q=>ta Z H λx H1=>r x H1 Q
def rI(C:Int->Int->Prop)(g:Int->Int->V):R2:=λx y H Q=>∃i j,x=.int i/\y=.int j/\C i j/\Q (g i j) H
def By(g:Int->Int->V):R2:=λx y H Q=>∃i j,x=.int i/\y=.int j/\Q (g i j) H
def rU(g:Int->V):V->Hp->VK->Prop:=λx H Q=>∃i,x=.int i/\Q (g i) H
section
variable{a b:gl}{tc:TE}
theorem Mq(G:PE X a ta)(J:PE X b tb){R:V->V->Hp->Prop}(I:Inv X Ym Z H s)(h:ta Z H λx H1=>tb Z H1 λy H2=>R x y H2){f:ay->ay->Sem ay}(L:∀v u g x y H2,Inv X Ym Z H2 g->RelV x v->RelV y u->R x y H2->eH (fv X.prog X.w) X.A (f v u) Q X.xe g):
  eH (fv X.prog X.w) X.A (g3 a X.env) (λv s₁=>eH (fv X.prog X.w) X.A (g3 b X.env) (λu s₂=>eH (fv X.prog X.w) X.A (f v u) Q X.xe s₂) X.xe s₁) X.xe s:=by
 refine bp (G Ym s Z H _ I h) λv B ⟨x,H1,I1,z,q⟩=>?_;refine bp (J Ym B Z H1 _ I1 q) λu g ⟨y,H2,I2,n,F⟩=>?_;exact L v u g x y H2 I2 z n F
theorem P4{r:R2}(F:cF X (hG op) r)(B:PE X a ta)(G:PE X b tb):PE X (.BinOp a op b pos) (P8 r ta tb):=by
 intro Ym s Z H Q I h;exact wpAny_BinOp (Mq B G I h λv u g x y H2 I2 z n q=>F Ym g Z H2 x y v u Q I2 z n q)
theorem Ox{op:UnaryOp}{r:V->Hp->VK->Prop}(z:UnR X (unaryOp op) r)(y:PE X a ta):PE X (.UnaryOp op a pos) (tUn r ta):=by
 intro Ym s Z H Q I h;exact UnaryOp_ (bp (y Ym s Z H _ I h) λv q ⟨x,H1,I1,n,g⟩=>z Ym q Z H1 x v Q I1 n g)
theorem N7{f:ay->ay->Sem ay}{C:Int->Int->Prop}{g:Int->Int->Int}(n:∀(i j:Int)(t u:Tok)(s:el)(Q:YA)(E:YA),C i j->Q (.int (g i j) s.toks) { s with toks:=s.toks+1 }->eH (fv X.prog X.w) X.A (f (.int i t)<|.int j u) Q E s):
  cF X f (rI C λi j=>.int (g i j)):=by
 intro Ym s Z H x y v u Q I z F h;obtain⟨i,j,rfl,rfl,B,q⟩:=h;obtain⟨t,rfl⟩:=z;obtain⟨t',rfl⟩:=F;exact n i j t t' s _ _ B ⟨.int (g i j),H,I.tok _,⟨_,rfl⟩,q⟩
theorem D8{f:ay->ay->Sem ay}{g:Int->Int->Int}(n:∀(i j:Int)(t u:Tok)(s:el)(Q:YA)(E:YA),Q (.int (g i j) s.toks) { s with toks:=s.toks+1 }->eH (fv X.prog X.w) X.A (f (.int i t)<|.int j u) Q E s):
  cF X f (By λi j=>.int (g i j)):=by
 intro Ym s Z H x y v u Q I z B h;obtain⟨i,j,rfl,rfl,q⟩:=h;obtain⟨t,rfl⟩:=z;obtain⟨t',rfl⟩:=B;exact n i j t t' s _ _ ⟨.int (g i j),H,I.tok _,⟨_,rfl⟩,q⟩
theorem FT{f:ay->ay->Sem ay}{g:Int->Int->Bool}(n:∀(i j:Int)(t u:Tok)(s:el)(Q:YA)(E:YA),Q (.bool<|g i j) s->eH (fv X.prog X.w) X.A (f (.int i t)<|.int j u) Q E s):
  cF X f (By λi j=>.bl (g i j)):=by
 intro Ym s Z H x y v u Q I z B h;obtain⟨i,j,rfl,rfl,q⟩:=h;obtain⟨t,rfl⟩:=z;obtain⟨t',rfl⟩:=B;exact n i j t t' s _ _ ⟨.bl (g i j),H,I,rfl,q⟩
def HL(i j:Int):Prop:=0<=j/\j<=1000000/\i.natAbs<2 ^ 64
def CMul(i j:Int):Prop:=(-(2 ^ 64)<i/\i<2 ^ 64)\/(-(2 ^ 64)<j/\j<2 ^ 64)
theorem CMul.ok{i j:Int}(h:CMul i j):IntMulOk i j:=by
 rcases h with⟨g,n⟩|⟨g,n⟩
 .exact .of_left (intBits_le_64 g n)
 .exact .of_right (intBits_le_64 g n)
theorem vR(k:Nat):(0:Int)<=2 ^ k:=by
 rw[two_pow_cast];exact Int.natCast_nonneg _
theorem JN:cF X (hG .Add) (By λi j=>.int (i+j)):=D8 λ_ _ _ _ _ _ _ q=>add_int q
theorem LZ:cF X (hG .Sub) (By λi j=>.int (i-j)):=D8 λ_ _ _ _ _ _ _ q=>sub_int q
theorem MI:cF X (hG .Mult) (rI CMul λi j=>.int (i*j)):=N7 λ_ _ _ _ _ _ _ g q=>mul_int q g.ok
theorem L_:cF X (hG .Mod) (rI (λ_ j=>0<j) λi j=>.int (i % j)):=N7 λi j _ _ _ _ _ g q=>by
 have n:(0:Int)<j:=g;exact mod_int' (by lia) (by rw[Int.fmod_eq_emod_of_nonneg i (by lia)];exact q)
theorem JT:cF X (hG .Pow) (rI HL λi j=>.int (i ^ j.toNat)):=N7 λ_ _ _ _ _ _ _ g q=>pow_int_small g.1 g.2.1 g.2.2 q
theorem KI:cF X (hG .LShift) (rI HL λi j=>.int (i*2 ^ j.toNat)):=N7 λ_ _ _ _ _ _ _ g q=>lshift_int_small g.1 g.2.1 g.2.2 q
theorem LK:cF X (hG .RShift) (rI (λ_ j=>0<=j) λi j=>.int (i / 2 ^ j.toNat)):=N7 λi j _ _ _ _ _ g q=>
 rshift_int g (by rw[Vb i (vR _)];exact q)
theorem Ls:cF X (hG .BitAnd) (By λi j=>.int (S0 i j)):=D8 λ_ _ _ _ _ _ _ q=>and_int q
theorem O6:cF X (hG .BitOr) (By λi j=>.int (TV i j)):=D8 λ_ _ _ _ _ _ _ q=>or_int q
theorem MZ:cF X (hG .BitXor) (By λi j=>.int (Builtin.bitXor i j)):=D8 λ_ _ _ _ _ _ _ q=>xor_int q
theorem unI{f:ay->Sem ay}{g:Int->Int}(n:∀(i:Int)(t:Tok)(s:el)(Q:YA)(E:YA),Q (.int (g i) s.toks) { s with toks:=s.toks+1 }->eH (fv X.prog X.w) X.A (f<|.int i t) Q E s):
  UnR X f (rU λi=>.int (g i)):=by
 intro Ym s Z H x v Q I y h;obtain⟨i,rfl,q⟩:=h;obtain⟨t,rfl⟩:=y;exact n i t s _ _ ⟨.int (g i),H,I.tok _,⟨_,rfl⟩,q⟩
theorem Mn:UnR X (unaryOp .USub) (rU λi=>.int (-i)):=unI λ_ _ _ _ _ q=>neg_int q
end
section
variable{a b:gl}{tc:TE}
theorem Dk{Q:VK}{k g:Bool}(I:Inv X Ym Z H s)(q:Q (.bl k) H)(e:k=g):EP X Ym Z Q (.bool g) s:=by
 subst e;exact⟨.bl k,H,I,rfl,q⟩
theorem OZ:cF X (mu .Lt) (By λi j=>.bl (decide (i<j))):=FT λ_ _ _ _ _ _ _ q=>lt_int q
theorem PF:cF X (mu .LtE) (By λi j=>.bl (decide (i<=j))):=FT λ_ _ _ _ _ _ _ q=>le_int q
theorem O4:cF X (mu .Gt) (By λi j=>.bl (decide (j<i))):=FT λ_ _ _ _ _ _ _ q=>gt_int q
theorem Pr:cF X (mu .GtE) (By λi j=>.bl (decide (j<=i))):=FT λ_ _ _ _ _ _ _ q=>ge_int q
theorem Li:cF X (mu .Is) (λx y H Q=>y=.non/\Q (.bl<|decide (x=.non)) H):=by
 intro Ym s Z H x y v u Q I g n h;obtain⟨rfl,q⟩:=h;cases n;refine is_none_gen (Dk I q ?_)
 cases x<;>first
  |(cases g;rfl)
  |(obtain⟨t,rfl⟩:=g;rfl)
theorem Hi:cF X (mu .IsNot) (λx y H Q=>y=.non/\Q (.bl<|!decide (x=.non)) H):=by
 intro Ym s Z H x y v u Q I g n h;obtain⟨rfl,q⟩:=h;cases n;refine isnot_none_gen (Dk I q ?_)
 cases x<;>first
  |(cases g;rfl)
  |(obtain⟨t,rfl⟩:=g;rfl)
theorem Ie{op:CmpOp}{r:R2}(F:cF X (mu op) r)(B:PE X a ta)(G:PE X b tb)(J:Xu op b=eC):PE X (.Compare a [op] [b] pos) (P8 r ta tb):=by
 intro Ym s Z H Q I h;exact wpAny_Compare1 (Mq B G I h λv u g x y H2 I2 z n q=>F Ym g Z H2 x y v u Q I2 z n q) J
def NR(t:TE):TT:=λZ H Q=>t Z H λx H'=>∃k,x=.bl k/\Q k H'
theorem HE{op:CmpOp}{r:R2}(R:cF X (mu op) r)(O:PE X a ta)(S:PE X b tb)(T:Xu op b=eC):PT X (.Compare a [op] [b] pos) (NR<|P8 r ta tb):=by
 intro Ym s Z H Q I h;refine wpAny_isTrue_Compare1 (bp (O Ym s Z H _ I h) λv n ⟨x,H1,I1,g,J⟩=>bp (S Ym n Z H1 _ I1 J) λu L ⟨y,H2,I2,F,q⟩=>
  bp (R Ym L Z H2 x y v u _ I2 g F q) λc U ⟨z,H3,I3,G,k,e,B⟩=>?_) T
 subst e;cases G;exact wpAny_truthy_bool ⟨H3,I3,B⟩
def Kc(K:PY)(x:V)(H:Hp)(k:Bool):Prop:=
 match x with
 |.non=>k=eC
 |.bl b=>k=b
 |.int i=>k=(i != 0)
 |.str y=>y.length<=sizeLine/\k=((y.length:Int) != 0)
 |.byt y=>y.size<=sizeLine/\k=((y.size:Int) != 0)
 |.ref p=>(∃xs,SqL K H p xs/\k=!xs.isEmpty)\/(∃xs,ie K H p xs/\k=!xs.isEmpty)\/∃Yo,H p=ap (.dK Yo)/\k=!Yo.isEmpty
 |_=>False
theorem vM{n:Type}{g:List (n×V)}{vs:List (n×ay)}(r:KV g vs):(!vs.isEmpty)=!g.isEmpty:=by
 cases r<;>rfl
theorem mB{xs:List V}{Ys:Yw}(r:Vals xs Ys):(!Ys.toArray.isEmpty)=!xs.isEmpty:=by
 cases r<;>simp
theorem fW:(sizeLine:Nat)<2 ^ 63:=by rw[XD];decide
theorem JI:TruR X (λx H Q=>∃k,Kc X.K x H k/\Q k H):=by
 intro Ym s Z H x v Q I B h;obtain⟨k,e,q⟩:=h;have T:=fW;have S:sizeLine=16777216:=XD;cases x with
 |non=>
  cases B;have g:k=false:=e;subst g;exact truthy_none ⟨H,I,q⟩
 |bl b=>
  cases B;have g:k=b:=e;subst g;exact wpAny_truthy_bool ⟨H,I,q⟩
 |int i=>
  obtain⟨t,rfl⟩:=B;have g:k=(i != 0):=e;subst g;exact PySem.P.truthy_int ⟨H,I,q⟩
 |str y=>
  obtain⟨t,rfl⟩:=B;obtain⟨O,g⟩:y.length<=sizeLine/\k=((y.length:Int) != 0):=e;subst g;exact PySem.P.truthy_str (by lia) ⟨H,I.tok _,q⟩
 |byt y=>
  obtain⟨t,rfl⟩:=B;obtain⟨O,g⟩:y.size<=sizeLine/\k=((y.size:Int) != 0):=e;subst g;exact W.truthy_bytes (by lia) ⟨H,I.tok _,q⟩
 |ref p=>
  cases B;have g:(∃z,SqL X.K H p z/\k=!z.isEmpty)\/(∃z,ie X.K H p z/\k=!z.isEmpty)\/∃Yo,H p=ap (.dK Yo)/\k=!Yo.isEmpty:=e;rcases g with⟨z,F,g⟩|⟨z,F,g⟩|⟨Yo,F,g⟩
  .subst g
   obtain⟨J,r,pl,L⟩:=I.list F;have n:=r.length;exact wpAny_truthy_list pl.isList (by simp only[Qd];lia) ⟨H,I.tok _,by rw[mB r];exact q⟩
  .subst g
   obtain⟨J,r,pl,L⟩:=I.tuple F;have n:=r.length;exact truthy_tuple pl (by simp only[Qd];lia) ⟨H,I.tok _,by rw[mB r];exact q⟩
  .subst g
   obtain⟨L,R,G,r,m⟩:Yo.length<=sizeLine/\(p==Rs)=eC/\∃G,KV Yo G/\s.heap.DictOf (aW X.prog X.w) p G:=I.hok p _ F;have n:Yo.length=G.length:=Rn r;exact wpAny_truthy_dict R m (by lia) ⟨H,I.tok _,by rw[vM r];exact q⟩
 |_=>exact(show False from e).elim
theorem Ed(z:PE X a ta)(B:∀g,X7 a X.env g=(do let v <- g;W7 a.pos;va [v] (truthy v))):
  PT X a (λZ H Q=>ta Z H λx H'=>∃k,Kc X.K x H' k/\Q k H'):=by
 intro Ym s Z H Q I h;exact isTrue_plain (bp (z Ym s Z H _ I h) λv y ⟨x,H1,I1,q,n⟩=>JI Ym y Z H1 x v Q I1 q n) (B _)
theorem uE:cF X (hG .Add) (λx y H Q=>∃i j,x=.str i/\y=.str j/\i.length+j.length<=sizeLine/\Q (.str (i++j)) H):=by
 intro Ym s Z H x y v u Q I n z h;obtain⟨i,j,rfl,rfl,g,q⟩:=h;obtain⟨t,rfl⟩:=n;obtain⟨t',rfl⟩:=z;exact add_str (λt' B=>⟨.str (i++j),H,I.tok _,⟨_,rfl⟩,q⟩) g
theorem iU{x:V}(r:Vals [x] us):∃u,us=[u]/\RelV x u:=by
 cases r with
 |cons r1 r2=>cases r2;exact⟨_,rfl,r1⟩
theorem II{x y:V}(r:Vals [x,y] us):∃u w',us=[u,w']/\RelV x u/\RelV y w':=by
 cases r with
 |cons r1 r2=>
  cases r2 with
  |cons r3 r4=>cases r4;exact⟨_,_,rfl,r1,r3⟩
theorem B7(n:X.calm=true):bQ X (.builtin "max") (λxs H Q=>∃i j,xs=[.int i,.int j]/\Q (.int (if j>i then j else i)) H):=by
 intro Ym s Z H xs us Q I r h;obtain⟨i,j,rfl,q⟩:=h;obtain⟨u,v,rfl,⟨t,rfl⟩,⟨t',rfl⟩⟩:=II r;refine max_two_ints (I.ok.hd n) λh' y k=>⟨_,H,I.kept k,?_,q⟩
 by_cases g:j>i
 .rw[if_pos g,if_pos g];exact⟨_,rfl⟩
 .rw[if_neg g,if_neg g];exact⟨_,rfl⟩
theorem AF(n:X.calm=true):bQ X (.builtin "min") (λxs H Q=>∃i j,xs=[.int i,.int j]/\Q (.int (if j<i then j else i)) H):=by
 intro Ym s Z H xs us Q I r h;obtain⟨i,j,rfl,q⟩:=h;obtain⟨u,v,rfl,⟨t,rfl⟩,⟨t',rfl⟩⟩:=II r;refine min_two_ints (I.ok.hd n) λh' y k=>⟨_,H,I.kept k,?_,q⟩
 by_cases g:j<i
 .rw[if_pos g,if_pos g];exact⟨_,rfl⟩
 .rw[if_neg g,if_neg g];exact⟨_,rfl⟩
end
structure ObjM(h:hI)(x dx C:eg)(mA:YC):Prop where
 obj:h.get? x=ap (Tf C dx)
 ns:h.Ns1 dx mA
 ne:dx≠x
theorem Au(n:h.Ns1 dx mA):∃v,h.get? dx=ap v/\∀name,W.lookIn name v=ap (mA name):=by
 obtain⟨o,es,O,G,L,I,_,B⟩:=n;refine⟨o,G,λname=>?_⟩;have e:=B name;unfold nsFind findBy at e;rw[<- Array.find?_toList]at e;unfold W.lookIn;rw[L];dsimp only
 split
 .rename_i y q
  rw[q]at e;exact congrArg ap e
 .rename_i q
  rw[q]at e;have a:es.toList.any (·.refKey)=false:=by
   rw[List.any_eq_false];intro y F;obtain⟨z,t,g⟩:=I y (Array.mem_toList_iff.mp F);simp[DictEntry.refKey,g]
  have J:¬es.toList.any (·.refKey)=true:=by rw[a];exact Qq
  rw[if_neg J];exact congrArg ap e
theorem ObjM.look{x:eg}(I:ObjM h x dx C mA):∃g,W.InstAt h x (Tf C dx) C (ap g)/\∀name,W.lookIn name g=ap (mA name):=
 let ⟨g,ho,hl⟩:=Au I.ns
 ⟨g,⟨I.obj,rfl,rfl,ho⟩,hl⟩
section
variable{prog:fy}{x:eg}{name:Str}{v:ay}
theorem Ht{g:Bool}(X:K.In s.heap)(I:ObjM s.heap x dx C mA)(B:SN K C name=true)(z:SX K C=true)(F:QT K (.ref C) name=ap cm)(y:mA name=ap v)(n:W.handedIn v=true)(h:Q v { s with toks:=s.toks+1 }):
  eH (fv prog w) A (getAttr (.ref x) name g) Q E s:=by
 obtain⟨G,J,q⟩:=I.look;exact W.get_value X J (VI B).1 (W.findObj_own z F rfl<|by rw[q,y]) n h
theorem Dm{pl:Sem Bool}{Q:ay×List ay->el->Prop}(X:K.In s.heap)(I:ObjM s.heap x dx C mA)(g:SN K C name=true)(B:QT K (.ref C) name=ap (ap<|.ref f))(z:W.isFn K (.ref f)=true)(y:mA name=cm)(h:Q (.ref f,[.ref x]) s):
  eH (fv prog w) A (WP (.ref x) name pl) Q E s:=by
 obtain⟨q,J,n⟩:=I.look;exact W.method_fn X J (VI g).1 (VI g).2 B (beq_iff_eq.mp z) (by show (W.lookIn name q).map (·.isSome)=ap eC;rw[n,y];rfl) h
theorem gG{ns:Yv}{Q:Unit->el->Prop}(X:K.In s.heap)(I:ObjM s.heap x dx C mA)(U:QT K (.ref C) "__setattr__"=ap (ap<|.builtin "object.__setattr__"))(S:Tx K C=true)(Y:W.takerIn K C name=ap cm)(T:SX K C=true)(hw:Vj mA ns)(hsz:ns.length<=sizeLine)(h:∀h',ObjM h' x dx C (λy=>if y=name then ap v else mA y)->RO dx s.heap h'->Q () { s with heap:=h',toks:=s.toks+2 }):
  eH (fv prog w) A (setAttr (.ref x) name v) Q E s:=by
 obtain⟨od,J,hl⟩:=I.look;refine W.set_plain X J U (W.osa_open (s:={ s with toks:=s.toks+1 }) (r:=cm) X J S Y λb=>?_);obtain⟨cd,L,q⟩:=W.any_some T;have G:s.heap.get? x=ap ⟨.ref C,ap dx,.plain,#[]⟩:=I.obj;refine ax (fe<|wpAny_bind<|wpAny_bind<|wpAny_loadPart G<|wpAny_bind<|W.Looks.here (s:={ s with toks:=s.toks+1 }) (W.looks_clsIn X L) ?_);rw[q];refine fe (a:=ap dx) (ax<|wpAny_pure<|wpAny_bind ?_);refine wpAny_nsSet1 (s:={ s with toks:=s.toks+1 }) I.ns λh' g n=>?_;obtain⟨oD,R,O,B,F,z⟩:=g.count (PySem.Within.cons name v hw);refine ax (wpAny_lookBehind B (by rw[F];exact pastItsLine_dict (Qp z<|by rw[Qe];lia)) ?_)
 exact fe (h _ ⟨(n.2 _<|Qu I.ne).trans I.obj,g,I.ne⟩ n)
theorem E6{R:XR->el->Prop}{vs:Yw}(X:K.In s.heap)(z:TL K C=true)(q:QT K (.ref C) "__init__"=ap (ap<|.ref f))(y:W.typeIn K (.ref f)=ap (.type "function"))(h:SZ (fv prog w) (A.under<|.builtin "type.__call__" ⟨.ref C::vs,kw⟩) (.call (.ref f) ⟨.ref (s.heap.objs.size+1)::vs,kw⟩) (W.InitBack (s.heap.objs.size+1) R)
   { s with heap:=(s.heap.push Se).push (Tf C s.heap.objs.size) }):
  SZ (fv prog w) A (.call (.ref C) ⟨vs,kw⟩) R s:=by
 obtain⟨F,g,d,t,B⟩:=s;exact W.make_core (W.makes_of X z) (W.looks_findIn X q) (λn=>W.bind_fn X n y) (.inl rfl) h
end
def de(f:Str)(v:V):List (Str×V)->List (Str×V)
 |[]=>[(f,v)]
 |(g,x)::r=>if g=f then (g,v)::r else (g,x)::de f v r
theorem k6(f g:Str)(v:V):∀fs:List (Str×V),(de f v fs).lookup g=if g=f then ap v else fs.lookup g
 |[]=>by
  show Qy g [(f,v)]=_
  by_cases h:g=f
  .have n:(g==f)=true:=beq_iff_eq.mpr h
   simp only[Qy,n,if_pos h]
  .have n:(g==f)=false:=beq_eq_false_iff_ne.mpr h
   simp only[Qy,n,if_neg h]
 |(k,x)::r=>by
  have y:=k6 f g v r;rw[show de f v ((k,x)::r)=(if k=f then (k,v)::r else (k,x)::de f v r) from rfl]
  by_cases q:k=f
  .rw[if_pos q]
   by_cases h:g=k
   .have n:(g==k)=true:=beq_iff_eq.mpr h
    simp only[Qy,n,if_pos (h.trans q)]
   .have n:(g==k)=false:=beq_eq_false_iff_ne.mpr h
    simp only[Qy,n,if_neg (λe:g=f=>h (e.trans q.symm))]
  .rw[if_neg q]
   by_cases h:g=k
   .have n:(g==k)=true:=beq_iff_eq.mpr h
    simp only[Qy,n,if_neg (λe:g=f=>q (h.symm.trans e))]
   .have n:(g==k)=false:=beq_eq_false_iff_ne.mpr h
    simp only[Qy,n];exact y
theorem jr(f:Str)(v:V):∀fs:List (Str×V),f∈(de f v fs).map (·.1)/\∀g,g∈fs.map (·.1)->g∈(de f v fs).map (·.1)
 |[]=>⟨by simp[de],λg h=>by simp at h⟩
 |(k,x)::r=>by
  obtain⟨q,y⟩:=jr f v r;rw[show de f v ((k,x)::r)=(if k=f then (k,v)::r else (k,x)::de f v r) from rfl]
  by_cases n:k=f
  .rw[if_pos n]
   subst n;exact⟨by simp,λg h=>by simpa using h⟩
  .rw[if_neg n]
   refine⟨?_,λg h=>?_⟩
   .rw[PU]
    exact Qf _ q
   .rw[PU]at h ⊢
    rcases Ql.mp h with e|e
    .exact Ql.mpr (.inl e)
    .exact Qf _ (y g e)
theorem k4(f:Str)(v:V):∀fs:List (Str×V),(de f v fs).length<=fs.length+1
 |[]=>by simp[de]
 |(k,x)::r=>by
  have n:=k4 f v r;rw[show de f v ((k,x)::r)=(if k=f then (k,v)::r else (k,x)::de f v r) from rfl]
  by_cases g:k=f
  .rw[if_pos g,Qe,Qe];lia
  .rw[if_neg g,Qe,Qe];lia
theorem dA{v:V}{o:Option ay}(r:RelO (ap v) o):∃u,o=ap u/\RelV v u:=by
 cases o with
 |none=>exact(show False from r).elim
 |some u=>exact⟨u,rfl,r⟩
theorem jo{o:Option ay}(r:RelO cm o):o=none:=by
 cases o with
 |none=>rfl
 |some u=>exact(show False from r).elim
theorem AW{v:V}(r:RelV v u):W.handedIn u=true:=by
 cases v with
 |non=>cases (show u=RL from r);rfl
 |bl b=>cases (show u=R5 b from r);rfl
 |int i=>obtain⟨t,e⟩:=(show ∃t,u=RQ i t from r);cases e;rfl
 |str x=>obtain⟨t,e⟩:=(show ∃t,u=Tt x t from r);cases e;rfl
 |byt b=>obtain⟨t,e⟩:=(show ∃t,u=Value.bytes b t from r);cases e;rfl
 |flt b=>obtain⟨t,e⟩:=(show ∃t,u=VJ b t from r);cases e;rfl
 |ref a=>cases (show u=Qs a from r);rfl
 |ty n=>cases (show u=UR n from r);rfl
section
variable{fs fs':List (Str×V)}
theorem lJ(g:HOk P w H h)(e:H a=ap (.ins C dx fs)):∃mA,ObjM h a dx C mA/\(∀f,RelO (fs.lookup f) (mA f))/\Vj mA (fs.map (·.1))/\fs.length<=1000/\H dx=ap (.own a):=by
 obtain⟨d,z,ne,v,mA,n,r,q⟩:=(show ObjOk P w H h a (.ins C dx fs) from g a _ e);exact⟨mA,⟨v,n,ne⟩,r,q,z,d⟩
end
structure Cls(K:PY)(C:eg):Prop where
 pg:SN K C UE=true
 hd:SX K C=true
 po:Tx K C=true
 sa:QT K (.ref C) "__setattr__"=ap (ap<|.builtin "object.__setattr__")
theorem Cls.get(c:Cls K C)(f:Str):SN K C f=true:=c.pg
def NoAttr(K:PY)(C:eg)(f:Str):Prop:=QT K (.ref C) f=ap cm
theorem NoAttr.taker{f:Str}(n:NoAttr K C f):W.takerIn K C f=ap none:=by
 unfold W.takerIn;rw[show QT K (.ref C) f=ap cm from n];rfl
structure Meth(K:PY)(C:eg)(m:Str)(f:eg):Prop where
 at_:QT K (.ref C) m=ap (ap<|.ref f)
 fn:W.isFn K (.ref f)=true
 kp:Rj K (.ref f)=true
section
variable{fs:List (Str×V)}{f:Str}{v:V}
theorem ms{b:Bool}(I:Inv X Ym Z H s)(e:H a=ap (.ins C dx fs))(c:Cls X.K C)(n:NoAttr X.K C f)(l:fs.lookup f=ap v)(h:∀u s',Inv X Ym Z H s'->RelV v u->Q u s'):eH (fv X.prog X.w) A (getAttr (.ref a) f b) Q E s:=by
 obtain⟨mA,O,r,_,_,_⟩:=lJ I.hok e;obtain⟨u,q,g⟩:=dA (v:=v) (o:=mA f) (by rw[<- l];exact r f)
 exact Ht I.kIn O (c.get f) c.hd n q (AW g) (h u _ (I.tok _) g)
theorem mR{g:eg}{pl:Sem Bool}{Q:ay×List ay->el->Prop}(I:Inv X Ym Z H s)(e:H a=ap (.ins C dx fs))(c:Cls X.K C)(k:Meth X.K C m g)(l:fs.lookup m=cm)(h:Q (.ref g,[.ref a]) s):eH (fv X.prog X.w) A (WP (.ref a) m pl) Q E s:=by
 obtain⟨mA,O,r,_,_,_⟩:=lJ I.hok e;have n:mA m=none:=jo (by rw[<- l];exact r m)
 exact Dm I.kIn O (c.get m) k.at_ k.fn n h
theorem mw{y:V}{Q:Unit->el->Prop}(I:Inv X Ym Z H s)(e:H a=ap (.ins C dx fs))(c:Cls X.K C)(n:NoAttr X.K C f)(T:fs.length<1000)(S:RelV y u)(h:∀s',Inv X Ym Z (upd H a<|.ins C dx<|de f y fs) s'->Q () s'):eH (fv X.prog X.w) A (setAttr (.ref a) f u) Q E s:=by
 obtain⟨mA,O,r,B,_,F⟩:=lJ I.hok e;have L:(fs.map (·.1)).length<=sizeLine:=by rw[PQ,XD];lia
 refine gG I.kIn O c.sa c.po n.taker c.hd B L λh' O' G=>h _ ?_;have hd:∃o,h'.get? dx=ap o:=let ⟨o,_,_,e',_⟩:=O'.ns;⟨o,e'⟩;refine I.write (x:=a) (e:=dx) (by rw[e];exact RD) (.inr F) (λb q J z=>(G.2 b J).trans z) hd ?_
 refine⟨by rw[aK O.ne];exact F,?_,O.ne,O'.obj,_,O'.ns,λg=>?_,λg R=>?_⟩
 .have:=k4 f y fs;lia
 .show RelO ((de f y fs).lookup g) (if g=f then ap u else mA g)
  rw[k6]
  by_cases q:g=f
  .rw[if_pos q,if_pos q];exact S
  .rw[if_neg q,if_neg q];exact r g
 .by_cases q:g=f
  .rw[q];exact(jr f y fs).1
  .refine (jr f y fs).2 g (B g λz=>R ?_)
   show (if g=f then ap u else mA g)=cm
   rw[if_neg q];exact z
theorem Ff(I:Inv X Ym Z H s):Inv X Ym Z (upd (upd H s.heap.objs.size<|.own (s.heap.objs.size+1)) (s.heap.objs.size+1)<|.ins C s.heap.objs.size [])
  { s with heap:=(s.heap.push Se).push (Tf C s.heap.objs.size) }:=by
 have g:(s.heap.push Se).get? s.heap.objs.size=ap Se:=Qg s.heap rfl;have n:((s.heap.push Se).push<|Tf C s.heap.objs.size).get? (s.heap.objs.size+1)=ap (Tf C s.heap.objs.size):=by
  have:=Qg (s.heap.push Se) (o:=Tf C s.heap.objs.size) rfl
  rwa [QF]at this
 have B:(s.heap.push Se).Ns s.heap.objs.size (λ_=>cm):=⟨Se,#[],_,g,rfl,(λe F=>absurd F (by simp)),λ_=>rfl⟩
 have I1:=I.laid (a:=s.heap.objs.size) (o:=.own (s.heap.objs.size+1)) (h':=s.heap.push Se) (t':=s.toks) (λb u q=>PR _ q) (PZ _) ⟨_,g⟩;refine I1.laid (a:=s.heap.objs.size+1) (o:=.ins C s.heap.objs.size []) (t':=s.toks) (λb u q=>PR _ q) (VP<|QF _ _) ?_;have ne:s.heap.objs.size≠s.heap.objs.size+1:=Qk (SH _);refine⟨by rw[aK ne,upd_same],Rq _,ne,n,λ_=>cm,(Heap.Ns1.of_empty B).at λo q=>PR _ q,λ_=>RD,λy z=>absurd rfl z⟩
theorem F_{prog:fy}{env:Env}{f:Str}(g:ol e f env (g3 e env)=g3 e env)(h:eH (fv prog w) A (g3 e env) (λo s₁=>eH (fv prog w) A (getAttr o f true) Q E s₁) E s):eH (fv prog w) A (g3 (.Attribute e f pos) env) Q E s:=
 Attribute_any_ h (by rw[arm_eval_Attribute,g])
end
def tFld(K:PY)(ta:TE)(f:Str):TE:=λZ H Q=>ta Z H λx H1=>∃a C dx fs v,x=.ref a/\H1 a=ap (.ins C dx fs)/\Cls K C/\NoAttr K C f/\fs.lookup f=ap v/\Q v H1
def sFld(K:PY)(ta tv:TE)(f:Str):TS:=λD Z H=>tv Z H λy H1=>ta Z H1 λx H2=>∃a C dx fs,x=.ref a/\H2 a=ap (.ins C dx fs)/\Cls K C/\NoAttr K C f/\fs.length<1000/\
 D.nx Z (upd H2 a<|.ins C dx<|de f y fs)
def LM(X:Cx)(op:Xe)(rd:V->V->Hp->VK->Prop):Prop:=
 ∀(Ym:YB)(s:el)(Z:St)(H:Hp)(x y:V)(u v:ay)(Q:VK),Inv X Ym Z H s->RelV x u->RelV y v->rd x y H Q->eH (fv X.prog X.w) X.A (inplaceOp op u v) (EP X Ym Z Q) X.xe s
def GO(K:PY)(ta tv:TE)(rd:V->V->Hp->VK->Prop)(f:Str):TS:=λD Z H=>ta Z H λx H1=>∃a C dx fs v,x=.ref a/\H1 a=ap (.ins C dx fs)/\Cls K C/\NoAttr K C f/\fs.lookup f=ap v/\
 tv Z H1 λy H2=>rd v y H2 λz H3=>∃dx' fs',H3 a=ap (.ins C dx' fs')/\fs'.length<1000/\D.nx Z (upd H3 a<|.ins C dx'<|de f z fs')
section
variable{o value:gl}{f:Str}{tpos:Pos}{tv:TE}
theorem LL(J:PE X e ta)(G:ol e f X.env (g3 e X.env)=g3 e X.env):PE X (.Attribute e f pos) (tFld X.K ta f):=by
 intro Ym s Z H Q I h;refine F_ G (bp (J Ym s Z H _ I h) λu O B=>?_);obtain⟨x,H1,I1,y,a,C,dx,fs,v,g,z,c,n,l,q⟩:=B;subst g;obtain rfl:u=Qs a:=y;exact ms I1 z c n l λL R I2 F=>⟨v,H1,I2,F,q⟩
theorem MM(O:PE X o ta)(R:PE X value tv)(S:vr value (ap<|.Attribute o f pos') pos.line X.env=pure eC):PS X (.Assign [.Attribute o f pos'] value pos) (sFld X.K ta tv f):=by
 intro Ym s Z H D I h;refine plainObj_wpAny_Assign_Attribute (bp (R Ym s Z H _ I h) λu z ⟨y,H1,I1,L,q⟩=>bp (O Ym z Z H1 _ I1 q) λg T J=>?_) S;obtain⟨x,H2,I2,F,a,C,dx,fs,v,G,c,n,l,B⟩:=J;subst v;obtain rfl:g=Qs a:=F;exact mw I2 G c n l L λU I3=>⟨Z,_,I3,B⟩
theorem o6{F:V->V->Hp->VK->Prop}(ha:PE X o ta)(hv:PE X value tv)(B:LM X op F):PS X (.AugAssign (.Attribute o f tpos) op value pos) (GO X.K ta tv F f):=by
 intro Ym s Z H D I h;refine wpAny_AugAssign_AttributeAny (bp (ha Ym s Z H _ I h) λW s1 L=>?_);obtain⟨x,H1,I1,Y,a,C,dx,fs,v,G,ea,c,n,l,q⟩:=L;subst G;obtain rfl:W=Qs a:=Y;refine ms I1 ea c n l λu O I2 ru=>bp (hv Ym O Z H1 _ I2 q) λw3 s3 ⟨y,H2,I3,ry,J⟩=>bp (B Ym s3 Z H2 v y u w3 _ I3 ru ry J) λw4 s4 ⟨z,H3,I4,T,dx',R,g,S,U⟩=>?_;exact mw I4 g c n S T λs5 I5=>⟨Z,_,I5,U⟩
def rAdd:V->V->Hp->VK->Prop:=λx y H Q=>∃i j,x=.int i/\y=.int j/\Q (.int (i+j)) H
def rSub:V->V->Hp->VK->Prop:=λx y H Q=>∃i j,x=.int i/\y=.int j/\Q (.int (i-j)) H
theorem JL:LM X .Add rAdd:=by
 rintro Ym s Z H x y u v Q I g n ⟨i,j,rfl,rfl,q⟩
 obtain⟨t,rfl⟩:=(show ∃t,u=RQ i t from g);obtain⟨t',rfl⟩:=(show ∃t',v=RQ j t' from n);exact PyProof.Rows.iadd_int ⟨.int (i+j),H,I.tok _,⟨_,rfl⟩,q⟩
theorem Lk:LM X .Sub rSub:=by
 rintro Ym s Z H x y u v Q I g n ⟨i,j,rfl,rfl,q⟩
 obtain⟨t,rfl⟩:=(show ∃t,u=RQ i t from g);obtain⟨t',rfl⟩:=(show ∃t',v=RQ j t' from n);exact PyProof.Rows.isub_int ⟨.int (i-j),H,I.tok _,⟨_,rfl⟩,q⟩
end
section
variable{c:ay}{b:Bool}
inductive TyOf(K:PY)(H:Hp):V->ay->Prop where
 |non:TyOf K H .non (.type "NoneType")
 |bl (x:Bool):TyOf K H (.bl x) (.type "bool")
 |int (i:Int):TyOf K H (.int i) (.type "int")
 |str (x:Str):TyOf K H (.str x) (.type "str")
 |flt (x:UInt64):TyOf K H (.flt x) (.type "float")
 |lst {a:eg} {xs:List V} (e:H a=ap (.lst xs)):TyOf K H (.ref a) (.type "list")
 |frz {a:eg} {o:Obj} {xs:List V} (e:H a=ap (.frz o<|.lst xs)):TyOf K H (.ref a) (.type "list")
 |tup {a:eg} {xs:List V} (e:H a=ap (.tup xs)):TyOf K H (.ref a) (.type "tuple")
 |dK {a:eg} {Yo:List (aG×V)} (e:H a=ap (.dK Yo)):TyOf K H (.ref a) (.type "dict")
 |dT {a:eg} {Yo:List (List aG×V)} (e:H a=ap (.dT Yo)):TyOf K H (.ref a) (.type "dict")
 |ins {a C dx:eg} {fs:List (Str×V)} (e:H a=ap (.ins C dx fs)) (cl:Cls K C) (ha:QT K (.ref C) "__class__"=ap (ap<|.builtin "object.__class__"))
   (hn:W.specialIn K (.builtin "object.__class__") "__get__"=ap (ap<|.builtin "getset_descriptor.__get__")) (htk:W.takesIn K (.builtin "object.__class__")=ap true)
   (hm:W.mroIn K C (.type "object")=ap true):TyOf K H (.ref a) (.ref C)
theorem Bg{x:V}{t:ay}(I:Inv X Ym Z H s)(g:RelV x u)(ty:TyOf X.K H x t)(e:W.kitOne X.K t c=ap b)(h:∀L,Q (.bool b) { s with toks:=L }):
  eH (fv X.prog X.w) A (call (.builtin "isinstance") [u,c]) Q E s:=by
 cases ty with
 |non=>cases (show u=RL from g);exact Si W.kitx_none I.kIn RD e (λz=>nomatch z) h
 |bl y=>cases (show u=R5 y from g);exact Si W.kitx_bool I.kIn RD e (λz=>nomatch z) h
 |int i=>obtain⟨t,q⟩:=(show ∃t,u=RQ i t from g);cases q;exact Si W.kitx_int I.kIn RD e (λz=>nomatch z) h
 |str y=>obtain⟨t,q⟩:=(show ∃t,u=Tt y t from g);cases q;exact Si W.kitx_str I.kIn RD e (λz=>nomatch z) h
 |flt y=>obtain⟨t,q⟩:=(show ∃t,u=VJ y t from g);cases q;exact Si W.kitx_float I.kIn RD e (λz=>nomatch z) h
 |@lst a B ea=>
  cases (show u=Qs a from g);obtain⟨_,_,n,_,v⟩:=(show ObjOk X.prog X.w H s.heap a (.lst B) from I.hok a _ ea);exact Si W.kitx_list I.kIn ⟨_,v,rfl⟩ e (λz=>nomatch z) h
 |@frz a ob B ea=>
  cases (show u=Qs a from g);obtain⟨_,_,_,n,_,v⟩:=(show ObjOk X.prog X.w H s.heap a (.frz ob<|.lst B) from I.hok a _ ea);exact Si W.kitx_list I.kIn ⟨_,v,rfl⟩ e (λz=>nomatch z) h
 |@tup a B ea=>
  cases (show u=Qs a from g);obtain⟨_,_,_,p⟩:=(show ObjOk X.prog X.w H s.heap a (.tup B) from I.hok a _ ea);obtain⟨o,v,⟨F,_⟩,_⟩:=p;exact Si W.kitx_tuple I.kIn ⟨o,v,F⟩ e (λz=>nomatch z) h
 |@dK a Yo ea=>
  cases (show u=Qs a from g);obtain⟨_,_,S,_,p⟩:=(show ObjOk X.prog X.w H s.heap a (.dK Yo) from I.hok a _ ea);obtain⟨o,es,G,v,F,_⟩:=p;exact Si W.kitx_dict I.kIn ⟨o,v,F.1⟩ e (λz=>nomatch z) h
 |@dT a Yo ea=>
  cases (show u=Qs a from g);obtain⟨_,_,B,_,o,es,G,v,F,_⟩:=(show ObjOk X.prog X.w H s.heap a (.dT Yo) from I.hok a _ ea);exact Si W.kitx_dict I.kIn ⟨o,v,F.1⟩ e (λz=>nomatch z) h
 |@ins a C dx fs ea cl ha hn htk hm=>
  cases (show u=Qs a from g);obtain⟨mA,O,_⟩:=lJ I.hok ea;obtain⟨R,J,_⟩:=O.look;exact Si (W.kitx_own (cl.get _) cl.hd ha hn htk hm) I.kIn J e (λz=>nomatch z) h
end
structure Room(k:Nat)(A:kc):Prop where
 hd:A.handled=cm
 dp:A.depth+3*k+5<recursionLimit
 un:A.units+16*k+200<rc
 gd:A.guards=ap []
theorem Room.mono{k:Nat}(r:Room k A)(h:j<=k):Room j A:=⟨r.hd,by have:=r.dp;lia,by have:=r.un;lia,r.gd⟩
theorem Room.deeper{k:Nat}(r:Room (k+1) A)(env:Env):Room k (A.deeper env):=
 ⟨r.hd,by have:=r.dp;show A.depth+1+3*k+5<_;lia,by have:=r.un;show A.units+3+16*k+200<_;lia,r.gd⟩
theorem vC:(A.under<|.builtin "type.__call__" ⟨.ref C::us,kw⟩).depth=A.depth+1:=by
 first|rfl|simp[Ua,Code.weight,Code.isCreation,Code.isGuard,Code.isCaller,Code.frames,Vx,guardIds]
theorem vg:(A.under<|.builtin "type.__call__" ⟨.ref C::us,kw⟩).units=A.units+1:=by
 first|rfl|simp[Ua,Code.cUnits,Code.frames,Vx]
theorem t9:(A.under<|.builtin "type.__call__" ⟨.ref C::us,kw⟩).guards=A.guards:=by
 first|rfl|simp[Ua,Code.guards,pushGuards,Code.isGuard,guardIds]
theorem Room.make{k:Nat}(r:Room (k+1) A)(C:eg)(us:Yw)(kw:List (Str×ay)):Room k (A.under<|.builtin "type.__call__" ⟨.ref C::us,kw⟩):=
 ⟨r.hd,by have:=r.dp;rw[vC];lia,by have:=r.un;rw[vg];lia,by rw[t9];exact r.gd⟩
theorem Room.depth{k:Nat}(r:Room k A):A.depth<recursionLimit:=by have:=r.dp;lia
theorem Room.units{k:Nat}(r:Room k A):A.units+64<cLine:=by have:=r.un;lia
def NG:TA:=λ_ H Q=>Q [] H
def Oi(ta:TE)(tr:TA):TA:=λZ H Q=>ta Z H λx H1=>tr Z H1 λg H2=>Q (x::g) H2
section
variable{t:TA}
theorem EI:PA X [] NG:=λ_ _ _ _ H Q I h=>Sv ⟨[],H,I,.nil,h⟩
theorem wG(B:PE X e te)(G:PA X es t)(F:ff (e::es) X.env=(eC,g3 e X.env)::ff es X.env:=by rfl):PA X (e::es) (Oi te t):=by
 intro pos Ym s Z H Q I h;rw[F];show eH _ _ (spliced ((eC,g3 e X.env)::j0 pos (ff es X.env))) _ _ s;refine RM (bp (B Ym s Z H _ I h) λu q ⟨x,H1,I1,n,z⟩=>?_);exact bp (G pos Ym q Z H1 _ I1 z) λus J ⟨g,H2,I2,y,v⟩=>⟨x::g,H2,I2,.cons n y,v⟩
def tTup(t:TA):TE:=λZ H Q=>t Z H λg H1=>g.length<=sizeLine/\∀p,H1 p=cm->Q (.ref p) (upd H1 p<|.tup g)
def tLst(t:TA):TE:=λZ H Q=>t Z H λg H1=>g.length<=sizeLine/\∀p,H1 p=cm->Q (.ref p) (upd H1 p<|.lst g)
theorem MS{x1}(h:PA X es t):PE X (.Tuple es x1 pos) (tTup t):=by
 intro Ym s Z H Q I y;refine wpAny_Tuple_spliced (bp (h pos Ym s Z H _ I y) λus g ⟨v,H1,I1,r,z,q⟩=>⟨by rw[<- r.length];exact z,?_⟩)
 have n:H1 g.heap.objs.size=none:=I1.hok.fresh (PZ _);refine⟨.ref g.heap.objs.size,upd H1 g.heap.objs.size (.tup v),I1.laid (t':=g.toks) (λb u e=>PR _ e) (PZ _) ?_,rfl,q _ n⟩;exact⟨z,us,r,⟨_,Qg _ rfl,⟨rfl,_,rfl⟩,rfl⟩⟩
theorem MK(h:PA X es t):PE X (.List es pos) (tLst t):=by
 intro Ym s Z H Q I y;refine wpAny_List_spliced (bp (h pos Ym s Z H _ I y) λus g ⟨v,H1,I1,r,z,q⟩=>⟨by rw[<- r.length];exact z,?_⟩)
 have n:H1 g.heap.objs.size=none:=I1.hok.fresh (PZ _);refine⟨.ref g.heap.objs.size,upd H1 g.heap.objs.size (.lst v),I1.laid (t':=g.toks) (λb u e=>PR _ e) (PZ _) ?_,rfl,q _ n⟩;exact⟨z,us,0,r,Qg _ rfl⟩
end
abbrev Sp:=List V->Hp->VK->XK->Prop
abbrev oh:=List Env->Hp->el->XK->ay->el->Prop
structure Env0(P:fy)(w:g4)(K:PY)(mg:YC)(base:hI)(A:kc)(outer:List Env)(s:el)(H:Hp):Prop where
 frames:A.frames=ap outer
 mod:Mod K mg base
 bs:∀b o,base.get? b=ap o->s.heap.get? b=ap o/\H b=cm
 bsz:base.objs.size<=s.heap.objs.size
 funs:s.heap.FunFrames base outer
 frf:∀b∈gW outer,H b=cm
 hok:HOk P w H s.heap
 bare:W9 s.gens
def CE(outer:List Env)(P:fy)(w:g4)(H:Hp)(s:el)(Q:VK)(u:ay)(s':el):Prop:=
 ∃v H',s'.os=s.os/\W9 s'.gens/\Un (gW outer) [] H H' s.heap s'.heap/\HOk P w H' s'.heap/\RelV v u/\Q v H'
def CR(CX:oh)(outer:List Env)(P:fy)(w:g4)(H:Hp)(s:el)(Q:VK)(E:XK)(r:XR)(s':el):Prop:=
 match r with
 |.ok (.ret u)=>CE outer P w H s Q u s'
 |.ok _=>False
 |.error e=>CX outer H s E e s'
structure FnOk(P:fy)(w:g4)(K:PY)(mg:YC)(base:hI)(CX:oh)(k:Nat)(f:eg)(fd:g5)(ps:Yv)(sp:Sp):Prop where
 len:∀vs H Q E,sp vs H Q E->vs.length=ps.length
 run:∀(A:kc)(outer:List Env)(s:el)(H:Hp)(args:Args)(us:Yw)(vs:List V)(Q:VK)(E:XK),Room k A->Env0 P w K mg base A outer s H->XG s fd args (ps.zip us)->Vals vs us->sp vs H Q E->
  SZ (fv P w) A (.call (.ref f) args) (CR CX outer P w H s Q E) s
theorem FnOk.imp{k:Nat}{v:Sp}(F:FnOk P w K mg base CX k f fd ps sp)(h:∀vs H Q E,v vs H Q E->sp vs H Q E):FnOk P w K mg base CX k f fd ps v:=
 ⟨λvs H Q E q=>F.len vs H Q E (h _ _ _ _ q),λA g s H n us vs Q E y I G B z=>F.run A g s H n us vs Q E y I G B (h _ _ _ _ z)⟩
theorem Env0.make{g:List Env}(e:Env0 P w K mg base A g s H)(C:eg)(us:Yw)(kw:List (Str×ay)):
  Env0 P w K mg base (A.under<|.builtin "type.__call__" ⟨.ref C::us,kw⟩) g s H:=⟨by first|exact e.frames|(simpa [Ua,Code.envs,Vx,pushEnvs] using e.frames),e.mod,e.bs,e.bsz,e.funs,e.frf,e.hok,e.bare⟩
section
variable{s':el}
theorem Inv.env0(I:Inv X Ym Z H s):Env0 X.prog X.w X.K X.mg X.base X.A X.stack s H:=
 ⟨I.ok.frames,I.ok.mod,I.bs,Qp I.ok.bsz I.sz,I.stack,I.stkFree,I.hok,I.bare⟩
theorem Inv.after{Q:VK}(I:Inv X Ym Z H s)(h:CE X.stack X.prog X.w H s Q u s'):EP X Ym Z Q u s':=by
 obtain⟨v,H',os,n,un,B,r,q⟩:=h;obtain⟨F,g,d,t,y⟩:=s';obtain rfl:y=s.os:=os;exact⟨v,H',I.call (h':=F) (g':=g) (d':=d) (t':=t) (ch:=[]) un B n (λb z=>absurd z (by simp)),r,q⟩
end
def Om(sp:Sp)(dvs:List V)(E:XK)(t:TA):TE:=λZ H Q=>t Z H λg H1=>sp (g++dvs) H1 Q E
def IN(C:eg)(m:Str)(sp:Sp)(dvs:List V)(E:XK)(ta:TE)(t:TA):TE:=λZ H Q=>ta Z H λx H1=>∃a dx fs,x=.ref a/\H1 a=ap (.ins C dx fs)/\fs.lookup m=cm/\
 t Z H1 λg H2=>sp (x::(g++dvs)) H2 Q E
def OC(C:eg)(sp:Sp)(dvs:List V)(E:XK)(t:TA):TE:=λZ H Q=>t Z H λg H1=>∀x dx,H1 x=cm->H1 dx=cm->dx≠x->
 sp (.ref x::(g++dvs)) (upd (upd H1 dx<|.own x) x<|.ins C dx []) (λv H2=>v=.non/\Q (.ref x) H2) E
def Binds(K:PY)(fd:g5)(ps:Yv)(ds:Yw):Prop:=
 ∀(s:el)(us:Yw),K.In s.heap->(us++ds).length=ps.length->XG s fd ⟨us,[]⟩ (ps.zip (us++ds))
theorem Binds.all(h:∀us:List ay,us.length=ps.length->XN fd ⟨us,[]⟩=pure (ps.zip us)):Binds K fd ps []:=λs us _ g=>by
 rw[QO]at g ⊢;exact .of_eq (h us g)
def bW(CX:oh)(X:Cx)(E:XK):Prop:=∀(Ym:YB)(Z:St)(H:Hp)(s:el)(e:ay)(s':el),Inv X Ym Z H s->CX X.stack H s E e s'->X.xe e s'
section
variable{k:Nat}{dvs:List V}{ds:Yw}{E:XK}{Yr:Pos}{o:gl}{t:TA}
theorem vL{Q:VK}{vs:List V}(F:FnOk X.prog X.w X.K X.mg X.base CX k f fd ps sp)(G:Room k X.A)(z:Binds X.K fd ps ds)(B:Vals dvs ds)(y:bW CX X E)(I:Inv X Ym Z H s)(r:Vals vs us)(h:sp (vs++dvs) H Q E):eH (fv X.prog X.w) X.A (call (.ref f) us) (EP X Ym Z Q) X.xe s:=by
 have n:Vals (vs++dvs) (us++ds):=r.append B;have q:(us++ds).length=ps.length:=by rw[<- n.length];exact F.len _ _ _ _ h
 refine wpAny_call (TW (F.run X.A X.stack s H ⟨us,[]⟩ (us++ds) (vs++dvs) Q E G I.env0 (z s us I.kIn q) n h) λr v g=>?_);cases r with
 |error e=>exact y Ym Z H s e v I g
 |ok fl=>
  cases fl with
  |ret u=>exact I.after g
  |next=>exact Q7 g
  |brk=>exact Q7 g
  |cont=>exact Q7 g
theorem Gh(F:FnOk X.prog X.w X.K X.mg X.base CX k f fd ps sp)(n:Room k X.A)(B:Gl X x)(v:X.mg x=ap (.ref f))(G:Rj X.K (.ref f)=true)(z:Binds X.K fd ps ds)(L:Vals dvs ds)(y:bW CX X E)(J:PA X (e::es) t)(g:(x==("__debug__":Str))=false:=by decide)(he:ff (e::es) X.env=(eC,g3 e X.env)::ff es X.env:=by rfl)(hpl:(j0 pos<|starEach es X.env).any (·.1)=false:=by rfl):
  PE X (.Call (.Name x p) (e::es) [] pos) (Om sp dvs E t):=by
 intro Ym s Z H Q I h;refine re (ik I B v ?_ g);refine UD (h₀:=X.base) I.ok.mod.kin G (bp (J pos Ym s Z H _ I h) λus R ⟨O,H1,I1,r,q⟩=>⟨I1.kIn,?_⟩) he hpl;exact vL F n z L y I1 r q
theorem Hc{pl:Sem Bool}(T:PE X o ta)(c:Cls X.K C)(n:Meth X.K C m f)(F:FnOk X.prog X.w X.K X.mg X.base CX k f fd ps sp)(L:Room k X.A)(R:Binds X.K fd ps ds)(U:Vals dvs ds)(O:bW CX X E)(S:PA X (e::es) t)(g:ff (e::es) X.env=(eC,g3 e X.env)::ff es X.env:=by rfl)(hpl:(j0 pos<|starEach es X.env).any (·.1)=false:=by rfl)(ht:g3 (.Call (.Attribute o m Yr) (e::es) [] pos) X.env=(do
   let ov <- g3 o X.env
   W7 Yr.atName
   let (f,first) <- va [ov] (WP ov m pl)
   Xz pos f first (j0 pos<|starEach (e::es) X.env) (z5 pos<|keywordEach [] X.env)):=by rfl):
  PE X (.Call (.Attribute o m Yr) (e::es) [] pos) (IN C m sp dvs E ta t):=by
 intro Ym s Z H Q I h;refine W.methodCall_KW (pl:=pl) (bp (T Ym s Z H _ I h) λu y G=>?_) ht;obtain⟨x,H1,I1,B,a,dx,fs,v,J,l,q⟩:=G;subst v;obtain rfl:u=Qs a:=B;refine mR I1 J c n l ?_;refine UD (first:=[.ref a]) (h₀:=X.base) I.ok.mod.kin n.kp (bp (S pos Ym y Z H1 _ I1 q) λus Y ⟨vs,H2,I2,r,z⟩=>⟨I2.kIn,?_⟩) g hpl
 exact vL (us:=.ref a::us) (vs:=.ref a::vs) F L R U O I2 (.cons rfl r) z
theorem B_{pl:Sem Bool}(O:PE X o ta)(c:Cls X.K C)(g:Meth X.K C m f)(F:FnOk X.prog X.w X.K X.mg X.base CX k f fd ps sp)(B:Room k X.A)(J:Binds X.K fd ps ds)(R:Vals dvs ds)(G:bW CX X E)(L:g3 (.Call (.Attribute o m Yr) [] [] pos) X.env=(do
   let ov <- g3 o X.env
   W7 Yr.atName
   let (f,first) <- va [ov] (WP ov m pl)
   Xz pos f first (j0 pos<|starEach [] X.env) (z5 pos<|keywordEach [] X.env)):=by rfl):
  PE X (.Call (.Attribute o m Yr) [] [] pos) (IN C m sp dvs E ta NG):=by
 intro Ym s Z H Q I h;refine W.methodCall_KW (pl:=pl) (bp (O Ym s Z H _ I h) λu S z=>?_) L;obtain⟨x,H1,I1,v,a,dx,fs,n,y,l,q⟩:=z;subst n;obtain rfl:u=Qs a:=v;refine mR I1 y c g l ?_;exact W.callWith_K0 (first:=[.ref a]) I1.kIn g.kp (vL (us:=[.ref a]) (vs:=[.ref a]) F B J R G I1 (.cons rfl .nil) q)
structure Mk(K:PY)(C f:eg):Prop where
 makes:TL K C=true
 init:QT K (.ref C) "__init__"=ap (ap<|.ref f)
 fn:W.isFn K (.ref f)=true
 kp:Rj K (.ref C)=true
theorem EM{Q:VK}{vs:List V}(M:Mk X.K C f)(F:FnOk X.prog X.w X.K X.mg X.base CX k f fd ps sp)(S:Room (k+1) X.A)(O:Binds X.K fd ps ds)(R:Vals dvs ds)(L:bW CX X E)(I:Inv X Ym Z H s)(r:Vals vs us)(h:∀x dx,H x=cm->H dx=cm->dx≠x->sp (.ref x::(vs++dvs)) (upd (upd H dx<|.own x) x<|.ins C dx []) (λv H2=>v=.non/\Q (.ref x) H2) E):
  eH (fv X.prog X.w) X.A (call (.ref C) us) (EP X Ym Z Q) X.xe s:=by
 have q:=h (s.heap.objs.size+1) s.heap.objs.size (I.hok.fresh<|UL _) (I.hok.fresh<|PZ _) (Qk<|SH _);have I2:=Ff (C:=C) I;have n:Vals (V.ref (s.heap.objs.size+1)::(vs++dvs)) (Qs (s.heap.objs.size+1)::(us++ds)):=.cons rfl (r.append R);have B:(Qs (s.heap.objs.size+1)::us++ds).length=ps.length:=by
  have e:=n.length;rw[F.len _ _ _ _ q]at e;exact e.symm
 refine wpAny_call (E6 (f:=f) I.kIn M.makes M.init (beq_iff_eq.mp M.fn) (TW (F.run _ X.stack _ _ ⟨Qs (s.heap.objs.size+1)::us,[]⟩ (Qs (s.heap.objs.size+1)::(us++ds)) _ _ E (S.make C us [])
  (I2.env0.make C us []) (O _ (Qs (s.heap.objs.size+1)::us) I2.kIn B) n q) λr G g=>?_))
 cases r with
 |error e=>exact L Ym Z _ _ e G I2 g
 |ok fl=>
  cases fl with
  |ret u=>
   obtain⟨v,H',I3,z,y,J⟩:=I2.after g;subst y;exact⟨z,⟨V.ref (s.heap.objs.size+1),H',I3,rfl,J⟩⟩
  |next=>exact Q7 g
  |brk=>exact Q7 g
  |cont=>exact Q7 g
theorem Gy(M:Mk X.K C f)(F:FnOk X.prog X.w X.K X.mg X.base CX k f fd ps sp)(n:Room (k+1) X.A)(B:Gl X x)(v:X.mg x=ap (.ref C))(z:Binds X.K fd ps ds)(J:Vals dvs ds)(y:bW CX X E)(G:PA X (e::es) t)(g:(x==("__debug__":Str))=false:=by decide)(he:ff (e::es) X.env=(eC,g3 e X.env)::ff es X.env:=by rfl)(hpl:(j0 pos<|starEach es X.env).any (·.1)=false:=by rfl):
  PE X (.Call (.Name x p) (e::es) [] pos) (OC C sp dvs E t):=by
 intro Ym s Z H Q I h;refine re (ik I B v ?_ g);refine UD (h₀:=X.base) I.ok.mod.kin M.kp (bp (G pos Ym s Z H _ I h) λus O ⟨L,H1,I1,r,q⟩=>⟨I1.kIn,?_⟩) he hpl;exact EM M F n z J y I1 r q
end
section
variable{k:Nat}{ks:Yv}{E:XK}{Yr kpos:Pos}{o:gl}{kws:List z0}{t tk:TA}{nm:Option Str}
variable{g:List ay->List ay->List ay}{gV:List V->List V->List V}
end
structure FnScope(N P:Yv)(sc:SB):Prop where
 kind:sc.kind=.function
 co:sc.isCoroutine=eC
 gen:sc.isGenerator=eC
 nd:N.Nodup
 pre:N.take P.length=P
 par:∀x∈P,sc.names.lookup x=ap .local\/sc.names.lookup x=ap .cell
 nofree:∀y∈sc.names,y.2≠.free
theorem ox{g:Str->Option Xp}{x:Str}:∀{binds:List (Str×ay)}{m:YC},(∀v,(x,v)∉binds)->XZ g binds m x=m x
 |[],_,_=>rfl
 |(n,v)::r,m,h=>by
  unfold XZ;rw[ox λw q=>h w (Qf _ q)]
  split
  .have:x≠n:=by rintro rfl;exact h v Qm
   simp[this]
  .rfl
theorem oS{g:Str->Option Xp}{x:Str}:∀{binds:List (Str×ay)}{m:YC},(∀v,(x,v)∉binds)->X0 g binds m x=m x
 |[],_,_=>rfl
 |(n,v)::r,m,h=>by
  unfold X0;rw[oS λw q=>h w (Qf _ q)]
  split
  .rfl
  .have:x≠n:=by rintro rfl;exact h v Qm
   simp[this]
theorem oB{g:Str->Option Xp}{x:Str}{v:ay}:∀{P:Yv}{vs:Yw}{i:Nat}{m:YC},P.Nodup->P[i]?=ap x->vs[i]?=ap v->g x=ap .local->
  XZ g (P.zip vs) m x=ap v
 |[],_,_,_,_,h,_,_=>by simp at h
 |_::_,[],_,_,_,_,h,_=>by simp at h
 |p::P,w::vs,0,m,nd,h1,h2,hk=>by
  simp at h1 h2;subst h1;subst h2;show XZ g ((p,w)::P.zip vs) m p=_;unfold XZ;rw[ox λv n=>(RT.mp nd).1 (Sl n).1,if_pos hk];simp
 |p::P,w::vs,i+1,m,nd,h1,h2,hk=>by
  show XZ g ((p,w)::P.zip vs) m x=_;unfold XZ;exact oB (i:=i) (RT.mp nd).2 (by simpa using h1) (by simpa using h2) hk
theorem og{g:Str->Option Xp}{x:Str}{v:ay}:∀{P:Yv}{vs:Yw}{i:Nat}{m:YC},P.Nodup->P[i]?=ap x->vs[i]?=ap v->g x≠ap .local->
  X0 g (P.zip vs) m x=ap v
 |[],_,_,_,_,h,_,_=>by simp at h
 |_::_,[],_,_,_,_,h,_=>by simp at h
 |p::P,w::vs,0,m,nd,h1,h2,hk=>by
  simp at h1 h2;subst h1;subst h2;show X0 g ((p,w)::P.zip vs) m p=_;unfold X0;rw[oS λv n=>(RT.mp nd).1 (Sl n).1,if_neg hk];simp
 |p::P,w::vs,i+1,m,nd,h1,h2,hk=>by
  show X0 g ((p,w)::P.zip vs) m x=_;unfold X0;exact og (i:=i) (RT.mp nd).2 (by simpa using h1) (by simpa using h2) hk
def start(N:Yv)(vs:List V):St:=vs.map ap++Qz (N.length-vs.length) cm
def dN(CX:oh)(P:fy)(w:g4)(K:PY)(mg:YC)(base:hI)(N:Yv)(Yn:Str)(scope:SB)(f:eg)(cd:ay)(A:kc)(outer:List Env)(s:el)(H:Hp)(E:XK):Cx where
 prog:=P
 w:=w
 K:=K
 mg:=mg
 base:=base
 A:=A.deeper (envOfC Yn scope s.heap.objs.size f cd)
 N:=N
 s₀:=s
 H₀:=H
 env:=envOfC Yn scope s.heap.objs.size f cd
 outer:=outer
 stack:=envOfC Yn scope s.heap.objs.size f cd::outer
 ex:=[]
 calm:=true
 fn:=λ_=>true
 pn:=[]
 xe:=λe q=>eH (fv P w) (A.deeper<|envOfC Yn scope s.heap.objs.size f cd) (leaving (envOfC Yn scope s.heap.objs.size f cd) e) (λ_ g=>CX outer H s E e g) (λn g=>CX outer H s E n g) q
theorem t_{g:SB}{n:Nat}(h:g.names.lookup x=ap .cell):∃c,(t3 n g.names []).lookup x=ap c:=by
 have q:=SQ g.names n [] (.inl h);exact Rz.mp q
theorem AL{F:Str}{g:SB}{U:ay}{B:List Env}{s1:el}{E:XK}{vs:List V}(S:FnScope N ps g)(hd:A.handled=cm)(I:Env0 P w K mg base A B s H)(hl:vs.length=ps.length)(r:Vals vs us)(x:InCallC s s.heap.objs.size (XZ (envOfC F g s.heap.objs.size f U).kindOf (ps.zip us) λ_=>cm) (t3 (s.heap.objs.size+1) g.names []) (X0 (envOfC F g s.heap.objs.size f U).kindOf (ps.zip us) λ_=>cm) s1):
  Inv (dN CX P w K mg base N F g f U A B s H E) [] (start N vs) H s1:=by
 have hpl:ps.length<=N.length:=by have:=congrArg R7 S.pre;rw[TB]at this;lia
 obtain⟨T,tk,rfl,W⟩:=x.done;have J:∀b:eg,b∉(dN CX P w K mg base N F g f U A B s H E).ex:=λb z=>absurd (show b∈([]:Yx) from z) (by simp)
 refine⟨⟨I.mod,S.kind,rfl,rfl,PZ _,λy z c T G=>?_,λy hy=>?_,λy c _ h=>?_,λ_=>hd,Around.frames_deeper I.frames,.inr ⟨rfl,rfl⟩,λb z=>absurd z (J b),I.bs,I.bsz,λb _ _=>J b,λb z=>absurd z (J b),I.funs,I.frf⟩,
  rfl,I.bare,Un.kept W,⟨_,x.toInCall.ns,λi y v T G h3=>?_⟩,λy c h=>⟨_,x.cell y c h⟩,I.hok.fresh (PZ _),λy c h=>?_,λp L=>absurd (show p∈([]:YB) from L) (by simp),I.hok.kept W,?_⟩
 .exact name_of_addr x.apart (QS T) (QS G)
 .have hy:g.names.lookup y=ap .cell\/g.names.lookup y=ap .free:=hy
  rcases hy with hy|hy
  .exact t_ hy
  .exact absurd rfl (S.nofree _<|QS hy)
 .exact VO (x.above y c<|QS h)
 .have R:i<vs.length:=by
   unfold start at G
   by_cases R:i<vs.length
   .exact R
   .rw[QD (by simpa using R)]at G
    rw[Vn]at G
    split at G<;>cases G
  have ha:vs[i]?=ap v:=by
   unfold start at G;rw[QY (by simpa using R),Qj]at G
   cases e:vs[i]? with
   |none=>rw[e]at G;cases G
   |some a=>rw[e]at G;cases G;rfl
  obtain⟨u,Y,rv⟩:=r.get ha;have L:ps[i]?=ap y:=by
   rw[<- S.pre,List.getElem?_take_of_lt (by lia)];exact T
  have O:ps.Nodup:=by rw[<- S.pre];exact S.nd.sublist (List.take_sublist _ _)
  refine⟨u,rv,?_⟩;rcases S.par y (SM L) with k|k
  .exact .inl ⟨k,oB O L Y k⟩
  .obtain⟨c,e⟩:=t_ (n:=s.heap.objs.size+1) k
   refine .inr ⟨.inl k,c,e,?_⟩;have q:=x.cell y c e;rw[og O L Y (by show g.names.lookup y≠_;rw[k];decide)]at q
   exact q
 .exact I.hok.fresh (VO<|x.above y c<|QS h)
 .unfold start
  show _=N.length;rw[PX,PQ,List.length_replicate];lia
theorem IH{k:Nat}{name B:Str}{G:Arguments}{g:SB}{dV kV doc pm F ct oc:ay}{an od:Option eg}{osl:Array (Option ay)}(lk:K.lookup f=ap ⟨oc,od,.func (SO name B G body g dV kV doc pm an F ct),osl⟩)(hcd:UC K F B=true)(S:FnScope N ps g)(len:∀vs H Q E,sp vs H Q E->vs.length=ps.length)(R:∀(A:kc)(z:List Env)(s:el)(H:Hp)(vs:List V)(Q:VK)(E:XK),Room k (A.deeper<|envOfC B g s.heap.objs.size f F)->sp vs H Q E->
   ∃t,yi (dN CX P w K mg base N B g f F A z s H E) body t/\t { nx:=λ_ H'=>Q .non H',rt:=Q } (start N vs) H):
  FnOk P w K mg base CX (k+1) f (SO name B G body g dV kV doc pm an F ct) ps sp:=by
 refine⟨len,λA z s H args us vs Q E hr U hb r Y=>?_⟩;have hl:=len _ _ _ _ Y;have KX:K.In s.heap:=U.mod.kin.keeps λb o e=>(U.bs b o e).1;have lim:s.heap.NoLimit:=U.mod.nolimit.keeps λb o e=>(U.bs b o e).1;have O:∀y∈ps.zip us,g.names.lookup y.1=ap .local\/(g.names.lookup y.1=ap .cell/\((t3 (s.heap.objs.size+1) g.names []).lookup y.1).isSome=true):=λ⟨n,v⟩ hy=>by
  rcases S.par n (Sl hy).1 with q|q
  .exact .inl q
  .exact .inr ⟨q,SQ _ _ _<|.inl q⟩
 refine codeAny_call_function hr.depth (KX _ _ lk) rfl S.co S.gen rfl (W.codeRec_of KX hcd) (hb _ _ _ _ ?_);refine wpAny_newFunctionEnv_cells S.kind O λenv he s1 x=>?_;subst he;refine⟨lim.keeps x.toInCall.keep,codeAny_func ?_⟩;obtain⟨t,ht,hq⟩:=R A z s H vs Q E (hr.deeper _) Y;have I:Inv (dN CX P w K mg base N B g f F A z s H E) [] (start N vs) H s1:=AL S hr.hd U hl r x;refine n7 (ht [] s1 (start N vs) H _ I hq) (λfl s' T=>?_) λe s' T=>T;have fin:∀{L:St}{H':Hp}{v:V}{u:ay},Inv (dN CX P w K mg base N B g f F A z s H E) [] L H' s'->RelV v u->Q v H'->CE z P w H s Q u s':=
  λ{L H' v u} J rv q=>⟨v,H',J.os,J.bare,J.base,J.hok,rv,q⟩
 cases fl with
 |ret u=>
  obtain⟨v,L,H',J,rv,q⟩:=T;exact fin J rv q
 |next=>
  obtain⟨L,H',J,q⟩:=T;exact fin (v:=V.non) (u:=RL) J rfl q
 |brk=>
  obtain⟨_,_,_,q⟩:=T;exact Q7 q
 |cont=>
  obtain⟨_,_,_,q⟩:=T;exact Q7 q
section
variable{t:TA}{id T:String}{r:List V->Hp->VK->Prop}
def tCB(r:List V->Hp->VK->Prop)(t:TA):TE:=λZ H Q=>t Z H λg H1=>r g H1 Q
theorem Cp(G:bQ X (.builtin id) r)(F:Gl X x)(y:X.mg x=cm)(z:gp x=ap (.builtin id))(J:PA X (e::es) t)(B:x≠"__name__":=by decide)(hdb:(x==("__debug__":Str))=false:=by decide)(he:ff (e::es) X.env=(eC,g3 e X.env)::ff es X.env:=by rfl)(hpl:(j0 pos<|starEach es X.env).any (·.1)=false:=by rfl):PE X (.Call (.Name x p) (e::es) [] pos) (tCB r t):=by
 intro Ym s Z H Q I h;refine re (eJ I F y z ?_ B hdb);exact PyProof.Rows.callWith_builtin1 (bp (J pos Ym s Z H _ I h) λus v ⟨n,H1,I1,q,g⟩=>G Ym v Z H1 n us Q I1 q g) he hpl
theorem AE(G:bQ X (.type T) r)(F:Gl X x)(y:X.mg x=cm)(z:gp x=ap (.type T))(J:PA X (e::es) t)(B:x≠"__name__":=by decide)(hdb:(x==("__debug__":Str))=false:=by decide)(he:ff (e::es) X.env=(eC,g3 e X.env)::ff es X.env:=by rfl)(hpl:(j0 pos<|starEach es X.env).any (·.1)=false:=by rfl):PE X (.Call (.Name x p) (e::es) [] pos) (tCB r t):=by
 intro Ym s Z H Q I h;refine re (eJ I F y z ?_ B hdb);exact QL (bp (J pos Ym s Z H _ I h) λus v ⟨n,H1,I1,q,g⟩=>G Ym v Z H1 n us Q I1 q g) he hpl
end
end L2
namespace HT
open PySem PyProof.Rows
section
open PySem.SeqAt
open PySem.AutoSeq1 (wpAny_loadPart')
open PySem.MeetsSeq PySem.MeetsSeq2 PySem.MeetsSeq3
end
section
variable {prog:fy}{w:g4}{A:kc}{E:YA}{s:el}
theorem GZ{t b:eg}{vs a:Yw}{Q:YA}(G:XE s.heap t vs.toArray)(B:XE s.heap b a.toArray)(z:vs≠[])
  (C:a=[]->Q (.ref t) s) (F:a≠[]->Q (.ref s.heap.objs.size) { s with heap:=s.heap.push { cls:=.type "tuple",data:=.seq (vs++a).toArray } })
  (hsz:vs.length+a.length<=sizeLine):eH (fv prog w) A (hG .Add (.ref t)<|.ref b) Q E s:=by
 obtain⟨⟨cls,u,data,q⟩,m,x,n,y⟩:=id G;obtain⟨⟨v,f,o,i⟩,c,g,p,h⟩:=id B;simp only at x y g h;subst x y g h;have e:vs.toArray++a.toArray=(vs++a).toArray:=by simp
 by_cases j:a=[]
 .exact X8 ⟨_,m,rfl⟩ ⟨_,c,rfl⟩ XC XT Tu Ti (Td _ _)
   (tuple_addW1 t b vs.toArray a.toArray n p u f q i (by simpa using z)<|by simp[j]) ⟨m,c,C j⟩
 .refine X8 ⟨_,m,rfl⟩ ⟨_,c,rfl⟩ XC XT Tu Ti (Td _ _)
   (tuple_addW2 t b vs.toArray a.toArray n p u f q i (by simpa using z) (by simpa using j)<|by rw[Qd,Qd];exact hsz) ⟨m,c,?_⟩
  rw[e];exact F j
def sIx(n d:Nat):Option Int->Nat
 |none=>d
 |some v=>if v<0 then (v+(n:Int)).toNat else min v.toNat n
theorem Em(n d:Nat):sIx n d cm=d:=rfl
theorem HU(n d k:Nat):sIx n d (ap (k:Int))=min k n:=by
 show (if (k:Int)<0 then ((k:Int)+(n:Int)).toNat else min (k:Int).toNat n)=min k n
 rw[if_neg (by lia),Qh]
theorem KQ(n d:Nat)(b:d<=n)(o:Option Int):sIx n d o<=n:=by
 cases o with
 |none=>exact b
 |some v=>
  show (if v<0 then (v+(n:Int)).toNat else min v.toNat n)<=n
  by_cases a:v<0
  .rw[if_pos a];lia
  .rw[if_neg a];exact Nat.min_le_right _ _
theorem wE(v:Int)(n d:Nat):(if v<0 then max (v+(n:Int)) 0 else min v (n:Int))=((sIx n d (ap v):Nat):Int):=by
 show (if v<0 then max (v+(n:Int)) 0 else min v (n:Int))=(((if v<0 then (v+(n:Int)).toNat else min v.toNat n):Nat):Int)
 by_cases a:v<0
 .simp only[if_pos a];lia
 .simp only[if_neg a];lia
theorem vJ(b a:Option Int)(n:Nat):SG b a 1 (n:Int)=(((sIx n 0 b:Nat):Int),((sIx n n a:Nat):Int)):=by
 have c:¬((1:Int)<0):=by lia
 unfold SG;simp only[c,if_false];refine Prod.ext ?_ ?_
 .cases b with
  |none=>rfl
  |some v=>exact wE v n 0
 .cases a with
  |none=>rfl
  |some v=>exact wE v n n
theorem vB(i j:Nat):RS (i:Int) (j:Int) 1=j-i:=by
 unfold RS;have a:(1:Int)>0:=by lia
 simp only[a,if_true,Int.ediv_one]
 split<;>lia
theorem nA{v:ay}{o:Option Int}{Q:Option Int->el->Prop}(p:Xq v o)(h:Q o s):eH (fv prog w) A (Builtin.Slice.slicePartIndex v) Q E s:=by
 cases p with
 |none=>exact slicePart_none h
 |int i t=>exact slicePart_int h
theorem eQ{i:eg}{g f:ay}{a e:Option Int}{n:Nat}{Q:Int×Int×Nat->el->Prop}(m:s.heap.IsSliceOf i g f .none)(pl:Xq g a)(o:Xq f e)
  (h:Q (((sIx n 0 a:Nat):Int),1,sIx n n e-sIx n 0 a) s):eH (fv prog w) A (T6 (.ref i)<|pure (n:Int)) Q E s:=by
 obtain⟨p,c,j,b⟩:=id m;unfold T6 Builtin.Slice.sliceFields;refine ax (ax<|wpAny_field c b (x:=g) rfl<|wpAny_bind<|wpAny_field c b (x:=f) rfl<|wpAny_bind<|wpAny_field c b (x:=.none) rfl<|wpAny_pure ?_);refine ax (slicePart_none ?_);show eH _ _ (if ((1:Int)==0)=true then _ else _) _ _ s
 rw[if_neg (by decide)]
 refine ax (nA pl<|wpAny_bind<|nA o<|wpAny_bind<|wpAny_pure ?_);show eH _ _ (match SG a e 1 (n:Int) with|(a,e)=>pure (a,(1:Int),RS a e 1)) _ _ s
 rw[vJ a e n];show eH _ _ (pure (((sIx n 0 a:Nat):Int),(1:Int),RS ((sIx n 0 a:Nat):Int) ((sIx n n e:Nat):Int) 1)) _ _ s;rw[vB];exact fe h
theorem EH(xs:YD)(i k:Nat):((QG k).filterMap λ(m:Nat)=>xs[((i:Int)+(m:Int)*1).toNat]?).toArray=((xs.toList.drop i).take k).toArray:=by
 have e:(λ(m:Nat)=>xs[((i:Int)+(m:Int)*1).toNat]?)=λm=>xs[i+m]?:=by
  funext m;have:((i:Int)+(m:Int)*1).toNat=i+m:=by lia
  rw[this]
 rw[e];have:=pick_run xs i k;rw[List.filterMap_map]at this;have a:((λx=>xs[x]?) ∘ λx=>i+x)=λm=>xs[i+m]?:=rfl;rw[a]at this;rw[this]
theorem jg{t n:eg}{items:YD}{o p:ay}{b c:Option Int}{Q:YA}(e:XE s.heap t items)(u:s.heap.IsSliceOf n o p .none)(pl:Xq o b)(z:Xq p c)
  (y:¬(sIx items.size 0 b=0/\sIx items.size items.size c=items.size))
  (h:Q (.ref s.heap.objs.size) { s with heap:=s.heap.push { cls:=.type "tuple",data:=.seq ((items.toList.drop<|sIx items.size 0 b).take (sIx items.size items.size c-sIx items.size 0 b)).toArray } })
  (hsz:items.size<=sizeLine):eH (fv prog w) A (Xg (.ref t)<|.ref n) Q E s:=by
 have a:sizeOk (.seq ((items.toList.drop<|sIx items.size 0 b).take (sIx items.size items.size c-sIx items.size 0 b)).toArray):=by
  show ((items.toList.drop<|sIx items.size 0 b).take (sIx items.size items.size c-sIx items.size 0 b)).toArray.size<=sizeLine;rw[Qd,TB,List.length_drop,SW];lia
 have B:sIx items.size items.size c<=items.size:=KQ _ _ (PZ _) c;obtain⟨x,f,g,v⟩:=id u;have i:s.TypeIs (.ref n) "slice":=⟨x,f,g⟩;unfold Xg
 try with_reducible refine pa ?_
 first|refine ax (fe ?_)|skip
 refine ax (wpAny_sequenceKey e.typeIs (by decide) ?_)
 refine ax (wpAny_callSpecial?_slot (name:=QI "__getitem__") e.typeIs Q1
  (nr Q1 e.typeIs entry_tuple_getitem ?_<|args_tuple_getitem _ _))
 show eH _ _ (T5 (.ref t) >>= _) _ _ s;refine ax (tupleItemsOf_ e ?_);refine ax (Tl i ?_);rw[if_pos (by decide)]
 refine ax (eQ u pl z ?_);have j:¬((((sIx items.size 0 b:Nat):Int)==0&&(1:Int)==1&&(sIx items.size items.size c-sIx items.size 0 b)==items.size)=true):=by
  intro q;rw[Q9,Q9]at q;have F:((sIx items.size 0 b:Nat):Int)=0:=eq_of_beq q.1.1;have C:sIx items.size items.size c-sIx items.size 0 b=items.size:=eq_of_beq q.2;exact y ⟨by lia,by lia⟩
 show eH _ _ (if (((sIx items.size 0 b:Nat):Int)==0&&(1:Int)==1&&(sIx items.size items.size c-sIx items.size 0 b)==items.size)=true then _ else _) _ _ s
 rw[if_neg j,EH]
 first
  |exact ax (m:=Rt _) (om (fe ⟨_,rfl,fe h⟩) a)
  |exact ax (m:=Rt _) (om (ax<|wpAny_pure<|wpAny_pure ⟨_,rfl,fe h⟩) a)
  |exact ax (ax (m:=Rt _)<|wpAny_newObj_type (fe<|wpAny_pure ⟨_,rfl,fe h⟩) a)
  |exact ax (ax (m:=Rt _)<|wpAny_newObj_type (fe ⟨_,rfl,fe h⟩) a)
end
end HT
namespace L2
open PySem PySem.Spec PyProof.Rows
variable{a b:eg}{A:kc}{X:Cx}{e o:gl}{H H':Hp}{Ym:YB}{xs:List (List aG×eg×ay)}{Ys:Yw}{n t':Nat}{pos:Pos}{P:fy}{s:el}{Z:St}{α:Type}{u:ay}{E Q:YA}{w:g4}
abbrev TO:=St->Hp->(Option Int->Hp->Prop)->Prop
def PO(X:Cx)(e:Option gl)(t:TO):Prop:=
 ∀(Ym:YB)(s:el)(Z:St)(H:Hp)(Q:Option Int->Hp->Prop),Inv X Ym Z H s->t Z H Q->
  eH (fv X.prog X.w) X.A (evalPart e X.env) (λu c=>∃o H',Inv X Ym Z H' c/\Xq u o/\Q o H') X.xe s
def HY:TO:=λ_ H Q=>Q cm H
def Ps(t:TE):TO:=λZ H Q=>t Z H λx H1=>∃i,x=.int i/\Q (ap i) H1
section
variable{te:TE}{lo hi:Option gl}{tl th:TO}{p2:Pos}
theorem GN:PO X cm HY:=by
 intro Ym s Z H Q I h;rw[evalPart_none];exact fe ⟨cm,H,I,.none,h⟩
theorem G3(h:PE X e te):PO X (ap e) (Ps te):=by
 intro Ym s Z H Q I g;rw[evalPart_some];refine bp (h Ym s Z H _ I g) λu j ⟨x,H1,I1,c,f⟩=>?_;obtain⟨i,rfl,q⟩:=f;obtain⟨t,rfl⟩:=c;exact⟨ap i,H1,I1,.int i t,q⟩
def Oc(X:Cx)(r:V->Option Int->Option Int->Hp->VK->Prop):Prop:=
 ∀(Ym:YB)(s:el)(Z:St)(H:Hp)(x:V)(v vl vu:ay)(lo hi:Option Int)(sl:eg)(Q:VK),Inv X Ym Z H s->RelV x v->s.heap.IsSliceOf sl vl vu .none->Xq vl lo->Xq vu hi->r x lo hi H Q->
  ∃T id,Re (.type T) "__getitem__"=pure (ap<|.builtin id)/\s.TypeIs v T/\eH (fv X.prog X.w) X.A (Xg v<|.ref sl) (EP X Ym Z Q) X.xe s
def tSl(r:V->Option Int->Option Int->Hp->VK->Prop)(te:TE)(tl th:TO):TE:=λZ H Q=>te Z H λx H1=>tl Z H1 λl H2=>th Z H2 λu H3=>r x l u H3 Q
theorem Cg{r:V->Option Int->Option Int->Hp->VK->Prop}(M:Oc X r)(K:PE X e te)(L:PO X lo tl)(J:PO X hi th):PE X (.Subscript e (.Slice lo hi cm p2) pos) (tSl r te tl th):=by
 intro Ym s Z H Q I h;refine Subscript_ (bp (K Ym s Z H _ I h) λv m ⟨x,H1,I1,j,B⟩=>?_);refine wpAny_Slice (bp (L Ym m Z H1 _ I1 B) λg C ⟨l,H2,I2,pl,y⟩=>bp (J Ym C Z H2 _ I2 y) λf c ⟨u,H3,I3,p,z⟩=>?_);rw[evalPart_none];refine fe ?_;have I4:Inv X Ym Z H3 { c with heap:=c.heap.push { cls:=.type "slice",data:=.fields #[g,f,.none] } }:=I3.kept (t':=c.toks) λb N q=>PR _ q;obtain⟨T,id,F,G,i⟩:=M Ym { c with heap:=c.heap.push { cls:=.type "slice",data:=.fields #[g,f,.none] } } Z H3 x v g f l u c.heap.objs.size Q I4 j (Heap.IsSliceOf.new ..) pl p z;show eH (fv X.prog X.w) X.A (subscriptTail e (.Slice lo hi cm p2) v<|.ref c.heap.objs.size) (EP X Ym Z Q) X.xe { c with heap:=c.heap.push { cls:=.type "slice",data:=.fields #[g,f,.none] } };exact tail_any (ops:=[.ref c.heap.objs.size,v]) G F i (by with_unfolding_all rfl)
def kg(xs:List V)(lo hi:Option Int):List V:=(xs.drop<|HT.sIx xs.length 0 lo).take (HT.sIx xs.length xs.length hi-HT.sIx xs.length 0 lo)
theorem jT(xs:List V)(lo hi:Option Int):(kg xs lo hi).length<=xs.length:=by
 unfold kg;rw[TB,List.length_drop];lia
def rSlT(K:PY):V->Option Int->Option Int->Hp->VK->Prop:=λx lo hi H Q=>∃a xs,x=.ref a/\ie K H a xs/\
 ¬(HT.sIx xs.length 0 lo=0/\HT.sIx xs.length xs.length hi=xs.length)/\∀p,H p=cm->Q (.ref p) (upd H p<|.tup<|kg xs lo hi)
theorem MB:Oc X (rSlT X.K):=by
 intro Ym s Z H x v F B lo hi z Q I y m pl p h;obtain⟨a,xs,rfl,i,j,q⟩:=h;cases y;obtain⟨Ys,r,g,f⟩:=I.tuple i;have c:Ys.toArray.size=xs.length:=by rw[Qd];exact r.length.symm
 refine⟨"tuple",_,Q1.lookup,g.typeIs,?_⟩;refine HT.jg g m pl p (by rw[c];exact j) ?_ (by rw[c];exact f)
 rw[c];refine⟨.ref s.heap.objs.size,_,I.laid (t':=s.toks) (o:=.tup (kg xs lo hi)) (λb C q=>PR _ q) (PZ _) ?_,rfl,q _<|I.hok.fresh<|PZ _⟩;exact⟨Qp (jT xs lo hi) f,_,(r.drop<|HT.sIx xs.length 0 lo).take (HT.sIx xs.length xs.length hi-HT.sIx xs.length 0 lo),⟨_,Qg _ rfl,⟨rfl,_,rfl⟩,rfl⟩⟩
def Oj(K:PY):R2:=λx y H Q=>∃a b xs ys,x=.ref a/\y=.ref b/\ie K H a xs/\ie K H b ys/\xs≠[]/\xs.length+ys.length<=sizeLine/\
 (ys=[]->Q (.ref a) H)/\(ys≠[]->∀p,H p=cm->Q (.ref p) (upd H p<|.tup (xs++ys)))
theorem Vals.nil_iff{xs:List V}{us:Yw}(r:Vals xs us):us=[]↔xs=[]:=by
 cases r with
 |nil=>simp
 |cons _ _=>simp
theorem FH:cF X (hG .Add) (Oj X.K):=by
 intro Ym s Z H x y v u Q I C J h;obtain⟨a,b,xs,p,rfl,rfl,m,G,i,f,F,B⟩:=h;cases C;cases J;obtain⟨Ys,c,j,_⟩:=I.tuple m;obtain⟨g,r2,p2,_⟩:=I.tuple G;refine HT.GZ j p2 (λz=>i (c.nil_iff.mp z)) (λz=>⟨.ref a,H,I,rfl,F<|r2.nil_iff.mp z⟩) (λz=>?_) (by rw[<- c.length,<- r2.length];exact f)
 refine⟨.ref s.heap.objs.size,_,I.laid (t':=s.toks) (o:=.tup (xs++p)) (λb L q=>PR _ q) (PZ _) ?_,rfl,B (λw=>z (r2.nil_iff.mpr w)) _<|I.hok.fresh<|PZ _⟩;exact⟨by rw[PX];exact f,_,c.append r2,⟨_,Qg _ rfl,⟨rfl,_,rfl⟩,rfl⟩⟩
end
def rA(n:Nat)(i:Int):Option Nat:=if 0<=i then (if i<n then ap i.toNat else cm) else if -(n:Int)<=i then ap (i+n).toNat else cm
def atI{α:Type}(xs:List α)(i:Int):Option α:=(rA xs.length i).bind λj=>xs[j]?
theorem qI{i:Int}{j:Nat}(h:rA n i=ap j):XY i n=ap j/\j<n/\-(n:Int)<=i/\i<n:=by
 unfold rA at h
 by_cases f:0<=i
 .rw[if_pos f]at h
  by_cases c:i<n
  .rw[if_pos c]at h
   have e:i.toNat=j:=QX h;exact⟨by rw[Yi f c,e],by lia,by lia,c⟩
  .rw[if_neg c]at h;cases h
 .rw[if_neg f]at h
  by_cases c:-(n:Int)<=i
  .rw[if_pos c]at h
   have e:(i+n).toNat=j:=QX h;exact⟨by rw[X6 (by lia) c,e],by lia,c,by lia⟩
  .rw[if_neg c]at h;cases h
theorem pN{xs:List α}{i:Int}{v:α}(h:atI xs i=ap v):∃j,XY i xs.length=ap j/\xs[j]?=ap v/\j<xs.length/\-(xs.length:Int)<=i/\i<xs.length:=by
 unfold atI at h;cases e:rA xs.length i with
 |none=>rw[e]at h;cases h
 |some j=>
  rw[e]at h;obtain⟨c,g,m,f⟩:=qI e;exact⟨j,c,h,g,m,f⟩
def ze(b:gl):Prop:=∀o i,subscripted b eC o i=operate [o,i] (Xg o i)
def IxR(X:Cx)(r:R2):Prop:=
 ∀(value slice:gl)(Ym:YB)(s:el)(Z:St)(H:Hp)(x y:V)(v u:ay)(Q:VK),Inv X Ym Z H s->RelV x v->RelV y u->r x y H Q->
  subscripted slice eC v u=operate [v,u] (Xg v u)->eH (fv X.prog X.w) X.A (subscriptTail value slice v u) (EP X Ym Z Q) X.xe s
def wc(X:Cx)(id:String)(r:V->List V->Hp->VK->Prop):Prop:=
 ∀(Ym:YB)(s:el)(Z:St)(H:Hp)(x:V)(xs:List V)(v:ay)(us:Yw)(Q:VK),Inv X Ym Z H s->RelV x v->Vals xs us->r x xs H Q->
  eH (fv X.prog X.w) X.A (call (.builtin id) (v::us)) (EP X Ym Z Q) X.xe s
section
variable{a b:gl}{ta tb:TE}
theorem IxR.or{r m:R2}(h:IxR X r)(h':IxR X m):IxR X (λx y H Q=>r x y H Q\/m x y H Q):=by
 intro c f Ym s Z H x y v u Q I i j q g;rcases q with q|q
 .exact h c f Ym s Z H x y v u Q I i j q g
 .exact h' c f Ym s Z H x y v u Q I i j q g
theorem OE{r:R2}(p:IxR X r)(i:PE X a ta)(j:PE X b tb)(m:ze b):PE X (.Subscript a b pos) (P8 r ta tb):=by
 intro Ym s Z H Q I h;exact Subscript_ (Mq i j I h λv u c x y H2 I2 g f q=>p a b Ym c Z H2 x y v u Q I2 g f q (m _ _))
def O3(K:PY):R2:=λx y H Q=>∃p xs i v,x=.ref p/\y=.int i/\SqL K H p xs/\atI xs i=ap v/\Q v H
def Pg(K:PY):R2:=λx y H Q=>∃p xs i v,x=.ref p/\y=.int i/\ie K H p xs/\atI xs i=ap v/\Q v H
def P2:R2:=λx y H Q=>∃z i c,x=.str z/\y=.int i/\z.length<=sizeLine/\atI z.cps.toList i=ap c/\Q (.str ⟨#[c]⟩) H
theorem ix_list:IxR X (O3 X.K):=by
 intro f B Ym s Z H x y v u Q I S U h C;obtain⟨p,xs,i,z,rfl,rfl,T,M,q⟩:=h;cases S;obtain⟨t,rfl⟩:=U;obtain⟨Ys,r,pl,W⟩:=I.list T;obtain⟨j,c,R,Y,N,O⟩:=pN M;obtain⟨w,G,m⟩:=r.get R;have J:=r.length;have hn:=fW;have fin:EP X Ym Z Q w s:=⟨z,H,I,m,q⟩
 by_cases F:0<=i
 .have g:i.toNat=j:=by
   rw[Yi F O]at c;exact QX c
  exact item_listR pl.isList F (by lia) (by rw[g];simpa using G) fin C
 .have g:(i+(Ys.toArray.size:Int)).toNat=j:=by
   rw[X6 (by lia) N]at c
   rw[Qd,<- J];exact QX c
  exact X5 (x:=w) pl.isList.typeIs slot_list_getitem.lookup
   (wpAny_getItem_list_neg (Q:=λr L=>r=w/\EP X Ym Z Q r L) pl.isList (by lia) (by rw[Qd]<;>lia) (by lia) (by rw[g];simpa using G) ⟨rfl,fin⟩) C
theorem ix_tup:IxR X (Pg X.K):=by
 intro c g Ym s Z H x y v u Q I L O h m;obtain⟨p,xs,i,z,rfl,rfl,M,F,q⟩:=h;cases L;obtain⟨t,rfl⟩:=O;obtain⟨Ys,r,pl,R⟩:=I.tuple M;obtain⟨j,G,J,U,S,T⟩:=pN F;obtain⟨w,N,f⟩:=r.get J;have B:=r.length;have W:=fW;have fin:EP X Ym Z Q w s:=⟨z,H,I,f,q⟩
 exact X5 (x:=w) pl.typeIs slot_tuple_getitem.lookup
  (getItem_tuple (j:=j) (Q:=λr C=>r=w/\EP X Ym Z Q r C) pl (by lia) (by lia) (by rw[Qd,<- B];exact G) (by simpa using N) ⟨rfl,fin⟩) m
theorem C7:IxR X P2:=by
 intro f g Ym s Z H x y v u Q I K N h F;obtain⟨z,i,c,rfl,rfl,O,M,q⟩:=h;obtain⟨t,rfl⟩:=K;obtain⟨t',rfl⟩:=N;obtain⟨j,m,G,R,B,C⟩:=pN M;have J:z.cps.toList.length=z.length:=by simp[Str.length]
 rw[J]at m B C;have S:=fW;exact tail_any (typeIs_str s z t) slot_str_getitem.lookup (getItem_str (c:=c) (by
  have L:decide (i < -(2 ^ 63:Int))=false:=decide_eq_false (by lia)
  have p:decide (i>=2 ^ 63)=false:=decide_eq_false (by lia)
  rw[L,p,Sk]) (by rw[m];simpa using G) ⟨.str ⟨#[c]⟩,H,I.tok _,⟨_,rfl⟩,q⟩) F
def rIx(K:PY):R2:=λx y H Q=>O3 K x y H Q\/Pg K x y H Q\/P2 x y H Q
theorem J_:IxR X (rIx X.K):=ix_list.or (ix_tup.or C7)
theorem vj(Ys:Yw)(n j:Nat)(u:ay):Ud (·.setIfInBounds j u) { cls:=.type "list",data:=.seq Ys.toArray n }={ cls:=.type "list",data:=.seq (Ys.set j u).toArray n }:=by
 simp[Ud]
theorem Inv.lst{Ym:YB}{Z:St}{H:Hp}{s:el}{p:eg}{xs:List V}(I:Inv X Ym Z H s)(h:H p=ap (.lst xs)):
  ∃(Ys:Yw)(n:Nat),Vals xs Ys/\s.heap.get? p=ap { cls:=.type "list",data:=.seq Ys.toArray n }/\xs.length<=sizeLine:=by
 obtain⟨z,Ys,n,r,e⟩:=I.hok p _ h;exact⟨Ys,n,r,e,z⟩
theorem Inv.lstUpd{p:eg}{xs ys:List V}{its':Yw}{n':Nat}{f:Obj->Obj}(I:Inv X Ym Z H s)(h:H p=ap (.lst xs))(ho:s.heap.get? p=ap { cls:=.type "list",data:=.seq Ys.toArray n })(hf:f { cls:=.type "list",data:=.seq Ys.toArray n }={ cls:=.type "list",data:=.seq its'.toArray n' })(r:Vals ys its')(hz:ys.length<=sizeLine)(t:Nat):
  Inv X Ym Z (upd H p<|.lst ys) { s with heap:=s.heap.update p f,toks:=t }:=by
 have e:(s.heap.update p f).get? p=ap { cls:=.type "list",data:=.seq its'.toArray n' }:=by
  rw[VL f ho (by rw[hf]<;>rfl),hf]
 refine I.write (x:=p) (e:=p) (by rw[h];trivial) (.inl rfl) (λb u hb q=>(Vv _ _<|Qu hb).trans q) ⟨_,e⟩ ?_
 exact⟨hz,its',n',r,e⟩
def Of:V->V->V->Hp->(Hp->Prop)->Prop:=λo i v H Q=>∃p xs k j,o=.ref p/\i=.int k/\H p=ap (.lst xs)/\rA xs.length k=ap j/\Q (upd H p<|.lst<|xs.set j v)
theorem CP:FN X Of:=by
 intro Ym s Z H o i v L N u Q I G C F h;obtain⟨p,xs,k,j,rfl,rfl,y,J,q⟩:=h;cases G;obtain⟨t,rfl⟩:=C;obtain⟨Ys,n,r,g,K⟩:=I.lst y;obtain⟨c,O,x,B⟩:=qI J;have f:=r.length;have M:=fW;have I':Inv X Ym Z (upd H p<|.lst<|xs.set j v) { s with heap:=s.heap.update p (Ud (·.setIfInBounds j u)) }:=
  I.lstUpd y g (vj Ys n j u) (r.set F j) (by rw[RU];exact K) s.toks
 by_cases z:0<=k
 .have m:k.toNat=j:=by
   rw[Yi z B]at c;exact QX c
  exact W.ki_setAt g z (by lia) (by rw[Qd,<- f];exact B) (by rw[m];exact⟨_,I',q⟩)
 .have m:(k+(Ys.toArray.size:Int)).toNat=j:=by
   rw[X6 (by lia) x]at c
   rw[Qd,<- f];exact QX c
  exact W.ki_setBack g (by lia) (by rw[Qd,<- f];exact x) (by lia) (by rw[m];exact⟨_,I',q⟩)
theorem qi(f c:Option Int)(n:Nat):(UF f c cm n).1=((HT.sIx n 0 f:Nat):Int)/\(UF f c cm n).2.1=((HT.sIx n n c:Nat):Int)/\(UF f c cm n).2.2=1:=by
 refine⟨?_,?_,rfl⟩
 .cases f with
  |none=>simp[UF,HT.sIx]
  |some i=>
   simp only[UF,HT.sIx,V5,show (1:Int)>0 by decide,if_true]
   by_cases h:i<0
   .simp only[h,if_true]<;>lia
   .simp only[h,if_false]<;>lia
 .cases c with
  |none=>simp[UF,HT.sIx]
  |some i=>
   simp only[UF,HT.sIx,V5,show (1:Int)>0 by decide,if_true]
   by_cases h:i<0
   .simp only[h,if_true]<;>lia
   .simp only[h,if_false]<;>lia
theorem nO(Ys:Yw)(c f:Option Int):slicePick Ys.toArray c f cm=((Ys.drop<|HT.sIx Ys.length 0 c).take (HT.sIx Ys.length Ys.length f-HT.sIx Ys.length 0 c)).toArray:=by
 obtain⟨g,i,h⟩:=qi c f Ys.toArray.size;unfold slicePick;rw[g,i,h];simp only[sliceRange_one,pick_run,Qd]<;>rfl
def rSlL(K:PY):V->Option Int->Option Int->Hp->VK->Prop:=λx f c H Q=>∃a xs,x=.ref a/\SqL K H a xs/\∀p,H p=cm->Q (.ref p) (upd H p<|.lst<|kg xs f c)
theorem wK:Oc X (rSlL X.K):=by
 intro Ym s Z H x v G C f g B Q I z p pl y h;obtain⟨a,xs,rfl,j,q⟩:=h;cases z;obtain⟨Ys,r,i,m⟩:=I.list j;have c:=r.length;refine⟨"list",_,slot_list_getitem.lookup,i.isList.typeIs,?_⟩;refine wpAny_getItem_list_slice i.isList p pl y .none (by simp) ?_ (by rw[Qd]<;>lia)
 rw[nO,<- c];refine⟨.ref s.heap.objs.size,_,I.laid (t':=s.toks) (o:=.lst (kg xs f g)) (λb F q=>PR _ q) (PZ _) ?_,rfl,q _<|I.hok.fresh<|PZ _⟩;exact⟨Qp (jT xs f g) m,_,0,(r.drop<|HT.sIx xs.length 0 f).take (HT.sIx xs.length xs.length g-HT.sIx xs.length 0 f),Qg _ rfl⟩
def EZ:V->Bool
 |.non=>true
 |.bl _=>true
 |.int _=>true
 |.str _=>true
 |_=>eC
def rl:V->V->Bool
 |.non,.non=>true
 |.bl a,.bl b=>a==b
 |.bl a,.int b=>(if a then 1 else 0)==b
 |.int a,.bl b=>a==(if b then 1 else 0)
 |.int a,.int b=>a==b
 |.str a,.str b=>a==b
 |_,_=>eC
theorem EJ{y x:V}{v:ay}(g:RelV y u)(c:RelV x v)(h:EZ y=true)(f:EZ x=true):TC A s u v (rl y x):=by
 cases y with
 |non=>
  cases g;cases x with
  |non=>cases c;exact SeqAt.EqAt.same _
  |bl b=>cases c;exact SeqAt.EqAt.none_bool b
  |int b=>obtain⟨t,rfl⟩:=c;exact U5 b t
  |str b=>obtain⟨t,rfl⟩:=c;exact U4 b t
  |_=>exact absurd (show eC=true from f) Qq
 |bl a=>
  cases g;cases x with
  |non=>cases c;exact SeqAt.EqAt.bool_none a
  |bl b=>cases c;exact SeqAt.EqAt.bool_bool a b
  |int b=>obtain⟨t,rfl⟩:=c;exact SeqAt.EqAt.bool_int a b t
  |str b=>obtain⟨t,rfl⟩:=c;exact SeqAt.EqAt.bool_str a b t
  |_=>exact absurd (show eC=true from f) Qq
 |int a=>
  obtain⟨t',rfl⟩:=g;cases x with
  |non=>cases c;exact U6 a t'
  |bl b=>cases c;exact SeqAt.EqAt.int_bool a t' b
  |int b=>obtain⟨t,rfl⟩:=c;exact SeqAt.EqAt.int_int a t' b t
  |str b=>obtain⟨t,rfl⟩:=c;exact Vd a t' b t
  |_=>exact absurd (show eC=true from f) Qq
 |str a=>
  obtain⟨t',rfl⟩:=g;cases x with
  |non=>cases c;exact U3 a t'
  |bl b=>cases c;exact SeqAt.EqAt.str_bool a t' b
  |int b=>obtain⟨t,rfl⟩:=c;exact Vc a t' b t
  |str b=>obtain⟨t,rfl⟩:=c;exact SeqAt.EqAt.str_str a t' b t
  |_=>exact absurd (show eC=true from f) Qq
 |_=>exact absurd (show eC=true from h) Qq
theorem pz:bQ X (.builtin "len") (λxs H Q=>∃p ys,xs=[.ref p]/\(SqL X.K H p ys\/ie X.K H p ys)/\Q (.int ys.length) H):=by
 intro Ym s Z H xs j Q I r h;obtain⟨p,ys,rfl,hq,q⟩:=h;obtain⟨u,rfl,i⟩:=iU r;cases i;have m:=fW;rcases hq with hq|hq
 .obtain⟨Ys,f,pl,g⟩:=I.list hq
  have c:=f.length;exact Calls.call_len_list pl.isList (by simp only[Qd]<;>lia) ⟨.int ys.length,H,I.tok _,⟨s.toks+1,by rw[Qd,c]⟩,q⟩
 .obtain⟨Ys,f,pl,g⟩:=I.tuple hq
  have c:=f.length;exact len_tuple pl (by simp only[Qd]<;>lia) ⟨.int ys.length,H,I.tok _,⟨s.toks+1,by rw[Qd,c]⟩,q⟩
theorem qP:bQ X (.builtin "len") (λxs H Q=>∃z,xs=[.str z]/\z.length<=sizeLine/\Q (.int z.length) H):=by
 intro Ym s Z H xs c Q I r h;obtain⟨z,rfl,f,q⟩:=h;obtain⟨u,rfl,t,rfl⟩:=iU r;have g:=fW;exact len_str (by lia) ⟨.int z.length,H,I.tok _,⟨_,rfl⟩,q⟩
theorem r9:bQ X (.type "list") (λxs H Q=>∃p ys,xs=[.ref p]/\(SqL X.K H p ys\/ie X.K H p ys)/\∀l,H l=cm->Q (.ref l) (upd H l<|.lst ys)):=by
 intro Ym s Z H xs z Q I r h;obtain⟨p,ys,rfl,hq,q⟩:=h;obtain⟨u,rfl,y⟩:=iU r;cases y
 have fin:∀(Ys:Yw),Vals ys Ys->ys.length<=sizeLine->∀(c:hI)(f:Nat),(∀b o',s.heap.get? b=ap o'->c.get? b=ap o')->
   c.get? s.heap.objs.size=ap { cls:=.type "list",dict:=cm,data:=.seq Ys.toArray f,slots:=#[] }->EP X Ym Z Q (.ref s.heap.objs.size) { s with heap:=c }:=λYs g j c f kp e=>
  ⟨.ref s.heap.objs.size,_,I.laid (t':=s.toks) kp (PZ _) (show ObjOk X.prog X.w _ c _ (.lst ys) from ⟨j,Ys,f,g,e⟩),rfl,q _<|I.hok.fresh<|PZ _⟩
 rcases hq with hq|hq
 .obtain⟨Ys,g,pl,j⟩:=I.list hq
  have i:=g.length;obtain⟨o,m,x,n,v⟩:=pl.isList;exact call_list_seq p (.inl rfl) m x v (λc f kp e=>fin Ys g j c f kp e) (by simp only[Qd]<;>lia)
 .obtain⟨Ys,g,pl,j⟩:=I.tuple hq
  have i:=g.length;obtain⟨o,m,x,n,v⟩:=pl;exact call_list_seq p (.inr rfl) m x v (λc f kp e=>fin Ys g j c f kp e) (by simp only[Qd]<;>lia)
theorem h9:bQ X (.type "tuple") (λxs H Q=>∃p ys,xs=[.ref p]/\((SqL X.K H p ys/\∀l,H l=cm->Q (.ref l) (upd H l<|.tup ys))\/(ie X.K H p ys/\Q (.ref p) H))):=by
 intro Ym s Z H xs v Q I r h;obtain⟨p,ys,rfl,h⟩:=h;obtain⟨u,rfl,m⟩:=iU r;cases m;rcases h with⟨f,q⟩|⟨f,q⟩
 .obtain⟨Ys,g,pl,j⟩:=I.list f
  have i:=g.length;refine call_tuple_list pl.isList (λc kp=>?_) (by simp only[Qd]<;>lia)
  have I1:Inv X Ym Z H { s with heap:=c }:=I.kept (t':=s.toks) kp;have I2:Inv X Ym Z (upd H c.objs.size<|.tup ys) { s with heap:=c.push { cls:=.type "tuple",data:=.seq Ys.toArray } }:=
   I1.laid (t':=s.toks) (λb o e=>PR _ e) (PZ _) (show ObjOk X.prog X.w _ _ _ (.tup ys) from ⟨j,Ys,g,⟨_,Qg _ rfl,⟨rfl,_,rfl⟩,rfl⟩⟩)
  exact⟨.ref c.objs.size,_,I2,rfl,q _<|I1.hok.fresh<|PZ _⟩
 .obtain⟨Ys,g,pl,j⟩:=I.tuple f
  exact call_tuple_same pl ⟨.ref p,H,I,rfl,q⟩
def tyV(K:PY)(T:String)(x:V)(H:Hp):Prop:=match x with
 |.str _=>T="str"
 |.int _=>T="int"
 |.ref p=>(T="list"/\∃xs,SqL K H p xs)\/(T="tuple"/\∃o,K.lookup p=ap o/\o.cls=.type "tuple"/\o.dict=cm)\/
   (T="dict"/\((∃Yo,H p=ap (.dK Yo))\/∃Yo,H p=ap (.dT Yo)))\/(T="set"/\∃S n,H p=ap (.set S n))
 |_=>False
theorem Co{T:String}{x:V}{v:ay}(I:Inv X Ym Z H s)(r:RelV x v)(ty:tyV X.K T x H):
  s.TypeIs v T/\∀a,v=.ref a->∃q,s.heap.get? a=ap q/\q.dict=none:=by
 cases x with
 |str z=>
  obtain⟨t,rfl⟩:=r;cases (show T="str" from ty);exact⟨typeIs_str s z t,λ_ e=>nomatch e⟩
 |int i=>
  obtain⟨t,rfl⟩:=r;cases (show T="int" from ty);exact⟨typeIs_int s i t,λ_ e=>nomatch e⟩
 |ref p=>
  cases r;rcases ty with⟨rfl,xs,y⟩|⟨rfl,o,f,hc,j⟩|⟨rfl,f⟩|⟨rfl,S,n,f⟩
  .obtain⟨Ys,_,pl,_⟩:=I.list y
   refine⟨pl.isList.typeIs,λa e=>?_⟩;cases e;obtain⟨o,n,e,c,j,_⟩:=pl;exact⟨o,e,j⟩
  .refine⟨⟨o,I.kIn p o f,hc⟩,λa e=>?_⟩
   cases e;exact⟨o,I.kIn _ o f,j⟩
  .have z:∃o,s.heap.get? p=ap o/\o.ExactDict:=by
    rcases f with⟨m,f⟩|⟨m,f⟩
    .obtain⟨_,_,_,_,o,_,_,e,g,_⟩:=I.hok p _ f
     exact⟨o,e,g⟩
    .obtain⟨_,_,_,_,o,_,_,e,g,_⟩:=I.hok p _ f
     exact⟨o,e,g⟩
   obtain⟨o,e,g⟩:=z;refine⟨⟨o,e,g.1⟩,λa h=>?_⟩;cases h;exact⟨o,e,g.2.1⟩
  .obtain⟨o,_,_,_,e,g,_⟩:=I.hok p _ f
   refine⟨⟨o,e,g.1⟩,λa h=>?_⟩;cases h;exact⟨o,e,g.2.1⟩
 |_=>exact Q7 ty
def tBM0(K:PY)(T:String)(r:V->List V->Hp->VK->Prop)(to:TE):TE:=λZ H Q=>to Z H λx H1=>tyV K T x H1/\r x [] H1 Q
def tBM(K:PY)(T:String)(r:V->List V->Hp->VK->Prop)(to:TE)(t:TA):TE:=λZ H Q=>to Z H λx H1=>tyV K T x H1/\t Z H1 λxs H2=>r x xs H2 Q
variable{es:Yy}{to:TE}{t:TA}{name:Str}{Yr Yq:Pos}{T id:String}{r:V->List V->Hp->VK->Prop}
theorem KS(y:Xh T)(f:XV T name id)(g:Xv (.builtin id)=pure (.type "method_descriptor"))(hm:wc X id r)(z:PE X o to)(c:ol o name X.env (g3 o X.env)=g3 o X.env:=by rfl)(hline:(Yr.endLine==Yq.line)=true:=by rfl):PE X (.Call (.Attribute o name Yr) [] [] Yq) (tBM0 X.K T r to):=by
 intro Ym s Z H Q I h;refine wpAny_Call_method0_late c hline (bp (z Ym s Z H _ I h) λv q ⟨x,H1,I1,i,ty,j⟩=>?_);obtain⟨m,p⟩:=Co I1 i ty;exact⟨T,id,y,f,g,m,p,RN rfl<|PySem.evalArgs_none<|hm Ym q Z H1 x [] v [] Q I1 i .nil j⟩
theorem Op(L:Xh T)(f:XV T name id)(g:Xv (.builtin id)=pure (.type "method_descriptor"))(J:wc X id r)(M:PE X o to)(N:PA X (e::es) t)(c:ol o name X.env (g3 o X.env)=g3 o X.env:=by rfl)(hfew:((j0 Yq<|starEach (e::es) X.env).all (λx=>!x.1)&&(z5 Yq<|keywordEach [] X.env).all (λx=>x.1.isSome)
   && decide ((e::es).length+([]:List z0).length+(if ([]:List z0).isEmpty then 0 else 1)<30))=true:=by rfl)(hline:(Yr.endLine==Yq.line)=true:=by rfl)(hs:ff (e::es) X.env=(eC,g3 e X.env)::ff es X.env:=by rfl)(hplain:(j0 Yq<|starEach es X.env).any (·.1)=false:=by rfl):
  PE X (.Call (.Attribute o name Yr) (e::es) [] Yq) (tBM X.K T r to t):=by
 intro Ym s Z H Q I h;refine X4 c hfew hline rfl (bp (M Ym s Z H _ I h) λv q ⟨x,H1,I1,i,ty,C⟩=>?_);obtain⟨m,p⟩:=Co I1 i ty;refine⟨T,id,L,f,g,m,p,?_⟩;have j:=N Yq Ym q Z H1 _ I1 C;rw[hs]at j ⊢;refine RN (by show (eC||(j0 Yq<|starEach es X.env).any (·.1))=eC;rw[hplain]<;>rfl) (R6 ?_)
 exact bp j λB G ⟨F,H2,I2,z,y⟩=>J Ym G Z H2 x F v B Q I2 i z y
end
def MtM(X:Cx)(id:String)(r:V->List V->Hp->VK->Prop):Prop:=
 ∀(Ym:YB)(s:el)(Z:St)(H:Hp)(x:V)(xs:List V)(v:ay)(us:Yw)(Q:VK),Inv X Ym Z H s->RelV x v->Vals xs us->r x xs H Q->
  eH (fv X.prog X.w) X.A (call (.builtin id) (v::us)) (EP X Ym Z Q) X.xe s
theorem Vals.one:∀{x:V}{us:Yw},Vals [x] us->∃u,us=[u]/\RelV x u
 |_,_,h=>by cases h with|cons r q=>cases q;exact⟨_,rfl,r⟩
theorem Vals.two:∀{x y:V}{us:Yw},Vals [x,y] us->∃u v,us=[u,v]/\RelV x u/\RelV y v
 |_,_,_,h=>by cases h with|cons r q=>cases q with|cons q z=>cases z;exact⟨_,_,rfl,r,q⟩
theorem Vals.zero:∀{us:Yw},Vals [] us->us=[]
 |_,.nil=>rfl
theorem Vals.dropLast{xs:List V}{us:Yw}(h:Vals xs us):Vals xs.dropLast us.dropLast:=by
 induction h with
 |nil=>exact .nil
 |cons r t ih=>
  cases t with
  |nil=>exact .nil
  |cons q t'=>exact .cons r ih
theorem Vals.eraseIdx:∀{xs:List V}{us:Yw}(i:Nat),Vals xs us->Vals (xs.eraseIdx i) (us.eraseIdx i)
 |_,_,_,.nil=>.nil
 |_,_,0,.cons _ t=>t
 |_,_,i+1,.cons r t=>.cons r (Vals.eraseIdx i t)
theorem Vals.rep{xs:List V}{us:Yw}(h:Vals xs us):∀k:Nat,Vals (Qz k xs).flatten (Qz k us).flatten
 |0=>.nil
 |k+1=>by
  rw[Q3,Q3,RY,RY];exact Vals.append h (Vals.rep h k)
theorem vh(l:List α):l.eraseIdx (l.length-1)=l.dropLast:=by
 induction l with
 |nil=>rfl
 |cons a r ih=>
  cases r with
  |nil=>rfl
  |cons b r=>
   have e:(a::b::r).length-1=((b::r).length-1)+1:=by
    have c:(a::b::r).length=r.length+2:=rfl;have f:(b::r).length=r.length+1:=rfl;lia
   rw[e,List.eraseIdx_cons_succ,ih]
   all_goals rfl
theorem oj{α:Type}:∀(l:List α)(i:Nat),(l.eraseIdx i).length<=l.length
 |[],_=>PZ _
 |_::_,0=>UL _
 |_::r,i+1=>Nat.succ_le_succ (oj r i)
section
variable{l:eg}{xs ys zs:List V}
theorem Inv.lset{its':Yw}{f:Array ay->Array ay}{t':Nat}(I:Inv X Ym Z H s)(hH:H l=ap (.lst xs))(e:s.heap.get? l=ap { cls:=.type "list",data:=.seq Ys.toArray n })(hf:f Ys.toArray=its'.toArray)(hv:Vals ys its')(hz:ys.length<=sizeLine):
  Inv X Ym Z (upd H l<|.lst ys) { s with heap:=s.heap.update l (Ud f),toks:=t' }:=by
 have q:=PySem.IsL.update e f;rw[hf]at q;refine I.write (x:=l) (e:=l) (by rw[hH];exact trivial) (.inl rfl) (λb' u hb hu=>(Vv s.heap (Ud f)<|Qu hb).trans hu) ⟨_,q⟩ ?_
 exact⟨hz,its',_,hv,q⟩
theorem Inv.lnew{t':Nat}(I:Inv X Ym Z H s)(c:Vals ys Ys)(f:ys.length<=sizeLine):
  Inv X Ym Z (upd H s.heap.objs.size<|.lst ys) { s with heap:=s.heap.push { cls:=.type "list",data:=.seq Ys.toArray },toks:=t' }:=
 I.laid (λ_ _ q=>PR _ q) (PZ _) ⟨f,Ys,0,c,Qg _ rfl⟩
theorem Inv.fresh(I:Inv X Ym Z H s):H s.heap.objs.size=none:=I.hok.fresh (PZ _)
theorem Inv.lstM(I:Inv X Ym Z H s)(c:H l=ap (.lst xs)):xs.length<=sizeLine/\∃(Ys:Yw)(n:Nat),Vals xs Ys/\xs.length=Ys.length/\s.heap.get? l=ap { cls:=.type "list",data:=.seq Ys.toArray n }:=by
 obtain⟨z,Ys,n,r,e⟩:=I.hok l _ c;exact⟨z,Ys,n,r,r.length,e⟩
end
section
def He:V->List V->Hp->VK->Prop:=λx c H Q=>∃l xs y,x=.ref l/\c=[y]/\H l=ap (.lst xs)/\xs.length<sizeLine/\Q .non (upd H l<|.lst (xs++[y]))
theorem Av:MtM X "list.append" He:=by
 intro Ym s Z H x B v p Q I g f h;obtain⟨l,xs,y,rfl,rfl,c,j,q⟩:=h;cases g;obtain⟨u,rfl,i⟩:=f.one;obtain⟨z,Ys,n,r,m,e⟩:=I.lstM c;refine vb SY ⟨_,e,rfl⟩ Ue (T3 _ _) (Uc l Ys.toArray n u<|by rw[Qd];lia) ⟨e,?_⟩
 refine⟨.non,_,I.lset (its':=Ys++[u]) c e (by simp) (r.append<|.cons i .nil) ?_,rfl,q⟩
 rw[PX,Rc];lia
def rPop:V->List V->Hp->VK->Prop:=λx c H Q=>∃l xs y,x=.ref l/\c=[]/\H l=ap (.lst xs)/\xs[xs.length-1]?=ap y/\Q y (upd H l<|.lst xs.dropLast)
theorem Lz:MtM X "list.pop" rPop:=by
 intro Ym s Z H x J v G Q I m i h;obtain⟨l,xs,y,rfl,rfl,g,p,q⟩:=h;cases m;have c:=i.zero;subst c;obtain⟨z,Ys,n,r,j,e⟩:=I.lstM g;obtain⟨u,B,C⟩:=r.get p;have f:Ys.toArray[Ys.toArray.size-1]?=ap u:=by
  show Ys.toArray[Ys.length-1]?=ap u;rw[<- VH,<- j];exact B
 refine vb S6 ⟨_,e,rfl⟩ F.entry_list_pop (F.args_list_pop_1 _) (MeetsSeq.list_pop_last l Ys.toArray n u f<|by rw[Qd];lia) ⟨e,?_⟩
 refine⟨y,_,I.lset (its':=Ys.dropLast) g e ?_ r.dropLast ?_,C,q⟩
 .show Ys.toArray.eraseIdxIfInBounds (Ys.toArray.size-1)=Ys.dropLast.toArray
  rw[Qd,Uw,vh]
 .rw[List.length_dropLast]
  lia
def LU:V->List V->Hp->VK->Prop:=λx c H Q=>∃l xs i k y,x=.ref l/\c=[.int i]/\H l=ap (.lst xs)/\-(2 ^ 63)<=i/\i<2 ^ 63/\XY i xs.length=ap k/\xs[k]?=ap y/\Q y (upd H l<|.lst<|xs.eraseIdx k)
theorem F2:MtM X "list.pop" LU:=by
 intro Ym s Z H x M v L Q I C j h;obtain⟨l,xs,i,k,y,rfl,rfl,f,g,m,p,G,q⟩:=h;cases C;obtain⟨u,rfl,J⟩:=j.one;obtain⟨t,rfl⟩:=J;obtain⟨z,Ys,n,r,B,e⟩:=I.lstM f;obtain⟨w,K,c⟩:=r.get G
 refine vb S6 ⟨_,e,rfl⟩ F.entry_list_pop (F.args_list_pop_2 _ _)
  (MeetsSeq.list_pop_at l Ys.toArray n i t k w (fitsIndex_both g m) (by rw[Qd,<- B];exact p) (by rw[<- VH];exact K)<|by rw[Qd];lia) ⟨e,?_⟩
 refine⟨y,_,I.lset (its':=Ys.eraseIdx k) f e ?_ (r.eraseIdx k) ?_,c,q⟩
 .show Ys.toArray.eraseIdxIfInBounds k=(Ys.eraseIdx k).toArray
  rw[Uw]
 .have:=oj xs k
  lia
theorem Hf(xs:List α)(k:Nat):(Qz k xs).flatten.length=k*xs.length:=by
 induction k with
 |zero=>simp
 |succ k ih=>rw[Q3,RY,PX,ih,Nat.succ_mul,Nat.add_comm]
end
section
variable{prog:fy}
set_option maxRecDepth 100000 in
end
section
end
section
variable{κ:Type}[DecidableEq κ]
def dS(Yo:List (κ×V))(k:κ):Option V:=(Yo.find? λc=>decide (c.1=k)).map (·.2)
def cW(Yo:List (κ×V))(k:κ)(v:V):List (κ×V):=
 if (Yo.any λc=>decide (c.1=k))=true then Yo.map (λc=>if c.1=k then (c.1,v) else c) else Yo++[(k,v)]
def hV(Yo:List (κ×V))(k:κ):List (κ×V):=Yo.filter λc=>decide (c.1≠k)
theorem nG{p:κ×V}{r:List (κ×V)}{k:κ}(e:p.1=k):dS (p::r) k=ap p.2:=by simp[dS,Rb,e]
theorem nD{p:κ×V}{r:List (κ×V)}{k:κ}(e:¬p.1=k):dS (p::r) k=dS r k:=by simp[dS,Rb,e]
theorem rT(k:κ):∀c:List (κ×V),(c.any λkv=>decide (kv.1=k))=(dS c k).isSome
 |[]=>rfl
 |p::r=>by
  rw[RE]
  by_cases e:p.1=k
  .simp only[nG e,decide_eq_true e,TJ,VT]
  .rw[nD e,decide_eq_false e,RF];exact rT k r
theorem fQ(c:List (κ×V))(k:κ)(v:V):(cW c k v).length<=c.length+1:=by
 unfold cW
 split
 .rw[PQ];lia
 .rw[PX,Qe,QN];lia
theorem RelO.isSome_eq{o:Option V}{u:Option ay}(r:RelO o u):o.isSome=u.isSome:=by
 cases o with
 |none=>cases u with
  |none=>rfl
  |some _=>exact(show False from r).elim
 |some _=>cases u with
  |none=>exact(show False from r).elim
  |some _=>rfl
theorem KV.val{c:List (κ×V)}{vs:List (κ×ay)}(r:KV c vs)(k:κ):RelO (dS c k) (Xf vs k):=by
 unfold KV at r
 induction r with
 |nil=>exact RD
 |@cons p q ps qs h t ih=>
  obtain⟨g,i⟩:=h
  by_cases e:p.1=k
  .have f:q.1=k:=g.symm.trans e
   have b:Xf (q::qs) k=ap q.2:=by simp[Xf,Rb,f]
   rw[nG e,b];exact i
  .have f:¬q.1=k:=λz=>e (g.trans z)
   have b:Xf (q::qs) k=Xf qs k:=by simp[Xf,Rb,f]
   rw[nD e,b];exact ih
theorem KV.any{c:List (κ×V)}{vs:List (κ×ay)}(r:KV c vs)(k:κ):(c.any λkv=>decide (kv.1=k))=vs.any λkv=>decide (kv.1=k):=by
 unfold KV at r
 induction r with
 |nil=>rfl
 |cons h t ih=>rw[RE,RE,ih,h.1]
theorem KV.repl{c:List (κ×V)}{vs:List (κ×ay)}(r:KV c vs)(k:κ){y:V}(i:RelV y u):
  KV (c.map λkv=>if kv.1=k then (kv.1,y) else kv) (vs.map λkv=>if kv.1=k then (kv.1,u) else kv):=by
 unfold KV at r ⊢
 induction r with
 |nil=>exact .nil
 |@cons p q ps qs h t ih=>
  rw[PU,PU];refine .cons ?_ ih;obtain⟨f,g⟩:=h
  by_cases e:p.1=k
  .rw[if_pos e,if_pos (f.symm.trans e)];exact⟨f,i⟩
  .rw[if_neg e,if_neg (λz=>e (f.trans z))];exact⟨f,g⟩
theorem KV.put{c:List (κ×V)}{vs:List (κ×ay)}(r:KV c vs)(k:κ){y:V}(f:RelV y u):KV (cW c k y) (Xb vs k u):=by
 unfold cW Xb;rw[r.any k]
 by_cases e:(vs.any λg=>decide (g.1=k))=true
 .rw[if_pos e,if_pos e];exact r.repl k f
 .rw[if_neg e,if_neg e];exact Paired.snoc r ⟨rfl,f⟩
theorem KV.drop{c:List (κ×V)}{vs:List (κ×ay)}(r:KV c vs)(k:κ):KV (hV c k) (without vs k):=by
 unfold KV at r ⊢;unfold hV without
 induction r with
 |nil=>exact .nil
 |@cons p q ps qs h t ih=>
  obtain⟨f,i⟩:=h;rw[QB,QB]
  by_cases e:p.1=k
  .have a:¬decide (p.1≠k)=true:=by simp[e]
   have b:¬decide (q.1≠k)=true:=by simp[f.symm.trans e]
   rw[if_neg a,if_neg b];exact ih
  .have g:¬q.1=k:=λz=>e (f.trans z)
   have a:decide (p.1≠k)=true:=by simp[e]
   have b:decide (q.1≠k)=true:=by simp[g]
   rw[if_pos a,if_pos b];exact .cons ⟨f,i⟩ ih
theorem KV.length{c:List (κ×V)}{vs:List (κ×ay)}(r:KV c vs):c.length=vs.length:=Rn r
theorem Cs(c:List (κ×V))(k:κ):(hV c k).length<=c.length:=QH _ _
end
theorem iL{k:aG}(r:RelV (kV k) u):(aW P w).is k u=true:=by
 cases k with
 |inl i=>obtain⟨t,e⟩:=(show ∃t,u=RQ i t from r);subst e;exact rJ P w i t
 |inr x=>obtain⟨t,e⟩:=(show ∃t,u=Tt x t from r);subst e;exact rM P w x t
theorem oA{P:fy}{w:g4}:∀{ks:List aG}{us:Yw},Vals (ks.map kV) us->ItemsAre (aW P w) ks us
 |[],_,r=>by rw[Qt]at r;cases r;exact .nil
 |k::ks,_,r=>by
  rw[PU]at r;cases r with
  |cons h t=>exact .cons (iL h) (oA t)
abbrev KT(H:Hp):List (List aG×V)->List (List aG×eg×ay)->Prop:=Xi λp q=>p.1=q.1/\H q.2.1=ap (.tup<|p.1.map kV)/\RelV p.2 q.2.2
theorem KT.val{c:List (List aG×V)}(r:KT H c xs)(k:List aG):RelO (dS c k) ((XO xs k).map (·.2)):=by
 induction r with
 |nil=>exact RD
 |@cons p q ps qs h t ih=>
  obtain⟨g,_,i⟩:=h
  by_cases e:p.1=k
  .have f:q.1=k:=g.symm.trans e
   have b:XO (q::qs) k=ap q.2:=by simp[XO,Rb,f]
   rw[nG e,b];exact i
  .have f:¬q.1=k:=λz=>e (g.trans z)
   have b:XO (q::qs) k=XO qs k:=by simp[XO,Rb,f]
   rw[nD e,b];exact ih
theorem KT.repl{c:List (List aG×V)}(r:KT H c xs)(k:List aG){y:V}(j:RelV y u):
  KT H (c.map λkv=>if kv.1=k then (kv.1,y) else kv) (xs.map<|putAt k u):=by
 induction r with
 |nil=>exact .nil
 |@cons p q ps qs h t ih=>
  rw[PU,PU];refine .cons ?_ ih;obtain⟨f,g,i⟩:=h;unfold putAt
  by_cases e:p.1=k
  .rw[if_pos e,if_pos (f.symm.trans e)];exact⟨f,g,j⟩
  .rw[if_neg e,if_neg (λz=>e (f.trans z))];exact⟨f,g,i⟩
theorem KT.put{c:List (List aG×V)}(r:KT H c xs)(k:List aG){y:V}(h:H b=ap (.tup<|k.map kV))(f:RelV y u):
  KT H (cW c k y) (storedH xs k b u):=by
 have e:(c.any λg=>decide (g.1=k))=(XO xs k).isSome:=by
  rw[rT,(r.val k).isSome_eq,Ub]
 unfold cW storedH;rw[e]
 by_cases q:(XO xs k).isSome=true
 .rw[if_pos q,if_pos q];exact r.repl k f
 .rw[if_neg q,if_neg q];exact Paired.snoc r ⟨rfl,h,f⟩
theorem KT.keeps{c:List (List aG×V)}(r:KT H c xs)(f:∀b ys,H b=ap (.tup ys)->H' b=ap (.tup ys)):KT H' c xs:=
 eF r λ_ _ z=>⟨z.1,f _ _ z.2.1,z.2.2⟩
section
variable{h:hI}
theorem Iq{u:HO}(ok:HOk P w H h)(e:Rd H a u):ObjOk P w H h a u:=e.ok ok
theorem iT{c:List (aG×V)}(ok:HOk P w H h)(e:Rd H a (.dK c)):c.length<=sizeLine/\(a==Rs)=eC/\∃vs,KV c vs/\h.DictOf (aW P w) a vs:=
 show ObjOk P w H h a (.dK c) from Iq ok e
theorem DF{c:List (aG×V)}(ok:HOk P w H h)(e:H a=ap (.dK c)):c.length<=sizeLine/\(a==Rs)=eC/\∃vs,KV c vs/\h.DictOf (aW P w) a vs:=iT ok (.inl e)
theorem mW{ks:List aG}(ok:HOk P w H h)(e:H a=ap (.tup<|ks.map kV)):(XW<|aW P w).is h ks a:=by
 obtain⟨_,Ys,r,o,c,⟨f,n,g⟩,_⟩:=(show ObjOk P w H h a (.tup<|ks.map kV) from ok a _ e);exact⟨o,Ys.toArray,n,c,f,g,by simpa using oA r⟩
theorem oO{c:List (List aG×V)}(ok:HOk P w H h)(e:Rd H a (.dT c)):c.length<=sizeLine/\(a==Rs)=eC/\
  ∃xs,KT H c xs/\h.DictOfH (XW<|aW P w) a xs:=by
 obtain⟨z,y,xs,r,o,B,C,f,j,v,g,i⟩:=(show ObjOk P w H h a (.dT c) from Iq ok e);refine⟨z,y,xs,r,o,B,C,f,j,v,g,λx hx=>?_,i⟩;have all:∀{l:List (List aG×V)}{m:List (List aG×eg×ay)},KT H l m->∀x∈m,(XW<|aW P w).is h x.1 x.2.1:=by
  intro l m q
  induction q with
  |nil=>intro x hx;exact nomatch hx
  |@cons p q ps qs hq t ih=>
   intro x hx;rcases Ql.mp hx with e|hx
   .subst e
    exact mW ok (by rw[<- hq.1];exact hq.2.1)
   .exact ih x hx
 exact all r x hx
theorem NS{c:List (List aG×V)}(ok:HOk P w H h)(e:H a=ap (.dT c)):c.length<=sizeLine/\(a==Rs)=eC/\
  ∃xs,KT H c xs/\h.DictOfH (XW<|aW P w) a xs:=oO ok (.inl e)
end
def DGet(H:Hp)(a:eg)(y:V)(r:Option V):Prop:=
 (∃Yo k,Rd H a (.dK Yo)/\y=kV k/\r=dS Yo k)\/∃Yo k b,Rd H a (.dT Yo)/\y=.ref b/\H b=ap (.tup<|k.map kV)/\r=dS Yo k
def DPut(H:Hp)(a:eg)(y v:V)(H':Hp):Prop:=
 (∃Yo k,H a=ap (.dK Yo)/\y=kV k/\Yo.length<sizeLine/\H'=upd H a (.dK<|cW Yo k v))\/
 ∃Yo k b,H a=ap (.dT Yo)/\y=.ref b/\H b=ap (.tup<|k.map kV)/\Yo.length<sizeLine/\H'=upd H a (.dT<|cW Yo k v)
theorem DGet.k{H:Hp}{a:eg}{c:List (aG×V)}{k:aG}(e:H a=ap (.dK c)):DGet H a (kV k) (dS c k):=.inl ⟨c,k,.inl e,rfl,rfl⟩
theorem DGet.t{c:List (List aG×V)}{k:List aG}(e:H a=ap (.dT c))(f:H b=ap (.tup<|k.map kV)):DGet H a (.ref b) (dS c k):=.inr ⟨c,k,b,.inl e,rfl,f,rfl⟩
theorem DPut.k{H:Hp}{a:eg}{c:List (aG×V)}{k:aG}{v:V}(e:H a=ap (.dK c))(f:c.length<sizeLine):DPut H a (kV k) v (upd H a<|.dK<|cW c k v):=.inl ⟨c,k,e,rfl,f,rfl⟩
theorem DPut.t{c:List (List aG×V)}{k:List aG}{v:V}(e:H a=ap (.dT c))(f:H b=ap (.tup<|k.map kV))(g:c.length<sizeLine):
  DPut H a (.ref b) v (upd H a<|.dT<|cW c k v):=.inr ⟨c,k,b,e,rfl,f,g,rfl⟩
section
variable{y v:V}{r:ay}{o:Option V}
theorem Inv.big(I:Inv X Ym Z H s):Rs<s.heap.objs.size:=by
 have h:fx<s.heap.objs.size:=(I.mod.glob.keeps I.bk).lt;exact Uu (by decide) h
theorem p8(J:A.units+1<rc)(I:Inv X Ym Z H s)(g:DGet H a y (ap v))(B:RelV y u)(h:∀w' s',Inv X Ym Z H s'->RelV v w'->Q w' s'):
  eH (fv X.prog X.w) A (Xg (.ref a) u) Q E s:=by
 rcases g with⟨x,k,e,q,l⟩|⟨x,k,b,e,q,eb,l⟩
 .subst q
  obtain⟨z,G,F,f,j⟩:=iT I.hok e;obtain⟨w',m,c⟩:=dA (v:=v) (o:=Xf F k) (by rw[l];exact f.val k)
  exact wpAny_getItem_of (iL B) j.mapOf m (h w' _ (I.tok _) c)
 .subst q
  cases (show u=Qs b from B);obtain⟨z,G,xs,f,j⟩:=oO I.hok e;obtain⟨w',m,c⟩:=dA (v:=v) (o:=(XO xs k).map (·.2)) (by rw[l];exact f.val k)
  obtain⟨p,C,i⟩:=Tz.mp m;refine wpAny_getItem_heap (W1 J) (mW I.hok eb) j C ?_;rw[i];exact h w' _ (I.tok _) c
theorem Pc(x:A.units+1<rc)(I:Inv X Ym Z H s)(g:DGet H a y o)(p:RelV y u)(h:∀s',Inv X Ym Z H s'->Q (.bool o.isSome) s'):
  eH (fv X.prog X.w) A (mu .In u<|.ref a) Q E s:=by
 rcases g with⟨m,k,e,i,l⟩|⟨m,k,b,e,i,eb,l⟩
 .subst i
  obtain⟨z,j,B,c,f⟩:=iT I.hok e;refine wpAny_in_of (iL p) j f.mapOf ?_;rw[<- (c.val k).isSome_eq,<- l];exact h _ (I.tok _)
 .subst i
  cases (show u=Qs b from p);obtain⟨z,j,xs,c,f⟩:=oO I.hok e;refine wpAny_in_heap (W1 x) (mW I.hok eb) j f ?_;have q:=(c.val k).isSome_eq;rw[Ub]at q;rw[<- q,<- l];exact h _ (I.tok _)
theorem wj(x:A.units+1<rc)(I:Inv X Ym Z H s)(g:DGet H a y o)(p:RelV y u)(h:∀s',Inv X Ym Z H s'->Q (.bool<|!o.isSome) s'):
  eH (fv X.prog X.w) A (mu .NotIn u<|.ref a) Q E s:=by
 rcases g with⟨m,k,e,i,l⟩|⟨m,k,b,e,i,eb,l⟩
 .subst i
  obtain⟨z,j,B,c,f⟩:=iT I.hok e;refine wpAny_notIn_of (iL p) j f.mapOf ?_;rw[<- (c.val k).isSome_eq,<- l];exact h _ (I.tok _)
 .subst i
  cases (show u=Qs b from p);obtain⟨z,j,xs,c,f⟩:=oO I.hok e;refine wpAny_notIn_heap (W1 x) (mW I.hok eb) j f ?_;have q:=(c.val k).isSome_eq;rw[Ub]at q;rw[<- q,<- l];exact h _ (I.tok _)
theorem rf{h':hI}{t':Nat}{c:HO}(I:Inv X Ym Z H s)(h:Nq (H a))(i:RO a s.heap h')(g:∃q,h'.get? a=ap q)(new:ObjOk X.prog X.w (upd H a c) h' a c):
  Inv X Ym Z (upd H a c) { s with heap:=h',toks:=t' }:=
 I.write (x:=a) (e:=a) h (.inl rfl) (λb q f z=>(i.2 b f).trans z) g new
theorem mJ{h':hI}{c:List (aG×V)}{vs:List (aG×ay)}(z:c.length<=sizeLine)(g:(a==Rs)=eC)(f:KV c vs)(dd:h'.DictOf (aW P w) a vs):
  ObjOk P w H' h' a (.dK c):=⟨z,g,vs,f,dd⟩
theorem oN{Q:Unit->el->Prop}(hu:A.units+1<rc)(I:Inv X Ym Z H s)(g:DPut H a y v H')(N:RelV y u)(M:RelV v r)(h:∀s',Inv X Ym Z H' s'->Q () s'):
  eH (fv X.prog X.w) A (XF (.ref a) u r) Q E s:=by
 rcases g with⟨f,k,e,F,l,C⟩|⟨f,k,b,e,F,eb,l,C⟩
 .subst F C
  obtain⟨z,G,U,i,J⟩:=DF I.hok e;have p:U.length<=sizeLine:=by rw[<- i.length];exact z
  have B:(cW f k v).length<=sizeLine:=by have:=fQ f k v;lia
  refine wpAny_setItem_pairs (hsz:=p) (iL N) J λL j x=>h _ ?_;have Y:∃q,L.get? a=ap q:=let ⟨q,_,_,m,_⟩:=j;⟨q,m⟩;exact rf I (by rw[e];exact RD) x Y (mJ B G (i.put k M) j)
 .subst F C
  cases (show u=Qs b from N);obtain⟨z,G,xs,i,J⟩:=NS I.hok e;have p:xs.length<=sizeLine:=by rw[<- Rn i];exact z
  have B:(cW f k v).length<=sizeLine:=by have:=fQ f k v;lia
  refine wpAny_setItem_heap (hsz:=p) (W1 hu) (mW I.hok eb) J λL j x=>h _ ?_;obtain⟨q,W,ep,m,S,T,O,_,R⟩:=j;refine rf I (by rw[e];exact RD) x ⟨q,m⟩ ⟨B,G,_,(i.put k eb M).keeps λc ys K=>?_,q,W,ep,m,S,T,O,R⟩
  rw[aK (Pm K e λz=>nomatch z)];exact K
end
section
variable{Yo:List (aG×V)}{k:aG}
theorem Jt{v:V}{more:Yw}(I:Inv X Ym Z H s)(e:H a=ap (.dK Yo))(j:RelV (kV k) u)(l:dS Yo k=ap v)(y:more=[]\/∃x,more=[x])(h:∀w' s',Inv X Ym Z (upd H a<|.dK<|hV Yo k) s'->RelV v w'->Q w' s'):eH (fv X.prog X.w) A (call (.builtin "dict.pop") (.ref a::u::more)) Q E s:=by
 obtain⟨z,M,p,c,m⟩:=DF I.hok e;obtain⟨w',K,g⟩:=dA (v:=v) (o:=Xf p k) (by rw[<- l];exact c.val k)
 have B:(keyPart u).isSome=true:=by
  cases k with
  |inl i=>obtain⟨t,q⟩:=(show ∃t,u=RQ i t from j);subst q;rfl
  |inr x=>obtain⟨t,q⟩:=(show ∃t,u=Tt x t from j);subst q;rfl
 have J:XQ "dict.pop" ⟨.ref a::u::more,[]⟩:=by
  rcases y with q|⟨x,q⟩
  .subst q;exact PySem.F.args_dict_pop_2 _ _
  .subst q;exact UZ _ _ _
 refine call_meetsIn Sw m.typeIs U7 J (meets_dict_pop_there (aW X.prog X.w) a (iL j) more y B)
  ⟨p,w',m,by rw[<- c.length];exact z,K,λG f C=>h w' _ ?_ g⟩
 have L:∃q,G.get? a=ap q:=let ⟨q,_,_,hq,_⟩:=f;⟨q,hq⟩;exact rf I (by rw[e];exact RD) C L (mJ (Qp (Cs Yo k) z) M (c.drop k) f)
theorem KR{r:ay}(I:Inv X Ym Z H s)(e:H a=ap (.dK Yo))(f:RelV (kV k) u)(l:dS Yo k=cm)(h:∀s',Inv X Ym Z H s'->Q r s'):
  eH (fv X.prog X.w) A (call (.builtin "dict.pop") [.ref a,u,r]) Q E s:=by
 obtain⟨z,v,g,c,j⟩:=DF I.hok e;have p:Xf g k=none:=jo (by rw[<- l];exact c.val k)
 have m:(keyPart u).isSome=true:=by
  cases k with
  |inl i=>obtain⟨t,q⟩:=(show ∃t,u=RQ i t from f);subst q;rfl
  |inr x=>obtain⟨t,q⟩:=(show ∃t,u=Tt x t from f);subst q;rfl
 exact call_meetsIn Sw j.typeIs U7 (UZ _ _ _) (meets_dict_pop_default (aW X.prog X.w) a (iL f) v m r) ⟨g,j,p,h _<|I.tok _⟩
theorem Nc(I:Inv X Ym Z H s)(e:Rd H a (.dK Yo))(h:∀t s',Inv X Ym Z H s'->Q (.int Yo.length t) s'):eH (fv X.prog X.w) A (call (.builtin "len") [.ref a]) Q E s:=by
 obtain⟨z,g,i,c,f⟩:=iT I.hok e;refine call_len_dict g f (by rw[<- c.length];rw[XD]at z;lia) ?_
 rw[<- c.length];exact h _ _ (I.tok _)
end
theorem rW{y:V}{o:Option V}(I:Inv X Ym Z H s)(g:DGet H a y o):s.TypeIs (.ref a) "dict":=by
 rcases g with⟨f,k,e,_,_⟩|⟨f,k,b,e,_,_,_⟩
 .obtain⟨_,_,h,_,c⟩:=iT I.hok e
  exact c.typeIs
 .obtain⟨_,_,xs,_,c⟩:=oO I.hok e
  exact c.typeIs
section
variable{i value:gl}{pos' tpos:Pos}{td ty tv:TE}
end
section
end
structure M1(X:Cx)(o:gl)(m:Str)(Yr:Pos)(e:gl)(Yq:Pos):Prop where
 base:ol o m X.env (g3 o X.env)=g3 o X.env
 few:((j0 Yq<|starEach [e] X.env).all (λx=>!x.1)&&(z5 Yq<|keywordEach [] X.env).all (λx=>x.1.isSome)
  && decide (([e]:Yy).length+([]:List z0).length+(if ([]:List z0).isEmpty then 0 else 1)<30))=true
 line:(Yr.endLine==Yq.line)=true
 trees:j0 Yq (ff [e] X.env)=[(eC,g3 e X.env)]
structure M2(X:Cx)(o:gl)(m:Str)(Yr:Pos)(e f:gl)(Yq:Pos):Prop where
 base:ol o m X.env (g3 o X.env)=g3 o X.env
 few:((j0 Yq<|starEach [e,f] X.env).all (λx=>!x.1)&&(z5 Yq<|keywordEach [] X.env).all (λx=>x.1.isSome)
  && decide (([e,f]:Yy).length+([]:List z0).length+(if ([]:List z0).isEmpty then 0 else 1)<30))=true
 line:(Yr.endLine==Yq.line)=true
 trees:j0 Yq (ff [e,f] X.env)=[(eC,g3 e X.env),(eC,g3 f X.env)]
def IsD(H:Hp)(a:eg):Prop:=(∃Yo,Rd H a (.dK Yo))\/∃Yo,Rd H a (.dT Yo)
theorem C2(I:Inv X Ym Z H s)(d:IsD H a):
  s.TypeIs (.ref a) "dict"/\(∀b,Qs a=.ref b->∃c,s.heap.get? b=ap c/\c.dict=cm)/\(a==Rs)=false:=by
 rcases d with⟨j,e⟩|⟨j,e⟩
 .obtain⟨_,i,m,_,f⟩:=iT I.hok e
  refine⟨f.typeIs,λb q=>?_,i⟩;cases q;obtain⟨c,_,_,g,h,_⟩:=f;exact⟨c,g,h.2.1⟩
 .obtain⟨_,i,xs,_,f⟩:=oO I.hok e
  refine⟨f.typeIs,λb q=>?_,i⟩;cases q;obtain⟨c,_,_,g,h,_⟩:=f;exact⟨c,g,h.2.1⟩
section
variable{y d:V}{r:ay}{o:Option V}
end
def LW(td ty:TE):TE:=λZ H Q=>td Z H λx H1=>∃a,x=.ref a/\IsD H1 a/\ty Z H1 λy H2=>∃Yo k v,H2 a=ap (.dK Yo)/\y=kV k/\dS Yo k=ap v/\Q v (upd H2 a<|.dK<|hV Yo k)
def Mo(td ty tx:TE):TE:=λZ H Q=>td Z H λx H1=>∃a,x=.ref a/\IsD H1 a/\ty Z H1 λy H2=>tx Z H2 λz H3=>∃Yo k,H3 a=ap (.dK Yo)/\y=kV k/\
 (∀v,dS Yo k=ap v->Q v (upd H3 a<|.dK<|hV Yo k))/\(dS Yo k=cm->Q z H3)
section
variable{f:gl}{Yr Yq:Pos}{td ty tx:TE}
theorem De(K:PE X o td)(L:PE X e ty)(m:M1 X o "pop" Yr e Yq):PE X (.Call (.Attribute o "pop" Yr) [e] [] Yq) (LW td ty):=by
 intro Ym s Z H Q I h;refine wpAny_Call_method m.base m.few m.line UY Sw Vf (bp (K Ym s Z H _ I h) λu j ⟨x,H1,I1,z,a,i,d,C⟩=>?_);subst i;obtain rfl:u=Qs a:=z;obtain⟨g,G,_⟩:=C2 I1 d;refine⟨g,G,?_⟩;rw[m.trees];refine RN rfl (R6<|RM (bp (L Ym j Z H1 _ I1 C) λO N ⟨y,H2,I2,J,B,k,v,F,p,l,q⟩=>Sv ?_));subst p;exact Jt I2 F J l (.inl rfl) λM R I3 c=>⟨v,_,I3,c,q⟩
theorem BU(U:PE X o td)(T:PE X e ty)(W:PE X f tx)(m:M2 X o "pop" Yr e f Yq):PE X (.Call (.Attribute o "pop" Yr) [e,f] [] Yq) (Mo td ty tx):=by
 intro Ym s Z H Q I h;refine wpAny_Call_method m.base m.few m.line UY Sw Vf (bp (U Ym s Z H _ I h) λu N ⟨x,H1,I1,R,a,q,d,S⟩=>?_);subst q;obtain rfl:u=Qs a:=R;obtain⟨p,B,_⟩:=C2 I1 d;refine⟨p,B,?_⟩;rw[m.trees];refine RN rfl (R6<|RM (bp (T Ym N Z H1 _ I1 S) λY J ⟨y,H2,I2,j,O⟩=>
  RM (bp (W Ym J Z H2 _ I2 O) λC s3 ⟨z,H3,I3,K,g,k,i,F,G,L⟩=>Sv ?_)))
 subst F;cases l:dS g k with
 |some v=>exact Jt I3 i j l (.inr ⟨C,rfl⟩) λw' M I4 c=>⟨v,_,I4,c,G v l⟩
 |none=>exact KR I3 i j l λM I4=>⟨z,H3,I4,K,L l⟩
end
section
variable{Yo:List (aG×V)}
theorem D6(I:Inv X Ym Z H s)(e:Rd H a (.dK Yo))(h:∀p s',H p=cm->Inv X Ym Z (upd H p<|.dK Yo) s'->Q (.ref p) s'):eH (fv X.prog X.w) A (call (.type "dict") [.ref a]) Q E s:=by
 obtain⟨z,m,v,c,i⟩:=iT I.hok e;refine kt_call_dict m i (by rw[<- c.length];exact z) λx f j=>?_
 refine h _ _ (I.hok.fresh<|PZ _) (I.laid (a:=s.heap.objs.size) (o:=.dK Yo) (t':=s.toks) (λb q g=>?_) (PZ _)<|mJ z (beq_eq_false_iff_ne.mpr<|Qu<|Qk I.big) c f);exact(j.2 b<|Qk<|Qb g).trans (PR _ g)
end
section
variable{y:V}
end
end L2
namespace Att
open PySem PySem.W PySem.Calls PyProof.Rows
theorem kd{P:Params}{h:hI}:∀(c:Yu)(vs:Yw),WellAll P h vs (c.map WData.int)->Yb vs c:=by
 intro c
 induction c with
 |nil=>
  intro vs w;rw[Qt]at w;cases w;exact .nil
 |cons n c ih=>
  intro vs w;rw[PU]at w;cases w with
  |cons a b=>
   cases a;exact .cons _ _ (ih _ b)
theorem Bf{l:OpenLaw}{n:Nat}(w:l.most=ap n){P:Params}{h:hI}{args:List WData}{e:Yw}
  (c:l.row.toRowW.claim.pre args=true) (m:WellAll P h e args):
  ∃a vs b,e=[Qs a]/\args=[WData.list (b.map WData.int)]/\h.get? a=ap { cls:=.type "list",data:=.seq vs.toArray }/\Yb vs b/\b.length<=n:=by
 have j:WShape.hasAll [] args [.list .int]=true:=(pre_splitW c).1;have o:l.pre.holds [] { args:=args }=true:=(pre_splitW c).2;obtain⟨d,r,rfl,p,u⟩:=hasAllW_cons j;obtain rfl:=hasAllW_nil u;obtain⟨x,rfl,v⟩:=hasW_list p;obtain⟨b,rfl⟩:=items_int v;have f:b.length<=n:=by
  unfold OpenLaw.pre at o;have g:(WTm.not<|.lt (.lit<|.int (n:Int))<|.len<|.arg 0).holds [] { args:=[.list (b.map .int)] }=true:=by
   have g:=(holds_andW o).1;rw[w]at g;exact g
  have i:=condW_of g (w_not<|w_lt w_lit<|w_len_list<|w_arg rfl);rw[PQ]at i;refine Nat.le_of_not_lt λq=>?_;have s:(n:Int)<((b.length:Nat):Int):=by lia
  first
   |(rw[decide_eq_true s]at i;exact absurd i (by decide))
   |(simp at i;lia)
 cases m with
 |cons w1 w2=>
  cases w2;cases w1 with
  |list ho hall=>exact⟨_,_,b,rfl,rfl,ho,kd b _ hall,f⟩
theorem B0(l:OpenLaw)(args:List WData):l.row.toRowW.claim.post args (.bool true) args=true:=
 postW_of (r:=l.row.toRowW) (X:=(true==true))
  (show WShape.has [] (.bool true) .bool=true by first|rfl|decide|simp[WShape.has,WShape.arms,WShape.armsAll])
  (show (WTm.eq .res<|.lit<|.bool true).value [] { args:=args,res:=ap (.bool true),after:=args }=ap (.bool (true==true)) from w_eq_bool (w_res rfl) w_lit) rfl
theorem tu{l:OpenLaw}{n:Nat}{q:fy}{loose:Yv}{XP:(Str->Option ay)->hI->Prop}{YP:g4->hI->Prop}{d:DefRec}
  (T:l.most=ap n) (A:d.params.defaults=[])
  (call:∀(w:g4)(c b:el)(u B:YC)(fa:eg)(o:Obj)(z p g:ay)(a:eg)(vs:Yw)(s:Yu),
   Ground q loose [] XP w c u B b.heap->YP w b.heap->
   b.heap.get? fa=ap o->o.data=.func (docDef d.name d.params d.body d.scope z p g)->b.heap.CodeRec p d.name->u d.name=ap (.ref fa)->
   b.heap.get? a=ap { cls:=.type "list",data:=.seq vs.toArray }->Yb vs s->s.length<=n->b.gens=#[]->
   SZ (fv l.prog w) Xy (.call (.ref fa) ⟨[.ref a],[]⟩) (λr m=>r=.ok (.ret<|.bool true)/\OldK b.heap m.heap/\m.os=b.os/\W9 m.gens) b):
  WalkO q loose XP YP l.row.toRowW d [] (λf vs=>VW f vs):=by
 intro w c b u B G Y fa o z p g P kV N R x E y J F H U h C I v L;obtain rfl:P=.none:=Dflts.none E A;obtain rfl:kV=.none:=Dflts.noKw E;obtain⟨a,vs,s,rfl,rfl,i,e,j⟩:=Bf T h v;refine enter_call (TW (call w c b u B fa o z p g a vs s G Y N (fd_plain R) x y i e j J) λr m S=>?_);obtain⟨rfl,O,Q,M⟩:=S;exact⟨.inl ⟨.bool true,.bool true,[],rfl,λ_=>rfl,.bool true,B0 l _,λ_=>⟨List.Pairwise.nil,λ_ K=>(nomatch K)⟩⟩,O,Q,M⟩
section
variable {prog:fy}{w:g4}{A:kc}{E:YA}{s:el}{K:Frag}
end
end Att
namespace L2
open PySem PySem.Spec PyProof.Rows
variable{T a i1 i2 it l1 l2 z:eg}{A:kc}{items xs ys:YD}{b b1 b2 f1:Bool}{X:Cx}{h h':hI}{H:Hp}{Ym:YB}{fp:Yx}{i k1 k2 t':Nat}{oT:Obj}{K:PY}{pos:Pos}{P prog:fy}{scope:SB}{s:el}{Z:St}{x y:ay}{E Q:YA}{w:g4}
theorem oW:∀{vs:Yw}{c:Yu},Yb vs c->Vals (c.map V.int) vs
 |_,_,.nil=>.nil
 |_,_,.cons n t h=>.cons ⟨t,rfl⟩ (oW h)
def EC(H:Hp):Prop:=∀b,H b=cm\/∃o xs,H b=ap (.frz o<|.lst xs)
theorem DU{S mb:YC}{CX:oh}{k:Nat}{fa:eg}{fd:g5}{x:Str}{sp:Sp}{c:el}{vs:Yw}{ns:Yu}(KX:K.In c.heap)(R:c.heap.Ns fx S)(g:c.heap.Ns XM mb)(hbb:∀x:Str,x≠"__name__"->mb x=gp x)(O:c.heap.NoLimit)(hg:c.gens=#[])(U:c.heap.get? a=ap { cls:=.type "list",data:=.seq vs.toArray })(hi:Yb vs ns)(hl:ns.length<=sizeLine)(hr:Room k Xy)(F:∀base:hI,K.In base->base.Ns fx S->FnOk P w K S base CX k fa fd [x] sp)(hbind:∀(s:el)(u:ay),XG s fd ⟨[u],[]⟩ [(x,u)])(hsp:∀H:Hp,EC H->SqL K H a (ns.map V.int)->sp [.ref a] H (λv _=>v=.bl true) λ_ _ _=>False)(hCX:∀H e j,CX [] H c (λ_ _ _=>False) e j->False):
  SZ (fv P w) Xy (.call (.ref fa) ⟨[.ref a],[]⟩) (λr j=>r=.ok (.ret<|.bool true)/\OldK c.heap j.heap/\j.os=c.os/\W9 j.gens) c:=by
 have rv:=oW hi;have M:=hi.length
 -- from an abstract heap in which nothing but the script may be tracked
 have p:∀H:Hp,EC H->SqL K H a (ns.map V.int)->HOk P w H c.heap->(∀b,H b≠cm->b=a)->(H a≠cm->K.lookup a=cm)->
   SZ (fv P w) Xy (.call (.ref fa) ⟨[.ref a],[]⟩) (λr j=>r=.ok (.ret<|.bool true)/\OldK c.heap j.heap/\j.os=c.os/\W9 j.gens) c:=by
  intro H hO hS I hA hK;have f:∀{b:eg}{o:Obj},c.heap.get? b=ap o->H b=cm->(qf c.heap H).get? b=ap o:=λe n=>Cc e n;have Y:∀{b:eg}{o:Obj}{C:Array X2}{J:Nat},c.heap.get? b=ap o->o.data=.dict C J->H b=none:=λ{b o C J} e d=>by
   cases q:H b with
   |none=>rfl
   |some u=>
    have e':b=a:=hA b (by rw[q];simp)
    subst e';rw[U]at e;cases e;have d':Data.seq vs.toArray _=Data.dict C J:=d;cases d'
  have nsK:∀{b:eg}{m:YC},c.heap.Ns b m->(qf c.heap H).Ns b m:=λ{b m} ⟨o,C,J,e,d,r⟩=>⟨o,C,J,f e (Y e d),d,r⟩;have N:K.In (qf c.heap H):=λb o e=>f (KX b o e) (by
   cases q:H b with
   |none=>rfl
   |some u=>
    have e':b=a:=hA b (by rw[q];simp)
    subst e';rw[hK (by rw[q];simp)]at e;cases e)
  have hM:Mod K S (qf c.heap H):=⟨N,nsK R,⟨mb,nsK g,hbb⟩,let ⟨mc,h1,h2⟩:=O;⟨mc,nsK h1,h2⟩⟩;have e0:Env0 P w K S (qf c.heap H) Xy [] c H:=⟨rfl,hM,λb o e=>Hk e,VP (B2 _ _),trivial,λb g=>absurd (show b∈([]:Yx) from g) (by simp),I,.of_eq hg⟩
  refine TW ((F _ N<|nsK R).run Xy [] c H ⟨[.ref a],[]⟩ [.ref a] [.ref a] _ _ hr e0 (hbind c<|.ref a) (.cons rfl .nil)<|hsp H hO hS) λr j h=>?_;cases r with
  |error e=>exact(hCX H e j h).elim
  |ok fl=>
   cases fl with
   |next=>exact Q7 h
   |brk=>exact Q7 h
   |cont=>exact Q7 h
   |ret u=>
    obtain⟨v,H',os,G,un,L,r',q⟩:=h;have q':v=.bl true:=q;subst q';obtain rfl:u=R5 true:=r';refine⟨rfl,OldK.of_keep λb o e=>?_,os,G⟩;cases q:H b with
    |none=>exact un.keep b o e q (by intro z;exact absurd (show b∈([]:Yx) from z) (by simp)) (by simp)
    |some u=>
     rcases hO b with z|⟨ob,xs,z⟩
     .rw[q]at z;cases z
     .have z2:=un.frzs b ob _ z
      obtain⟨e1,_⟩:=I b _ z;obtain⟨e2,_⟩:=L b _ z2;rw[e]at e1;cases e1;exact e2
 cases W:K.lookup a with
 |some o=>
  -- the script is one of the module's own objects
  have e:=KX a o W;rw[U]at e;cases e;refine p (λ_=>cm) (λ_=>.inl rfl) (.inr ⟨_,vs.toArray,_,W,rfl,rfl,rfl,by rw[Qd,M];exact hl,by simpa using rv⟩) (λb u z=>by have B:(none:Option HO)=ap u:=z;cases B) (λb z=>absurd rfl z) λz=>absurd rfl z
 |none=>
  refine p (λb=>if b=a then ap (.frz { cls:=.type "list",data:=.seq vs.toArray }<|.lst<|ns.map V.int) else cm) (λb=>?_) (.inl<|.inr ⟨{ cls:=.type "list",data:=.seq vs.toArray },if_pos rfl⟩) (λb u z=>?_) (λb z=>?_) λ_=>W
  .by_cases g:b=a
   .exact .inr ⟨_,_,if_pos g⟩
   .exact .inl (if_neg g)
  .by_cases g:b=a
   .have B:=(if_pos g).symm.trans z
    cases B;subst g;exact⟨U,by rw[PQ];exact hl,vs,_,rv,U⟩
   .have B:=(if_neg g).symm.trans z
    cases B
  .by_cases g:b=a
   .exact g
   .exact absurd (if_neg g) z
theorem GJ{l:W.OpenLaw}{n k:Nat}{q:fy}{loose:Yv}{XP:(Str->Option ay)->hI->Prop}{YP:g4->hI->Prop}{d:DefRec}{K:Params->PY}{CX:g4->oh}{sp:g4->Sp}{x:Str}(hn:l.most=ap n)(L:n<=sizeLine)(N:d.params.defaults=[])(hr:Room k Xy)(hY:∀(w:g4)(h:hI),YP w h->(K w.params).In h)(F:∀(w:g4)(p:YC)(fa:eg)(h:hI),(K w.params).In h->h.Ns fx p->p d.name=ap (.ref fa)->
   ∃fd:g5,(∀(s:el)(u:ay),XG s fd ⟨[u],[]⟩ [(x,u)])/\
    ∀c:hI,(K w.params).In c->c.Ns fx p->FnOk l.prog w (K w.params) p c (CX w) k fa fd [x] (sp w))(M:∀(w:g4)(H:Hp)(a:eg)(I:Yu),I.length<=n->EC H->SqL (K w.params) H a (I.map V.int)->sp w [.ref a] H (λv _=>v=.bl true) λ_ _ _=>False)(O:∀(w:g4)(H:Hp)(s:el)(e:ay)(s':el),CX w [] H s (λ_ _ _=>False) e s'->False):
  W.WalkO q loose XP YP l.row.toRowW d [] (λf vs=>VW f vs):=by
 refine Att.tu hn N λw R B p mb fa o pm cd U a vs I G Y ho hd hcd J C m j S=>?_;have KX:=hY w _ Y;obtain⟨fd,hb,hF⟩:=F w p fa _ KX G.T.g J;exact DU KX G.T.g G.T.b G.T.builtins G.T.nolimit S C m (Qp j L) hr hF hb (λH hO hS=>M w H a I j hO hS) λH e s'=>O w H B e s'
def eD(s:rz)(j:Nat):Stmt:=match s with
 |.ClassDef _ _ _ body _ _ _ _ _ _ _=>body.getD j (.Pass ⟨0,0,0,0⟩)
 |_=>.Pass ⟨0,0,0,0⟩
def cc(s:rz):Arguments:=match s with
 |.FunctionDef _ a _ _ _ _ _ _ _ _=>a
 |_=>{ posonlyargs:=[],args:=[],vararg:=cm,kwonlyargs:=[],kw_defaults:=[],kwarg:=cm,defaults:=[] }
def bB(s:rz):List Stmt:=match s with
 |.FunctionDef _ _ b _ _ _ _ _ _ _=>b
 |_=>[]
def aQ(s:rz):Scope:=match s with
 |.FunctionDef _ _ _ _ _ _ sc _ _ _=>sc
 |_=>{ kind:=.function,names:=[],isGenerator:=eC,isCoroutine:=eC }
abbrev CX0:oh:=λ_ _ _ _ _ _=>False
abbrev E0:XK:=λ_ _ _=>False
structure Fun(K:PY)(x Yn:Str)(st:rz)(f:eg)(fd:g5):Prop where
 ex:∃(oc:ay)(od:Option eg)(kV doc pm:ay)(an:Option eg)(cdv ct:ay)(osl:Array (Option ay)),
  fd=SO x Yn (cc st) (bB st) (aQ st) .none kV doc pm an cdv ct/\K.lookup f=ap ⟨oc,od,.func fd,osl⟩/\UC K cdv Yn=true
 kp:Rj K (.ref f)=true
section
variable{mg:YC}{base:hI}
theorem Fun.binds{x c:Str}{j:rz}{f:eg}{fd:g5}{ps:Yv}(F:Fun K x c j f fd)(h:∀(kV e m:ay)(n:Option eg)(g o:ay)(us:Yw),us.length=ps.length->XN (SO x c (cc j) (bB j) (aQ j) .none kV e m n g o) ⟨us,[]⟩=pure (ps.zip us)):Binds K fd ps []:=by
 obtain⟨u,v,kV,e,m,n,g,o,p,rfl,lk,q⟩:=F.ex;exact .all (h kV e m n g o)
theorem vZ{x e:Str}{j:rz}{f:eg}{u:ay}{v p:Option eg}{n:Array (Option ay)}{kV m o g q:ay}(l:K.lookup f=ap ⟨u,v,.func (SO x e (cc j) (bB j) (aQ j) .none kV m o p g q),n⟩)(c:UC K g e=true)(k:Rj K (.ref f)=true):Fun K x e j f (SO x e (cc j) (bB j) (aQ j) .none kV m o p g q):=⟨⟨u,v,kV,m,o,p,g,q,n,rfl,l,c⟩,k⟩
end
theorem sh{k:Nat}(c:Room k A):A.units+1<cLine:=Te (Nat.add_le_add_left (by decide:1<=64) _) c.units
section
theorem AM:bQ X (.builtin "len") (λxs H Q=>∃a c,xs=[V.ref a]/\H a=ap (.dK c)/\Q (.int c.length) H):=by
 intro Ym s Z H xs j Q I r h;obtain⟨a,c,rfl,e,q⟩:=h;obtain⟨u,rfl,f⟩:=iU r;cases f;exact Nc I (.inl e) λt g I'=>⟨.int c.length,H,I',⟨t,rfl⟩,q⟩
end
section
variable{κ:Type}[DecidableEq κ]
end
section
variable{R:XR->el->Prop}
theorem jm{o e j:gl}{p:Yy}{it q:ay}{env:Env}(I:Nat->el->Prop)(G:∀n s,I n s->eH (fv prog w) A (Sc it) (λr s₁=>match r with
   |none=>R (.ok .next) s₁
   |some v=>eH (fv prog w) A (Xk e it v) (λ_ s₂=>eH (fv prog w) A (Xo e env v) (λ_ s₃=>
     eH (fv prog w) A (forIn p true λc r=>if r=true then do let ok <- X7 c env (g3 c env);pure (Tq ok) else pure (Tq r)) (λok s₄=>
      if ok=true then eH (fv prog w) A (g3 o env) (λx s₅=>
       eH (fv prog w) A (call (.builtin "list.append") [q,x]) (λ_ s₆=>∃m,m<n/\I m s₆) (λ_ _=>False) s₅) (λ_ _=>False) s₄
      else ∃m,m<n/\I m s₄) (λ_ _=>False) s₃) (λ_ _=>False) s₂) (λ_ _=>False) s₁) (λ_ _=>False) s)(n:Nat)(h:I n s):
  SZ (fv prog w) A (.compLoop (.ListComp o [⟨e,j,p,0⟩] scope pos) 0 it q env) R s:=by
 refine codeAny_loop rfl I (λn s J=>?_) n h;show eH _ A ((compTurn (.ListComp o [⟨e,j,p,0⟩] scope pos) 0 it q env).onRaise λx=>do noteFrame x env;theTreesLotGoes x) _ _ s
 refine wpAny_noted ?_;rw[compTurn_list];refine ax (Uf<|wpAny_bind (n7 (G n s J) (λr s₁ f=>?_) λ_ _ z=>z.elim));cases r with
 |none=>exact fe f
 |some v=>
  refine ax (n7 f (λ_ s₂ u=>ax (n7 u (λ_ s₃ B=>ax (n7 B (λok s₄ g=>?_) λ_ _ z=>z.elim)) λ_ _ z=>z.elim)) λ_ _ z=>z.elim);cases ok with
  |false=>exact fe ⟨rfl,g⟩
  |true=>
   exact ax (ax (n7 g (λx s₅ F=>ax (n7 F (λ_ s₆ C=>fe (fe ⟨rfl,C⟩)) λ_ _ z=>z.elim)) λ_ _ z=>z.elim))
end
def bb(X:Cx)(N:Yv)(scope:SB)(cl:List (Str×eg))(C:eg)(s₀:el)(H₀:Hp)(fp:Yx)(pl:YB):Cx where
 prog:=X.prog
 w:=X.w
 K:=X.K
 mg:=X.mg
 base:=X.base
 A:=X.A
 N:=N
 s₀:=s₀
 H₀:=H₀
 env:=compEnvC scope cl C X.env
 outer:=X.stack
 stack:=X.stack
 ex:=fp
 fn:=λ_=>eC
 calm:=X.calm
 pn:=X.pn++pl
 xe:=λ_ _=>False
inductive Frees(X:Cx)(scope:SB):List Str->List Nat->Prop where
 |nil:Frees X scope [] []
 |cons {x:Str} {j:Nat} {xs:Yv} {js:List Nat}:X.N[j]?=ap x->(X.env.kindOf x=ap .cell\/X.env.kindOf x=ap .free)->
   ((TD scope X.env).names.lookup x=ap .cell\/(TD scope X.env).names.lookup x=ap .free)->Frees X scope xs js->Frees X scope (x::xs) (j::js)
theorem Frees.length{X:Cx}{scope:SB}:∀{xs:Yv}{c:List Nat},Frees X scope xs c->xs.length=c.length
 |_,_,.nil=>rfl
 |_,_,.cons _ _ _ t=>congrArg (·+1) t.length
theorem Frees.get{X:Cx}{scope:SB}:∀{xs:Yv}{e:List Nat},Frees X scope xs e->∀{i:Nat}{x:Str},xs[i]?=ap x->∃j,e[i]?=ap j/\X.N[j]?=ap x/\(X.env.kindOf x=ap .cell\/X.env.kindOf x=ap .free)/\
   ((TD scope X.env).names.lookup x=ap .cell\/(TD scope X.env).names.lookup x=ap .free)
 |_,_,.nil,i,x,h=>by simp at h
 |_,_,.cons a b c _,0,x,h=>by simp at h;subst h;exact⟨_,rfl,a,b,c⟩
 |_,_,.cons _ _ _ t,i+1,x,h=>by
  obtain⟨j,f,g⟩:=t.get (i:=i) (x:=x) (by simpa using h)
  exact⟨j,by simpa using f,g⟩
def bP(ls:Yv)(js:List Nat)(Z:St):St:=ls.map (λ_=>cm)++js.map λj=>(Z[j]?).join
structure CompOk(X:Cx)(scope:SB)(cl:List (Str×eg))(ls fs:Yv)(js:List Nat):Prop where
 kind:scope.kind=.function
 nocell:∀y∈scope.names,y.2≠.cell
 locs:∀x∈scope.names,x.2=.local->scope.names.lookup x.1=ap .local
 clos:T0 scope X.env=pure cl
 cells:∀x c,cl.lookup x=ap c->X.env.cells.lookup x=ap c
 has:∀x,((TD scope X.env).names.lookup x=ap .cell\/(TD scope X.env).names.lookup x=ap .free)->∃c,cl.lookup x=ap c
 frees:Frees X scope fs js
theorem DN{cl:List (Str×eg)}{ls fs:Yv}{F:List Nat}{g:hI}{m:YC}{t':Nat}(I:Inv X Ym Z H s)(co:CompOk X scope cl ls fs F)(C:∀b∈fp,fR X Ym H b/\b<s.heap.objs.size)(hns:g.Ns s.heap.objs.size m)(G:∀b o,s.heap.get? b=ap o->g.get? b=ap o):
  Inv (bb X (ls++fs) scope cl s.heap.objs.size s H fp Ym) [] (bP ls F Z) H { s with heap:=g,toks:=t' }:=by
 have lk:∀b o,s.heap.get? b=ap o->b≠s.heap.objs.size:=λb o e=>Qk (Qb e);refine⟨⟨I.ok.mod,co.kind,I.ok.glob,I.ok.blt,PZ _,λx y c R L=>?_,λx M=>co.has x M,λx c h _=>absurd (show eC=true from h) Qq,I.ok.hd,I.ok.frames,.inl rfl,λb B=>⟨Qk (C b B).2,λx c e=>?_⟩,
   λb o e=>I.bs b o e,Qp I.ok.bsz I.sz,λb o e B=>?_,λb B hf=>?_,I.stack,λb B=>I.stkFree b B⟩,
  rfl,I.bare,Un.kept G,⟨m,hns,λi x v R L h3=>?_⟩,λx c e=>?_,I.hok.fresh (PZ _),λx c e=>I.freeC x c (co.cells x c e),λp hp=>?_,I.hok.kept G,?_⟩
 .exact I.ok.inj x y c (co.cells x c R) (co.cells y c L)
 .exact(C b B).1.2.2.2.2.1 x c (co.cells x c e)
 .obtain⟨f0,f1,f2,f3,_⟩:=(C b B).1
  rcases f3 with z|z
  .exact I.ok.noex b o e z
  .exact absurd (Qc (Qb (I.ok.bs b o e).1) z) (QK _)
 .obtain⟨f0,f1,f2,f3,_⟩:=(C b B).1
  rcases Ql.mp (I.stkSub b hf) with z|z
  .exact f1 z
  .exact f2 z
 .have J:¬i<ls.length:=λJ=>by
   have f:(bP ls F Z)[i]?=ap (ap v):=L;unfold bP at f;rw[QY (by simpa using J),Qj,PV J]at f
   cases f
  have hN:fs[i-ls.length]?=ap x:=by
   have U:(ls++fs)[i]?=ap x:=R
   rwa [QD (by lia)]at U
  obtain⟨j,hj,M,hc,hl⟩:=co.frees.get hN;have O:Z[j]?=ap (ap v):=by
   have f:(bP ls F Z)[i]?=ap (ap v):=L;unfold bP at f;rw[QD (by simpa using J),PQ,Qj,hj]at f
   have q:(Z[j]?).join=ap v:=by simpa using f
   cases e:Z[j]? with
   |none=>rw[e]at q;cases q
   |some o=>rw[e]at q;have q':o=ap v:=q;rw[q']
  obtain⟨mX,_,N⟩:=I.loc;have Y:Kt X.env.scope x:=by
   rcases hc with z|z
   .exact .inr (.inl z)
   .exact .inr (.inr z)
  obtain⟨u,ru,lo⟩:=N j x v M O Y;refine⟨u,ru,.inr ⟨hl,?_⟩⟩;obtain⟨c,ec⟩:=co.has x hl;refine⟨c,ec,?_⟩;rcases lo with⟨kl,_⟩|⟨_,c',e',z⟩
  .rcases hc with q|q<;>(rw[q]at kl;cases kl)
  .rw[co.cells x c ec]at e'
   cases e';obtain⟨o,S,hd⟩:=z;exact⟨o,G _ _ S,hd⟩
 .obtain⟨v,o,S,hd⟩:=I.cell x c (co.cells x c e)
  exact⟨v,o,G _ _ S,hd⟩
 .have W:p∈X.pn++Ym:=by
   have q:p∈(X.pn++Ym)++[]:=hp;simpa using q
  obtain⟨e,n,ne,nf,d⟩:=I.pin p W;refine⟨G _ _ e,n,lk _ _ e,λB=>?_,d⟩;rcases Ql.mp (I.stkSub p.1 B) with z|z
  .exact ne z
  .exact nf z
 .show (bP ls F Z).length=(ls++fs).length
  unfold bP;rw[PX,PQ,PQ,PX,co.frees.length]
def HV(X:Cx)(ifs:Yy)(t:TT):Prop:=
 ∀(Ym:YB)(s:el)(Z:St)(H:Hp)(Q:Bool->Hp->Prop),Inv X Ym Z H s->t Z H Q->
  eH (fv X.prog X.w) X.A (forIn ifs true λc r=>if r=true then do let ok <- X7 c X.env (g3 c X.env);pure (Tq ok) else pure (Tq r)) (TP X Ym Z Q) X.xe s
def tAll:TT:=λ_ H Q=>Q true H
theorem HZ:HV X [] tAll:=λ_ _ _ H _ I h=>wpAny_tests_nil ⟨H,I,h⟩
theorem G0{c:gl}{t:TT}(h:PT X c t):HV X [c] t:=λYm s Z H Q I q=>wpAny_tests_one (h Ym s Z H Q I q)
def yf(wi:TI)(ls:Yv)(js:List Nat)(g:TG)(tt:TT)(te:TE):TE:=λZ H Q=>wi Z H λJ H1=>∀p,H1 p=cm->∃W:Nat->Nat->St->Hp->Prop,(∃m,W 0 m (bP ls js Z) (upd H1 p<|.lst []))/\∀i m σ' H',W i m σ' H'->
 (J.stop i H'/\Q (.ref p) H')\/(J.go i H'/\∃N:St->Hp->Prop,(∀σ2 H2,N σ2 H2->∃m',m'<m/\W (i+1) m' σ2 H2)/\∀x H2,J.yld i H' x H2->g x σ' H2 λe H3=>tt e H3 λc H4=>
  if c=true then te e H4 λy H5=>∃ys,H5 p=ap (.lst ys)/\ys.length<sizeLine/\N e (upd H5 p<|.lst (ys++[y])) else N e H4)
section
variable{tg iter elt:gl}{ifs:Yy}{cl:List (Str×eg)}{ls fs:Yv}{js:List Nat}{wi:TI}{g:TG}{tt:TT}{te:TE}
theorem sH{f:el}{tn:Nat->hI->Prop}{J:It}{H1:Hp}{R:ay->eg->XR->el->Prop}{Q:VK}{E:YA}(hc:X.calm=true)(co:CompOk X scope cl ls fs js)(hY:∀(C:eg)(s₀:el)(H₀:Hp)(fp:Yx)(pl:YB),PG (bb X (ls++fs) scope cl C s₀ H₀ fp pl) tg g/\HV (bb X (ls++fs) scope cl C s₀ H₀ fp pl) ifs tt/\PE (bb X (ls++fs) scope cl C s₀ H₀ fp pl) elt te)(I:Inv X Ym Z H1 f)(T:Turn X.prog X.w X.K tg J fp it tn)(st:tn 0 f.heap)(hf:∀b∈fp,fR X Ym H1 b)(q:∀p,H1 p=cm->∃W:Nat->Nat->St->Hp->Prop,(∃m,W 0 m (bP ls js Z) (upd H1 p<|.lst []))/\∀i m F H',W i m F H'->
   (J.stop i H'/\Q (.ref p) H')\/(J.go i H'/\∃N:St->Hp->Prop,(∀σ2 H2,N σ2 H2->∃m',m'<m/\W (i+1) m' σ2 H2)/\∀x H2,J.yld i H' x H2->g x F H2 λσ3 H3=>tt σ3 H3 λc H4=>
    if c=true then te σ3 H4 λy H5=>∃ys,H5 p=ap (.lst ys)/\ys.length<sizeLine/\N σ3 (upd H5 p<|.lst (ys++[y])) else N σ3 H4))(hR:∀(p C:eg)(H':Hp)(s':el)(m:YC),s'.heap.Ns C m->Inv X Ym Z H' s'->H' C=cm->C≠X.env.locals->X.s₀.heap.objs.size<=C->(∀x c,X.env.cells.lookup x=ap c->c≠C)->(∀pp∈X.pn++Ym,pp.1≠C)->Q (.ref p) H'->R (.ref p) C (.ok .next) s'):
  eH (fv X.prog X.w) X.A (newList []) (λYp s₃=>eH (fv X.prog X.w) X.A (Xl scope X.env.globals cl [] X.env.qual cm .none<|some X.env) (λcenv s₄=>
   SZ (fv X.prog X.w) X.A (.compStart (.ListComp elt [⟨tg,iter,ifs,0⟩] scope pos) 0 (.ref it) Yp { cenv with scope:=TD scope X.env }) (R Yp cenv.locals) s₄) E s₃) E f:=by
 have hp0:H1 f.heap.objs.size=none:=I.hok.fresh (PZ _);obtain⟨W,⟨m0,w0⟩,turn⟩:=q f.heap.objs.size hp0;refine om (wpAny_newFunctionEnv co.nocell (by intro y hy;simp at hy) (λB G L=>?_) co.kind)
 dsimp only at G L ⊢;have I3:Inv X Ym Z (upd H1 f.heap.objs.size<|.lst []) { f with heap:=f.heap.push { cls:=.type "list",dict:=cm,data:=.seq ([]:Yw).toArray } }:=
  I.lnew (Ys:=[]) (t':=f.toks) .nil (Rq _)
 generalize hs3:({ f with heap:=f.heap.push { cls:=.type "list",dict:=cm,data:=.seq ([]:Yw).toArray } }:el)=s3 at I3;have U:f.heap.push { cls:=.type "list",dict:=cm,data:=.seq ([]:Yw).toArray }=s3.heap:=by rw[<- hs3]
 rw[U]at G L ⊢;have hsz3:s3.heap.objs.size=f.heap.objs.size+1:=by rw[<- U,QF]
 have hk3:∀b o,f.heap.get? b=ap o->s3.heap.get? b=ap o:=λb o e=>by rw[<- U];exact PR _ e
 have hlt:∀b∈fp,b<f.heap.objs.size:=λb j=>by
  obtain⟨o,e,_⟩:=T.obj _ _ st b j;exact Qb e
 have hnp:∀b∈fp,upd H1 f.heap.objs.size (.lst []) b=none:=λb j=>by
  rw[aK (Qk<|hlt b j)];exact(hf b j).1
 have hf3:∀b∈fp,fR X Ym (upd H1 f.heap.objs.size<|.lst []) b/\b<s3.heap.objs.size:=λb j=>⟨⟨hnp b j,(hf b j).2⟩,by rw[hsz3];exact SE (hlt b j)⟩
 have hk4:∀b o,s3.heap.get? b=ap o->B.get? b=ap o:=λb o e=>L.extBut b o (Qk<|Qb e) (PR _ e);have st4:tn 0 B:=T.keep _ _ _ st λb j o e=>hk4 b o (hk3 b o e);have I4:=DN (t':=s3.toks) I3 co hf3 G hk4;obtain⟨hg,ht,he⟩:=hY s3.heap.objs.size s3 (upd H1 f.heap.objs.size<|.lst []) fp Ym;have O:∀{H':Hp},(∀b∈fp,H' b=cm)->∀b∈fp,fR (bb X (ls++fs) scope cl s3.heap.objs.size s3 (upd H1 f.heap.objs.size<|.lst []) fp Ym) [] H' b:=λ{H'} hn b j=>by
  obtain⟨f0,f1,f2,f3,f4,f5⟩:=hf b j;refine⟨hn b j,Qk (hf3 b j).2,λz=>?_,.inl j,λx c e=>f4 x c (co.cells x c e),λpp hp=>f5 pp ?_⟩
  .rcases Ql.mp (I3.stkSub b z) with y|y
   .exact f1 y
   .exact f2 y
  .have q:pp∈(X.pn++Ym)++[]:=hp
   simpa using q
 have loop:∀s₄:el,s₄={ s3 with heap:=B,toks:=s3.toks }->
   SZ (fv X.prog X.w) X.A (.compLoop (.ListComp elt [⟨tg,iter,ifs,0⟩] scope pos) 0 (.ref it) (.ref f.heap.objs.size)<|compEnvC scope cl s3.heap.objs.size X.env) (R (.ref f.heap.objs.size) s3.heap.objs.size) s₄:=by
  rintro s₄ rfl
  refine jm (λn s'=>∃i F H',Inv (bb X (ls++fs) scope cl s3.heap.objs.size s3 (upd H1 f.heap.objs.size<|.lst []) fp Ym) [] F H' s'/\tn i s'.heap/\(∀b∈fp,H' b=cm)/\W i n F H') ?_ m0 ⟨0,_,_,I4,st4,hnp,w0⟩
  rintro n s5 ⟨i,S,H5,I5,st5,fr5,w5⟩
  rcases turn i n S H5 w5 with⟨stop,qn⟩|⟨go,N,hN,step⟩
  .refine bp (T.done (bb X (ls++fs) scope cl s3.heap.objs.size s3 (upd H1 f.heap.objs.size<|.lst []) fp Ym) rfl rfl rfl hc i [] s5 S H5 _ I5 (O fr5) st5 stop) λr s6 ⟨hr,I6⟩=>?_
   subst hr;obtain⟨m6,hn6,_⟩:=I6.loc;have IX:Inv X Ym Z H5 s6:=I3.call' I6.os I6.base I6.hok I6.bare λb j=>⟨(hf b j).2.2.2.1,(hf b j).2.1,(hf b j).2.2.2.2.1,(hf b j).2.2.2.2.2⟩;refine hR _ _ H5 s6 m6 hn6 IX I6.free (RB I3.lt) I3.sz (λx c e z=>?_) (λpp hp z=>?_) qn
   .obtain⟨v,zz⟩:=I3.cell x c e
    have zl:=zz.lt;rw[z]at zl;exact QK _ zl
   .have zl:=Qb (I3.pin pp hp).1
    rw[z]at zl;exact QK _ zl
  .refine bp (T.item (bb X (ls++fs) scope cl s3.heap.objs.size s3 (upd H1 f.heap.objs.size<|.lst []) fp Ym) rfl rfl rfl hc i [] s5 S H5 _ I5 (O fr5) st5 go) λr s6 ⟨u,hr,h6⟩=>?_
   subst hr;refine bp h6 λ_ s7 ⟨x,H7,I7,r7,y7,Y,fr7⟩=>?_;have I7':=I7.pinned (O fr7) (T.obj _ _ Y);refine bp (hg _ s7 S H7 x u _ I7' r7<|step x H7 y7) λ_ s8 ⟨σ8,H8,I8,q8⟩=>?_
   have again:∀{M:St}{H9:Hp}{s9:el},Inv (bb X (ls++fs) scope cl s3.heap.objs.size s3 (upd H1 f.heap.objs.size<|.lst []) fp Ym) ([]++jt fp s7.heap) M H9 s9->N M H9->
     ∃m,m<n/\∃i F H',Inv (bb X (ls++fs) scope cl s3.heap.objs.size s3 (upd H1 f.heap.objs.size<|.lst []) fp Ym) [] F H' s9/\tn i s9.heap/\(∀b∈fp,H' b=cm)/\W i m F H':=λ{M H9 s9} I9 n9=>by
    obtain⟨m',hm,w9⟩:=hN M H9 n9;refine⟨m',hm,i+1,M,H9,I9.unpinned,T.keep _ _ _ Y λb j o e=>(I9.pin (b,o)<|Qw _<|Qw _<|cX j e).1,λb j=>?_,w9⟩;obtain⟨o,e,d⟩:=T.obj _ _ Y b j;exact(I9.pin (b,o)<|Qw _<|Qw _<|cX j e).2.1
   refine bp (ht _ s8 σ8 H8 _ I8 q8) λok s9 ⟨H9,I9,q9⟩=>?_;cases ok with
   |false=>exact again I9 q9
   |true=>
    refine bp (he _ s9 σ8 H9 _ I9 q9) λxv s10 ⟨y,H10,I10,r10,ys,hp,hl,n10⟩=>?_;obtain⟨z,Ys,n',r,hl',e⟩:=I10.lstM hp;refine vb SY ⟨_,e,rfl⟩ Ue (T3 _ _) (Uc f.heap.objs.size Ys.toArray n' xv<|by rw[Qd];lia) ⟨e,?_⟩
    refine again (I10.lset (its':=Ys++[xv]) hp e (by simp) (r.append<|.cons r10 .nil) ?_) n10
    rw[PX,Rc];lia
 have se:({ f with heap:=B,toks:=f.toks+([]:List (Str×ay)).length }:el)={ s3 with heap:=B,toks:=s3.toks }:=by rw[<- hs3];rfl
 exact X9 (loop _ se) (T.self _ 0 _ _ _ st4<|loop _ se)
theorem Fj(hc:X.calm=true)(co:CompOk X scope cl ls fs js)(hi:PI X tg iter wi)(hY:∀(C:eg)(c:el)(H₀:Hp)(fp:Yx)(pl:YB),PG (bb X (ls++fs) scope cl C c H₀ fp pl) tg g/\HV (bb X (ls++fs) scope cl C c H₀ fp pl) ifs tt/\PE (bb X (ls++fs) scope cl C c H₀ fp pl) elt te)(hs:∀x,o4 iter X.env x=pure x:=by intro _;rfl):PE X (.ListComp elt [⟨tg,iter,ifs,0⟩] scope pos) (yf wi ls js g tt te):=by
 intro Ym s Z H Q I h;rw[eval_ListComp];refine Xa (use:=cm) rfl hs co.clos co.kind co.locs (bp (hi Ym s Z H _ I h) λxv s1 M=>bp M λN s2 O=>?_);obtain⟨it,fp,tn,J,H2,e,I2,T,u,F,q⟩:=O;subst e;refine sH (R:=λv C=>compPost (fv X.prog X.w) X.A X.xe cm (EP X Ym Z Q) v C) (Q:=Q) hc co hY I2 T u F q ?_;intro p C H' B m Y IX L S n f j U;exact⟨m,Y,λh' G=>⟨.ref p,H',IX.turned (t':=B.toks) (λb o W e=>G.extBut b o W e) L S (.inr n) f j,rfl,U⟩⟩
def LB(i:Nat)(t:TE):TS:=λD Z H=>t Z H λv H1=>D.nx (Z.set i<|some v) H1
theorem Ia{x:Str}{n j:Pos}(hN:X.N.Nodup)(Y:X.N[i]?=ap x)(hx:Bz X.env.scope x)(hc:X.calm=true)(co:CompOk X scope cl ls fs js)(hi:PI X tg iter wi)(hY:∀(C:eg)(f:el)(H₀:Hp)(fp:Yx)(pl:YB),PG (bb X (ls++fs) scope cl C f H₀ fp pl) tg g/\HV (bb X (ls++fs) scope cl C f H₀ fp pl) ifs tt/\PE (bb X (ls++fs) scope cl C f H₀ fp pl) elt te)(hsw:vr (.ListComp elt [⟨tg,iter,ifs,0⟩] scope pos) (ap<|.Name x n) j.line X.env=pure true:=by rfl)(hs:∀x,o4 iter X.env x=pure x:=by intro _;rfl)(hf:X.fn x=true\/X.env.scope.names.lookup x=ap .local:=by first|exact .inl rfl|exact .inr rfl|assumption):
  PS X (.Assign [.Name x n] (.ListComp elt [⟨tg,iter,ifs,0⟩] scope pos) j) (LB i<|yf wi ls js g tt te):=by
 intro Ym s Z H D I h;rw[exec_Assign_Name_used _ _ _ _ hsw];refine ax (Uf<|wpAny_bind ?_);show eH _ X.A (do let _ <- comprehension (.ListComp elt [⟨tg,iter,ifs,0⟩] scope pos) scope X.env _ (newList []) eC (g3 iter X.env) (ap<|assign (.Name x n) X.env)) _ _ s
 refine ax (n7 (Xa (use:=ap (Xo (.Name x n) X.env)) (Q:=λ_ B=>SP X Ym D .next B) rfl hs co.clos co.kind co.locs
  (bp (hi Ym s Z H _ I h) λxv s1 h1=>bp h1 λitv s2 h2=>?_)) (λ_ B S=>fe (fe S)) λ_ _ e=>e)
 obtain⟨it,fp,tn,J,H2,e,I2,T,M,f2,q⟩:=h2;subst e;refine sH (R:=λO C=>compPost (fv X.prog X.w) X.A X.xe (ap<|assign (.Name x n) X.env) (λ_ B=>SP X Ym D .next B) O C) (Q:=λv H1=>D.nx (Z.set i<|some v) H1) hc co hY I2 T M f2 q ?_;intro p C H' B m hn IX hC hL G c u S;show eH _ X.A (Xo (.Name x n) X.env<|.ref p) _ _ _;refine wpAny_assign_Name (o_ IX hN Y hx (v:=.ref p) rfl (λW I'' U=>?_) hf);obtain⟨a,sb,ha⟩:=U;have F:C≠a:=by
  rcases ha with z|z
  .rw[z];exact hL
  .exact λy=>c x a z y.symm
 refine⟨m,hn.sameBut sb F,λh3 L=>?_⟩;exact⟨_,H',I''.turned (t':=W.toks) (λb o U e=>L.extBut b o U e) hC hL (.inr G) c u,S⟩
end
def SrcTn(b:Bool)(it a:eg)(i:Nat)(h:hI):Prop:=if b=true then h.IsListIter it a i else h.IsTupleIter it a i
def SrcSq(b:Bool)(h:hI)(a:eg)(items:YD):Prop:=if b=true then h.IsList a items else h.IsTuple a items
theorem SrcTn.lt(x:SrcTn b it a i h):∃o,h.get? it=ap o/\∀v,o.data≠.cell v:=by
 cases b with
 |true=>obtain⟨o,e,c,d⟩:=(show h.IsListIter it a i from x);exact⟨o,e,λv z=>by rw[d]at z;cases z⟩
 |false=>obtain⟨o,e,c,d⟩:=(show h.IsTupleIter it a i from x);exact⟨o,e,λv z=>by rw[d]at z;cases z⟩
theorem SrcTn.keep(x:SrcTn b it a i h)(k:∀o,h.get? it=ap o->h'.get? it=ap o):SrcTn b it a i h':=by
 cases b with
 |true=>obtain⟨o,e,r⟩:=(show h.IsListIter it a i from x);exact(show h'.IsListIter it a i from ⟨o,k o e,r⟩)
 |false=>obtain⟨o,e,r⟩:=(show h.IsTupleIter it a i from x);exact(show h'.IsTupleIter it a i from ⟨o,k o e,r⟩)
theorem SrcSq.keep(x:SrcSq b h a items)(k:∀o,h.get? a=ap o->h'.get? a=ap o):SrcSq b h' a items:=by
 cases b with
 |true=>obtain⟨o,e,r⟩:=(show h.IsList a items from x);exact(show h'.IsList a items from ⟨o,k o e,r⟩)
 |false=>obtain⟨o,e,r⟩:=(show h.IsTuple a items from x);exact(show h'.IsTuple a items from ⟨o,k o e,r⟩)
section
theorem ir{l:eg}(c:s.heap.IsTupleIter it l i)(p:s.heap.IsTuple l items)(n:items[i]?=ap x)(hQ:∀h',h'.IsTupleIter it l (i+1)->RO it s.heap h'->Q x { s with heap:=h' }):eH (fv prog w) A (Qx<|.ref it) Q E s:=by
 obtain⟨o,f,m,e⟩:=id c;obtain⟨q,g,_,u,j⟩:=p;unfold Qx
 refine ax (wpAny_callSpecial?_slot (name:=QI "__next__") c.typeIs Sf
  (nr Sf c.typeIs Vh ?_<|U8 _))
 show eH _ _ (W8 (.ref it) 0 >>= _) _ _ s;refine ax (hB f e (x:=.ref l) rfl ?_);show eH _ _ (if (Qs l==RL)=true then _ else _) _ _ s
 rw[if_neg (show ¬((Qs l==RL)=true) from Qq)];show eH _ _ (W8 (.ref it) 1 >>= _) _ _ s;refine ax (hB f e (x:=.int i 0) rfl ?_);show eH _ _ (XX (.ref l) >>= _) _ _ s;refine ax (pt g j ?_);simp only[Qh,n];refine ax (wpAny_setField f e (by simp)<|wpAny_pure ⟨x,rfl,fe<|hQ _ ?_<|US ..⟩)
 exact⟨_,VL _ f (Obj.isFreed_of_fields<|Obj.data_mapFields e _),(Obj.cls_mapFields ..).trans m,by
  rw[Obj.data_mapFields e];simp[wh]⟩
theorem jH{l:eg}(p:A.handled=cm)(c:s.heap.IsTupleIter it l i)(u:s.heap.IsTuple l items)(q:items[i]?=cm)(v:∀h' e,UG it s.heap h'->(∃o,h'.get? e=ap o/\o.cls=.type "StopIteration")->E (.ref e) { s with heap:=h' }):eH (fv prog w) A (Qx<|.ref it) Q E s:=by
 obtain⟨o,g,C,n⟩:=id c;obtain⟨B,f,_,F,j⟩:=u;unfold Qx
 refine ax (wpAny_callSpecial?_slot (name:=QI "__next__") c.typeIs Sf
  (nr Sf c.typeIs Vh ?_<|U8 _))
 show eH _ _ (W8 (.ref it) 0 >>= _) _ _ s;refine ax (hB g n (x:=.ref l) rfl ?_);show eH _ _ (if (Qs l==RL)=true then _ else _) _ _ s
 rw[if_neg (show ¬((Qs l==RL)=true) from Qq)];show eH _ _ (W8 (.ref it) 1 >>= _) _ _ s;refine ax (hB g n (x:=.int i 0) rfl ?_);show eH _ _ (XX (.ref l) >>= _) _ _ s;refine ax (pt f j ?_);simp only[Qh,q];refine ax (PP<|wpAny_bind<|wpAny_setField g n (by simp) ?_)
 show eH _ _ (newExc (.type "StopIteration") [] >>= _) _ _ _;refine ax ?_;simp only[newExc,newTuple];refine ax (om ?_<|by size_fits)
 refine ax (m:=Xm _ _) (Tk (a:=RL) (by first|rfl|(simp only[Xm];rfl)) ?_)
 refine om ?_ (by size_fits)
 simp only[raiseNew];refine ax (wpAny_handled ?_)
 first|rw[show A.in1.handled=cm from p]|rw[p]
 refine ax (fe<|wpAny_throw ?_);exact v _ _ (((US ..).extBut.push _).push _) ⟨_,Qg _ rfl,rfl⟩
theorem bT{l:eg}(c:SrcTn b it l i s.heap)(g:SrcSq b s.heap l items)(f:items[i]?=ap x)(e:∀h',SrcTn b it l (i+1) h'->RO it s.heap h'->Q x { s with heap:=h' }):eH (fv prog w) A (Qx<|.ref it) Q E s:=by
 cases b with
 |true=>exact wpAny_nextOf_list_item c g f e
 |false=>exact ir c g f e
theorem dL{l:eg}(g:A.handled=cm)(c:SrcTn b it l i s.heap)(j:SrcSq b s.heap l items)(f:items[i]?=cm)(m:∀h' e,UG it s.heap h'->(∃o,h'.get? e=ap o/\o.cls=.type "StopIteration")->E (.ref e) { s with heap:=h' }):eH (fv prog w) A (Qx<|.ref it) Q E s:=by
 cases b with
 |true=>exact wpAny_nextOf_list_end g c j f m
 |false=>exact jH g c j f m
def aV(b:Bool):String:=if b=true then "list_iterator" else "tuple_iterator"
theorem dH{l:eg}(e:SrcSq b s.heap l items)(c:Q (.ref s.heap.objs.size) { s with heap:=s.heap.push { cls:=.type (aV b),data:=.fields #[.ref l,.int 0 0] } }):eH (fv prog w) A (pyIter<|.ref l) Q E s:=by
 cases b with
 |true=>exact Xx e c
 |false=>exact wpAny_pyIter_tuple e c
theorem pw{l:eg}(e:h.get? it=ap { cls:=.type (aV b),data:=.fields #[.ref l,.int 0 0] }):SrcTn b it l 0 h:=by
 cases b with
 |true=>exact(show h.IsListIter it l 0 from ⟨_,e,rfl,rfl⟩)
 |false=>exact(show h.IsTupleIter it l 0 from ⟨_,e,rfl,rfl⟩)
structure ZApart(z TI TO i1 i2:eg):Prop where
 TIz:TI≠z
 TOz:TO≠z
 i1z:i1≠z
 i2z:i2≠z
 TITO:TI≠TO
 TIi1:TI≠i1
 TIi2:TI≠i2
 TOi1:TO≠i1
 TOi2:TO≠i2
 i12:i1≠i2
def Mt(z TO i1 i2 l:eg):Prop:=l≠z/\l≠TO/\l≠i1/\l≠i2
theorem BC{TI TO:eg}{a b:ay}(D:ZApart z TI TO i1 i2)(O1:Mt z TO i1 i2 l1)(O2:Mt z TO i1 i2 l2)(hz:XA s.heap z TI TO .none)(hTI:tm s.heap TI (.ref i1) (.ref i2))(hTO:tm s.heap TO a b)(h1:SrcTn b1 i1 l1 k1 s.heap)(h2:SrcTn b2 i2 l2 k2 s.heap)(hl1:SrcSq b1 s.heap l1 xs)(hl2:SrcSq b2 s.heap l2 ys)(hx:xs[k1]?=ap x)(hy:ys[k2]?=ap y)(hQ:∀h',XA h' z TI TO (wh s.heap.objs.size)->tm h' TO x y->SrcTn b1 i1 l1 (k1+1) h'->SrcTn b2 i2 l2 (k2+1) h'->tm h' s.heap.objs.size x y->h'.objs.size=s.heap.objs.size+1->
   (∀c o,c≠z->c≠TO->c≠i1->c≠i2->s.heap.get? c=ap o->h'.get? c=ap o)->Q (.ref s.heap.objs.size) { s with heap:=h' }):
  eH (fv prog w) A (Builtin.«zip.__next__» ⟨[.ref z],[]⟩) (λfin s'=>∃v,fin=.done (.ret v)/\Q v s') E s:=by
 show eH _ _ (W8 (.ref z) 2 >>= _) _ _ _;refine ax (hB hz rfl (x:=.bool eC) rfl ?_);show eH _ _ (W8 (.ref z) 3 >>= _) _ _ _;refine ax (hB hz rfl (x:=.ref TI) rfl ?_);refine ax (pt hTI rfl ?_);show eH _ _ (QP (.ref z) >>= _) _ _ _;refine ax ?_;unfold QP;refine ax (hB hz rfl (x:=.none) rfl<|wpAny_pure ?_);simp only[if_true];refine ax (PP ?_);refine ax (hB hz rfl (x:=.ref TO) rfl ?_);refine ax (p3 hz (by simp) λh₁ G hs1=>?_)
 replace G:XA h₁ z TI TO .ellipsis:=G
 refine ax ?_;simp only[RI,List.zipIdx_nil,UN,TY];refine ax (ax<|wpAny_onRaise ?_);show eH _ _ (Qx (.ref i1) >>= _) _ _ _;refine ax (bT (h1.keep λo e=>hs1.extBut _ o D.i1z e) (hl1.keep λo e=>hs1.extBut _ o O1.1 e) hx λU I hs₂=>fe ?_);have B:tm U TO a b:=hs₂.extBut _ _ D.TOi1 (hs1.extBut _ _ D.TOz hTO);refine ax (pt B rfl ?_);refine ax (Yd B λY n hs₃=>?_)
 replace n:tm Y TO x b:=n
 refine ax (wpAny_letGo<|wpAny_pure ?_);refine ax (ax<|wpAny_onRaise ?_);show eH _ _ (Qx (.ref i2) >>= _) _ _ _
 refine ax (bT (h2.keep λo e=>hs₃.extBut _ o D.TOi2.symm (hs₂.extBut _ o D.i12.symm<|hs1.extBut _ o D.i2z e))
  (hl2.keep λo e=>hs₃.extBut _ o O2.2.1 (hs₂.extBut _ o O2.2.2.1<|hs1.extBut _ o O2.1 e)) hy λh₄ h24 p=>fe ?_)
 have u:tm h₄ TO x b:=p.extBut _ _ D.TOi2 n;refine ax (pt u rfl ?_);refine ax (Yd u λf m q=>?_)
 replace m:tm f TO x y:=m
 refine ax (wpAny_letGo<|wpAny_pure<|wpAny_pure ?_);refine ax (pt m rfl ?_);refine ax (XH ?_);have O:f.objs.size=s.heap.objs.size:=by rw[q.1,p.1,hs₃.1,hs₂.1,hs1.1]
 have S:XA f z TI TO .ellipsis:=q.extBut _ _ D.TOz.symm (p.extBut _ _ D.i2z.symm<|hs₃.extBut _ _ D.TOz.symm<|hs₂.extBut _ _ D.i1z.symm G);have hk5:∀c o,c≠z->c≠TO->c≠i1->c≠i2->s.heap.get? c=ap o->f.get? c=ap o:=λc o J c2 c3 c4 e=>
  q.extBut _ _ c2 (p.extBut _ _ c4<|hs₃.extBut _ _ c2<|hs₂.extBut _ _ c3<|hs1.extBut _ _ J e)
 have h15:SrcTn b1 i1 l1 (k1+1) f:=I.keep λo e=>q.extBut _ o D.TOi1.symm (p.extBut _ o D.i12<|hs₃.extBut _ o D.TOi1.symm e);have h25:SrcTn b2 i2 l2 (k2+1) f:=h24.keep λo e=>q.extBut _ o D.TOi2.symm e;have C:z<f.objs.size:=Qb S;show eH _ _ (S7 (.ref z) (.ref f.objs.size) >>= _) _ _ _;refine ax ?_;unfold S7;have hz6:XA (f.push { cls:=.type "tuple",data:=.seq #[x,y] }) z TI TO .ellipsis:=PR _ S;refine ax (p3 hz6 (by simp) λW L M=>?_)
 replace L:XA W z TI TO (wh f.objs.size):=L
 refine p3 L (by simp) λj g F=>?_
 replace g:XA j z TI TO (wh f.objs.size):=g
 have up:∀c o,c≠z->f.get? c=ap o->j.get? c=ap o:=λc o J e=>F.extBut _ _ J (M.extBut _ _ J<|PR _ e);have R:tm j f.objs.size x y:=F.extBut _ _ (RB C) (M.extBut _ _ (RB C)<|Qg _ rfl);have N:j.objs.size=f.objs.size+1:=by rw[F.1,M.1,QF]
 rw[O]at g R N;refine fe ⟨_,rfl,?_⟩;show Q (.ref f.objs.size) _;rw[O];exact hQ j g (up _ _ D.TOz m) (h15.keep λo e=>up _ o D.i1z e) (h25.keep λo e=>up _ o D.i2z e) R N λc o J c2 c3 c4 e=>up c o J (hk5 c o J c2 c3 c4 e)
theorem ke{TI TO:eg}{a b:ay}{Q:Option ay->el->Prop}(D:ZApart z TI TO i1 i2)(O1:Mt z TO i1 i2 l1)(O2:Mt z TO i1 i2 l2)(n:XA s.heap z TI TO .none)(g:tm s.heap TI (.ref i1) (.ref i2))(e:tm s.heap TO a b)(I:SrcTn b1 i1 l1 k1 s.heap)(L:SrcTn b2 i2 l2 k2 s.heap)(j:SrcSq b1 s.heap l1 xs)(f:SrcSq b2 s.heap l2 ys)(G:xs[k1]?=ap x)(J:ys[k2]?=ap y)(M:∀h',XA h' z TI TO (wh s.heap.objs.size)->tm h' TO x y->SrcTn b1 i1 l1 (k1+1) h'->SrcTn b2 i2 l2 (k2+1) h'->tm h' s.heap.objs.size x y->h'.objs.size=s.heap.objs.size+1->
   (∀c o,c≠z->c≠TO->c≠i1->c≠i2->s.heap.get? c=ap o->h'.get? c=ap o)->Q (ap<|.ref s.heap.objs.size) { s with heap:=h' }):
  eH (fv prog w) A (Sc<|.ref z) Q E s:=by
 have m:s.TypeIs (.ref z) "zip":=⟨_,n,rfl⟩;unfold Sc
 exact ax (SC (wpAny_callSpecial?_slot (name:=QI "__next__") m Sq
  (nr Sq m UU (BC D O1 O2 n g e I L j f G J λh' B p C q u F v=>fe (M h' B p C q u F v))<|UH _)))
end
abbrev zH1(c1:String)(h:hI)(l1:eg):Heap:=h.push { cls:=.type c1,data:=.fields #[.ref l1,.int 0 0] }
abbrev zH2(c1 c2:String)(h:hI)(l1 l2:eg):Heap:=(zH1 c1 h l1).push { cls:=.type c2,data:=.fields #[.ref l2,.int 0 0] }
abbrev zH3(c1 c2:String)(h:hI)(l1 l2:eg):Heap:=(zH2 c1 c2 h l1 l2).push { cls:=.type "tuple",data:=.seq #[.ref h.objs.size,.ref (zH1 c1 h l1).objs.size] }
abbrev zH4(c1 c2:String)(h:hI)(l1 l2:eg):Heap:=(zH3 c1 c2 h l1 l2).push { cls:=.type "tuple",data:=.seq #[.none,.none] }
abbrev MF(c1 c2:String)(h:hI)(l1 l2:eg):Heap:=(zH4 c1 c2 h l1 l2).push { cls:=.type "zip",data:=.fields #[.none,.bool eC,.bool eC,.ref (zH2 c1 c2 h l1 l2).objs.size,.ref (zH3 c1 c2 h l1 l2).objs.size] }
theorem Ax(b1 b2:Bool)(l1 l2:eg)(xs ys:YD):
  XS (Builtin.«zip.__new__» ⟨[.type "zip",.ref l1,.ref l2],[]⟩) (λ_ R s=>SrcSq b1 s.heap l1 xs/\SrcSq b2 s.heap l2 ys/\
   R (.ok<|.ret<|.ref (zH4 (aV b1) (aV b2) s.heap l1 l2).objs.size) { s with heap:=MF (aV b1) (aV b2) s.heap l1 l2 }):=
 .of_wp λprog w A R s h=>by
  obtain⟨n,g,d,p,q⟩:=s;obtain⟨j,f,h⟩:=h;have u:=sub_zip;have c:SrcSq b1 (Vt ⟨n,g,d,p,q⟩) l1 xs:=j;have m:SrcSq b2 (Vt ⟨n.push { cls:=.type (aV b1),data:=.fields #[.ref l1,.int 0 0] },g,d,p,q⟩) l2 ys:=SrcSq.keep f λo e=>PR _ e
  wp_walk using dH c,dH m
  exact⟨_,rfl,h⟩
section
theorem CZ(p:SrcSq b1 s.heap l1 xs)(n:SrcSq b2 s.heap l2 ys)(h:∀h',XA h' (s.heap.objs.size+4) (s.heap.objs.size+2) (s.heap.objs.size+3) .none->tm h' (s.heap.objs.size+2) (.ref s.heap.objs.size) (.ref (s.heap.objs.size+1))->
   tm h' (s.heap.objs.size+3) .none .none->SrcTn b1 s.heap.objs.size l1 0 h'->SrcTn b2 (s.heap.objs.size+1) l2 0 h'->h'.objs.size=s.heap.objs.size+5->
   (∀c o,s.heap.get? c=ap o->h'.get? c=ap o)->Q (.ref (s.heap.objs.size+4)) { s with heap:=h' }):
  eH (fv prog w) A (call (.type "zip") [.ref l1,.ref l2]) Q E s:=by
 refine Ya F.called_zip (by decide) (F.typeCall_zip_2 _ _) (F.newCall_zip_2 _ _) (λobj=>F.args_object_init_3 obj _ _) F.entry_zip_new (Ax b1 b2 l1 l2 xs ys) ⟨p,n,?_⟩
 have g:(zH1 (aV b1) s.heap l1).objs.size=s.heap.objs.size+1:=QF ..;have m:(zH2 (aV b1) (aV b2) s.heap l1 l2).objs.size=s.heap.objs.size+2:=by rw[QF,g]
 have e:(zH3 (aV b1) (aV b2) s.heap l1 l2).objs.size=s.heap.objs.size+3:=by rw[QF,m]
 have f:(zH4 (aV b1) (aV b2) s.heap l1 l2).objs.size=s.heap.objs.size+4:=by rw[QF,e]
 have C:(MF (aV b1) (aV b2) s.heap l1 l2).objs.size=s.heap.objs.size+5:=by rw[QF,f]
 have j:(MF (aV b1) (aV b2) s.heap l1 l2).get? (zH4 (aV b1) (aV b2) s.heap l1 l2).objs.size=ap _:=Qg _ rfl;have q:(MF (aV b1) (aV b2) s.heap l1 l2).get? (zH3 (aV b1) (aV b2) s.heap l1 l2).objs.size=ap _:=PR _ (Qg _ rfl);have u:(MF (aV b1) (aV b2) s.heap l1 l2).get? (zH2 (aV b1) (aV b2) s.heap l1 l2).objs.size=ap _:=PR _ (PR _<|Qg _ rfl);have v:(MF (aV b1) (aV b2) s.heap l1 l2).get? (zH1 (aV b1) s.heap l1).objs.size=ap _:=PR _ (PR _<|PR _<|Qg _ rfl);have B:(MF (aV b1) (aV b2) s.heap l1 l2).get? s.heap.objs.size=ap _:=PR _ (PR _<|PR _<|PR _<|Qg _ rfl);show _/\_;rw[m,e,f]at j;rw[g,m]at u;rw[e]at q;rw[g]at v;rw[f];exact⟨⟨_,j,rfl⟩,h _ j u q (pw B) (pw v) C λc o x=>
  PR _ (PR _<|PR _<|PR _<|PR _ x)⟩
end
def BB(K:PY)(b:Bool)(H:Hp)(a:eg)(xs:List V):Prop:=if b=true then SqL K H a xs else ie K H a xs
section
variable{xs ys:List V}
theorem Inv.src(I:Inv X Ym Z H s)(h:BB X.K b H a xs):∃Ys:List ay,Vals xs Ys/\SrcSq b s.heap a Ys.toArray/\xs.length<=sizeLine:=by
 cases b with
 |true=>obtain⟨Ys,r,p,z⟩:=I.list (show SqL X.K H a xs from h);exact⟨Ys,r,p.isList,z⟩
 |false=>obtain⟨Ys,r,p,z⟩:=I.tuple (show ie X.K H a xs from h);exact⟨Ys,r,p,z⟩
theorem Inv.src_inj(I:Inv X Ym Z H s)(h:BB X.K b H a xs)(h':BB X.K b H a ys):xs=ys:=by
 cases b with
 |true=>exact I.list_inj (show SqL X.K H a xs from h) h'
 |false=>exact I.tuple_inj (show ie X.K H a xs from h) h'
theorem Inv.src_ne(I:Inv X Ym Z H s)(h:BB X.K b H a xs)(f:fR X Ym H it):a≠it:=by
 obtain⟨j,f1,p,n,u,q⟩:=f;intro e;subst e;have g:∀o,X.K.lookup a=ap o->False:=λo c=>by
  have m:=I.ok.mod.kin a o c;rcases n with z|z
  .exact I.ok.noex a o m z
  .exact absurd (Qc (Qb (I.ok.bs a o m).1) z) (QK _)
 cases b with
 |true=>
  rcases (show SqL X.K H a xs from h) with (z|⟨o,z⟩)|⟨o,_,_,c,_⟩
  .rw[j]at z;cases z
  .rw[j]at z;cases z
  .exact g o c
 |false=>
  rcases (show ie X.K H a xs from h) with (z|⟨o,z⟩)|⟨o,_,_,c,_⟩
  .rw[j]at z;cases z
  .rw[j]at z;cases z
  .exact g o c
end
theorem Inv.turned4{t':Nat}(I:Inv X Ym Z H s)(j:∀b∈fp,fR X Ym H b)(k:∀b o,b∉fp->s.heap.get? b=ap o->h'.get? b=ap o):Inv X Ym Z H { s with heap:=h',toks:=t' }:=by
 have g:∀b u,H b=ap u->b∉fp:=λb u e z=>by have:=(j b z).1;rw[e]at this;cases this
 refine I.step (g':=s.gens) (d':=s.drawn) (ch:=fp) (λb J=>?_) (λb o _ _ f e _=>k b o f e) (λb o _ _ f e _=>⟨o.slots,k b o f e⟩) (λ_ _ _ _ n=>n)
  (λb o f e=>⟨o,k b o f e⟩) (λ_ _ e=>e) (λ_ _ _ e=>e) (λb R e=>⟨#[],by rw[e];simp⟩) (λm G=>?_) (λb u e=>?_) I.bare
 .obtain⟨N,f1,O,B,F,p⟩:=j b J
  exact⟨B,f1,F,p⟩
 .obtain⟨o,L,M,C,r⟩:=G
  exact⟨o,L,M,k _ o (λz=>(j _ z).2.1 rfl) C,r⟩
 .refine (I.hok b u e).stay (λc v f q=>k c v ?_ q) (λ_ q=>q) λ_ _ q=>q
  rcases f with z|z
  .rw[z];exact g b u e
  .exact g c _ z
theorem Inv.turnedNew{t':Nat}{zs:List V}{us:Yw}{p:Obj}(I:Inv X Ym Z H s)(G:∀b∈fp,fR X Ym H b)(k:∀b o,b∉fp->s.heap.get? b=ap o->h'.get? b=ap o)(hlt:∀b∈fp,∃o,s.heap.get? b=ap o)(hlv:∀b∈fp,∃o,h'.get? b=ap o)(hT:h'.get? s.heap.objs.size=ap p)(J:p.cls=.type "tuple")(L:∃n,p.data=.seq us.toArray n)(r:Vals zs us)(F:p.dict=cm)(hz:zs.length<=sizeLine):Inv X Ym Z (upd H s.heap.objs.size<|.tup zs) { s with heap:=h',toks:=t' }:=by
 have f:H s.heap.objs.size=none:=I.hok.fresh (PZ _);have j:∀b u,H b=ap u->b∉fp:=λb u e z=>by have:=(G b z).1;rw[e]at this;cases this
 refine I.step (g':=s.gens) (d':=s.drawn) (ch:=fp) (λb B=>?_) (λb o _ _ g e _=>k b o g e) (λb o _ _ g e _=>⟨o.slots,k b o g e⟩) (λb o _ e n=>by rw[aK (Qk<|Qb e)];exact n)
  (λb o g e=>⟨o,k b o g e⟩) (λb C e=>by rw[aK (bc e f)];exact e) (λb o u e=>by rw[aK (bc e f)];exact e) (λb ps e=>⟨#[],by rw[aK (bc e f),e];simp⟩) (λm U=>?_) (λb u e=>?_) I.bare
 .obtain⟨f0,f1,f2,N,R,M⟩:=G b B
  exact⟨N,f1,R,M⟩
 .obtain⟨o,W,Y,O,r⟩:=U
  exact⟨o,W,Y,k _ o (λz=>(G _ z).2.1 rfl) O,r⟩
 .by_cases B:b=s.heap.objs.size
  .subst B
   rw[upd_same]at e;cases e;obtain⟨n,S⟩:=L;exact⟨hz,us,r,⟨p,hT,⟨J,n,S⟩,F⟩⟩
  .rw[aK B]at e
   refine (I.hok b u e).stay (λc v g q=>k c v ?_ q) (λc q=>by rw[aK (bc q f)];exact q) λc C q=>by rw[aK (bc q f)];exact q
   rcases g with z|z
   .rw[z];exact j b u e
   .exact j c _ z
section
def Ite(K:PY)(b:Bool)(l:eg):It:=
 ⟨λi H=>∃xs x,BB K b H l xs/\xs[i]?=ap x,
  λi H v H'=>∃T x,H T=cm/\v=.ref T/\H'=upd H T (.tup [.int i,x])/\(∀xs,BB K b H l xs->xs[i]?=ap x),
  λi H=>∃xs,BB K b H l xs/\xs.length<=i⟩
end
section
theorem Draws.src(u:A.handled=cm)(b:Bool)(it l:eg)(j:l≠it)(items:YD):
  Draws prog w A it [it,l] items.size (λi v=>items[i]?=ap v) (λi h=>SrcTn b it l i h/\SrcSq b h l items) where
 live:=λ_ _ c=>let ⟨o,ho,_⟩:=c.1.lt;⟨o,ho⟩
 frame:=λ_ _ _ c n=>⟨c.1.keep λo e=>n it (by simp) o e,c.2.keep λo e=>n l (by simp) o e⟩
 item:=λi s Q E m c p=>by
  refine bT c.1 c.2 (x:=items[i]) (by simp[m]) λh' g f=>?_
  exact p _ h' s.toks (by simp[m]) ⟨g,c.2.keep λo e=>f.extBut _ o j e⟩ f
 done:=λs Q E c q=>dL u c.1 c.2 (by simp) q
theorem uQ(b:Bool)(l:eg)(items:YD):
  XS (Builtin.«enumerate.__new__» ⟨[.type "enumerate",.ref l],[]⟩) (λ_ R s=>SrcSq b s.heap l items/\
   R (.ok<|.ret<|.ref (s.heap.push { cls:=.type (aV b),data:=.fields #[.ref l,.int 0 0] }).objs.size)
    { s with heap:=(s.heap.push { cls:=.type (aV b),data:=.fields #[.ref l,.int 0 0] }).push { cls:=.type "enumerate",data:=.fields #[.none,.bool eC,.ref s.heap.objs.size,wh 0,.none,.none] } }):=
 .of_wp λprog w A R s h=>by
  obtain⟨j,g,d,m,n⟩:=s;obtain⟨o,h⟩:=h;have f:=sub_enumerate;have e:SrcSq b (Vt ⟨j,g,d,m,n⟩) l items:=o
  wp_walk
  refine wpAny_stack_any λp=>fe ?_
  split
  .rename_i c _ _ _ _ _
   cases (c==UR "enumerate")
   .wp_walk using dH e
    exact⟨_,rfl,h⟩
   .wp_walk using dH e
    exact⟨_,rfl,h⟩
  .wp_walk using dH e
   exact⟨_,rfl,h⟩
theorem AR{l:eg}(f:SrcSq b s.heap l items)(h:∀h',IsEnum h' (s.heap.objs.size+1) s.heap.objs.size 0 .none->SrcTn b s.heap.objs.size l 0 h'->h'.objs.size=s.heap.objs.size+2->
   (∀b o,s.heap.get? b=ap o->h'.get? b=ap o)->Q (.ref (s.heap.objs.size+1)) { s with heap:=h' }):
  eH (fv prog w) A (call (.type "enumerate") [.ref l]) Q E s:=by
 refine Ya F.called_enumerate (by decide) (F.typeCall_enumerate_1 _) (F.newCall_enumerate_1 _) (λobj=>F.args_object_init_2 obj _) F.entry_enumerate_new (uQ b l items) ⟨f,?_⟩
 have c:(s.heap.push { cls:=.type (aV b),data:=.fields #[.ref l,.int 0 0] }).objs.size=s.heap.objs.size+1:=QF ..;show _/\_;rw[c]
 have e:IsEnum ((s.heap.push { cls:=.type (aV b),data:=.fields #[.ref l,.int 0 0] }).push
   { cls:=.type "enumerate",data:=.fields #[.none,.bool eC,.ref s.heap.objs.size,wh 0,.none,.none] }) (s.heap.objs.size+1) s.heap.objs.size 0 .none:=by
  have:=Qg (s.heap.push { cls:=.type (aV b),data:=.fields #[.ref l,.int 0 0] })
   (o:={ cls:=.type "enumerate",data:=.fields #[.none,.bool eC,.ref s.heap.objs.size,wh 0,.none,.none] }) rfl
  rw[c]at this;exact this
 refine⟨⟨_,e,rfl⟩,h _ e (pw<|PR _<|Qg _ rfl) (by rw[QF,c]) λb o x=>PR _ (PR _ x)⟩
end
theorem B3{S:Yy}{x1:Nat}{tp:Pos}(b:Bool)(l e it:eg)(N:e≠it):
  Turn P w K (.Tuple S x1 tp) (Ite K b l) [e,it] e (λi h=>(∃m,IsEnum h e it i m)/\SrcTn b it l i h) where
 mem:=by simp
 obj:=λi h C c f=>by
  obtain⟨⟨m,n⟩,J⟩:=C;have g:c=e\/c=it:=by simpa using f
  rcases g with q|q<;>subst q
  .exact⟨_,n,λv z=>nomatch z⟩
  .exact J.lt
 keep:=λi h h' C k=>by
  obtain⟨⟨m,n⟩,J⟩:=C;exact⟨⟨m,k e (by simp) _ n⟩,J.keep λo q=>k it (by simp) o q⟩
 item:=by
  intro X hP hw hK f i Ym s Z H E I L C hg;subst hP hw hK;obtain⟨xs,x,M,U⟩:=hg;obtain⟨⟨m,n⟩,J⟩:=C;obtain⟨j,r,sq,z1⟩:=I.src M;obtain⟨u,hu,ru⟩:=r.get U;have hle:l≠e:=I.src_ne M (L e<|by simp)
  have O:l≠it:=I.src_ne M (L it<|by simp)
  have hil:i<j.toArray.size:=by
   rw[Qd,<- r.length];exact(Ry.mp U).1
  have D:Draws X.prog X.w X.A.in1 it [it,l] j.toArray.size (λi v=>j.toArray[i]?=ap v) (λi h=>SrcTn b it l i h/\SrcSq b h l j.toArray):=Draws.src (A:=X.A.in1) (I.ok.hd f) b it l O j.toArray;refine wpAny_pyNext_enum_itemD D n ⟨J,sq⟩ hil N (by simp[N,Qu hle]) λv h' W hv ho hs' Y hsz hk=>?_
  have ev:v=u:=by
   have hu':j.toArray[i]?=ap u:=by simpa using hu
   rw[hu']at hv;exact(QX hv).symm
  subst ev;refine⟨_,rfl,wpAny_letOwnedTupleGo_enum ho λB G p=>?_⟩;have hes:e≠s.heap.objs.size:=Qk (Qb n);have n1:SrcTn b it l (i+1) B:=hs'.1.keep λo q=>p.extBut _ o N.symm q;have kk:∀c o,c∉[e,it]->s.heap.get? c=ap o->B.get? c=ap o:=λc o f q=>
   p.extBut c o (λz=>f (by simp[z])) (hk c o (λz=>f (by simp[z])) (λz=>f (by simp[z])) q)
  have hT':B.get? s.heap.objs.size=ap { cls:=.type "tuple",data:=.seq #[.int i W,v] }:=p.extBut _ _ hes.symm Y;have lv:∀c∈[e,it],∃o,s.heap.get? c=ap o:=λc f=>by
   have g:c=e\/c=it:=by simpa using f
   rcases g with q|q<;>subst q
   .exact⟨_,n⟩
   .obtain⟨o,q,_⟩:=J.lt;exact⟨o,q⟩
  have lv':∀c∈[e,it],∃o,B.get? c=ap o:=λc f=>by
   have g:c=e\/c=it:=by simpa using f
   rcases g with q|q<;>subst q
   .exact⟨_,G⟩
   .obtain⟨o,q,_⟩:=n1.lt;exact⟨o,q⟩
  have hTn:H s.heap.objs.size=none:=I.hok.fresh (PZ _);refine⟨.ref s.heap.objs.size,_,I.turnedNew (s:=s) (h':=B) (t':=W+1) (zs:=[.int i,x]) (us:=[.int i W,v]) L kk lv lv' hT' rfl ⟨_,rfl⟩ (.cons ⟨W,rfl⟩<|.cons ru .nil) rfl (by show 2<=sizeLine;decide),rfl,⟨_,x,hTn,rfl,rfl,λzs R=>?_⟩,⟨⟨v,by simpa using G⟩,n1⟩,λc f=>?_⟩
  .rw[I.src_inj R M];exact U
  .obtain⟨o,q⟩:=lv c f
   rw[aK (Qk<|Qb q)];exact(L c f).1
 done:=by
  intro X hP hw hK f i Ym s Z H E I L C hg;subst hP hw hK;obtain⟨xs,M,U⟩:=hg;obtain⟨⟨m,n⟩,J⟩:=C;obtain⟨j,r,sq,z1⟩:=I.src M;have O:l≠it:=I.src_ne M (L it<|by simp)
  have Y:s.TypeIs (.ref e) "enumerate":=⟨_,n,rfl⟩;have hl:=r.length;unfold Sc
  refine ax (SC (wpAny_callSpecial?_slot (name:=QI "__next__") Y V4
   (nr V4 Y F.entry_enumerate_next ?_<|F.args_enumerate_next_1 _)))
  show eH _ _ (W8 (.ref e) 2 >>= _) _ _ _;refine ax (hB n rfl (x:=.ref it) rfl ?_);refine ax (dL (I.ok.hd f) J sq (by simp;lia) λh' x he' hx'=>?_)
  obtain⟨o,ho,hcl⟩:=hx';refine ax (Xd (T:="StopIteration") (b:=true) ⟨o,ho,hcl⟩ XI ?_);exact fe ⟨rfl,I.turned4 (t':=s.toks) L λc o' g q=>he' c o' (λz=>g (by simp[z])) q⟩
 self:=λ_ _ _ _ _ C h=>let ⟨⟨_,n⟩,_⟩:=C;wpAny_pyIter_enum n h
section
theorem sQ:bQ X (.builtin "isinstance") (λxs H Q=>∃x T t b,xs=[x,.ty T]/\TyOf X.K H x t/\W.kitOne X.K t (.type T)=ap b/\Q (.bl b) H):=by
 intro Ym s Z H xs m Q I r h;obtain⟨x,T,t,b,rfl,ty,e,q⟩:=h;obtain⟨u,c,rfl,g,f⟩:=r.two;obtain rfl:c=UR T:=f;exact Bg I g ty e λj=>⟨.bl b,H,I.tok j,rfl,q⟩
end
abbrev Fh(h:hI)(z TI TO:eg)(f0:ay)(f1:Bool):Prop:=
 h.get? z=ap { cls:=.type "zip",dict:=cm,data:=.fields #[f0,.bool f1,.bool eC,.ref TI,.ref TO],slots:=#[] }
theorem fm:Xn Yg "zip.__getattribute__"=ap Builtin.«object.__getattribute__»:=
 XJ (id':="object.__getattribute__") (by kernel_rfl) (by decide +kernel) (by decide +kernel) (by kernel_rfl)
theorem jF:Re (.type "zip") "__getattr__"=pure none:=by rw[py,kr];kernel_rfl
theorem tK:Re (.type "zip") "keys"=pure none:=by rw[py,kr];kernel_rfl
theorem bA:Xn Yg "dict.update.loop"=ap Builtin.«dict.update.loop»:=entryFor_of_fast (by kernel_rfl)
theorem aS:plainId "dict.update.loop"=true:=by decide +kernel
theorem m_(a TI TO:eg)(p:ay)(f1:Bool)(name:Str)(u:Tok)(f:Re (.type "zip") name=pure cm)(c:(["__module__","__name__","__qualname__","__doc__","__annotations__"]:Yv).contains name=eC)(hsz:name.length+100<=sizeLine:=by size_fits):
  XS (Builtin.«object.__getattribute__» ⟨[.ref a,.str name u],[]⟩) (λA R s=>Fh s.heap a TI TO p f1/\raisesAttr (.ref a) name A R s):=
 Meets.of_wp λprog w A R s e=>by
  obtain⟨j,g,d,n,o⟩:=s;obtain⟨m,e⟩:=e;have q:(⟨j,g,d,n,o⟩:el).TypeIs (.ref a) "zip":=⟨_,m,rfl⟩;unfold Builtin.«object.__getattribute__»
  repeat (any_goals (first|assumption|wp_step))
  simp only[c,QA,if_false]
  repeat (any_goals (first|assumption|wp_step))
  exact Ye e.1 e.2 (attrMsg_fits (by decide +kernel) hsz)
section
theorem nS{TI TO:eg}{m:ay}{Q:Option ay->el->Prop}(n:Fh s.heap a TI TO m f1)(B:A.handled=cm)(h:∀h' p,(∀b o,s.heap.get? b=ap o->h'.get? b=ap o)->Q cm { s with heap:=h',toks:=p }):eH (fv prog w) A (Yk (.ref a) "keys") Q E s:=by
 obtain⟨q,g,d,p,v⟩:=s;have j:∀f,(⟨q,g,d,f,v⟩:el).TypeIs (.ref a) "zip":=λ_=>⟨_,n,rfl⟩;have u:=sub_AttributeError;have G:=TM.lookup;have I:=TM.bind (.ref a);have C:=jF;unfold Yk getAttrBy? getAttrBy
 repeat (any_goals (first|assumption|exact j _|((with_reducible show eH _ _ (call (U2 "zip.__getattribute__") _ _) _ _ _);refine vb TM (j _) fm (F.args_zip_getattribute_2 _ _) (m_ a TI TO m f1 "keys" _ tK (by decide +kernel)<|by decide +kernel) ⟨n,B,λh' f e c=>?_⟩)|wp_step))
 obtain⟨t',J,L⟩:=c.there;show eH _ _ (W6 _ _ _ _ _ _ _) _ _ _;unfold W6
 repeat (any_goals (first|assumption|wp_step))
 exact h _ _ c.keeps
theorem nq{M:Model}{o:Obj}{Q:Option Obj->el->Prop}(c:s.heap.get? a=ap o)(h:Q (ap o) s):eH M A (Yj a) Q E s:=λΓ p _=>by
 show Sem.wp M Γ (.loadIfAlive a .pure) _ _ p s;rw[Sem.wp_loadIfAlive,c];exact h
end
section
theorem Ay{TI TO:eg}(D:ZApart z TI TO i1 i2)(O1:l1≠z/\l1≠i1)(O2:l2≠z/\l2≠i1/\l2≠i2)(u:Fh s.heap z TI TO (wh T) f1)(hT:s.heap.get? T=ap oT)(G:tm s.heap TI (.ref i1) (.ref i2))(h1:SrcTn b1 i1 l1 k1 s.heap)(h2:SrcTn b2 i2 l2 k2 s.heap)(J:SrcSq b1 s.heap l1 xs)(I:SrcSq b2 s.heap l2 ys)(Y:xs[k1]?=ap x)(hy:ys[k2]?=ap y)(hQ:∀h',Fh h' z TI TO (wh T) true->SrcTn b1 i1 l1 (k1+1) h'->SrcTn b2 i2 l2 (k2+1) h'->tm h' s.heap.objs.size x y->h'.objs.size=s.heap.objs.size+1->
   (∀c o,c≠z->c≠i1->c≠i2->s.heap.get? c=ap o->h'.get? c=ap o)->Q (.ref s.heap.objs.size) { s with heap:=h' }):
  eH (fv prog w) A (Builtin.«zip.__next__» ⟨[.ref z],[]⟩) (λfin B=>∃v,fin=.done (.ret v)/\Q v B) E s:=by
 show eH _ _ (W8 (.ref z) 2 >>= _) _ _ _;refine ax (hB u rfl (x:=.bool eC) rfl ?_);show eH _ _ (W8 (.ref z) 3 >>= _) _ _ _;refine ax (hB u rfl (x:=.ref TI) rfl ?_);refine ax (pt G rfl ?_);show eH _ _ (QP (.ref z) >>= _) _ _ _;refine ax ?_;unfold QP;refine ax (hB u rfl (x:=wh T) rfl ?_);show eH _ _ (Yj _ >>= _) _ _ _;refine ax (nq (o:=oT) (by simpa using hT) ?_)
 simp only[VU,QA,if_false];refine ax (hB u rfl (x:=.bool f1) rfl ?_)
 have go:eH (fv prog w) A (if (R5 f1 != R5 true)=true then do Yh (Qs z) 1 (R5 true);pure eC else pure eC)
   (λa B=>a=eC/\∃f,B={ s with heap:=f }/\Fh f z TI TO (wh T) true/\(∀c o,c≠z->s.heap.get? c=ap o->f.get? c=ap o)/\f.objs.size=s.heap.objs.size) E s:=by
  cases f1 with
  |true=>
   rw[if_neg (by decide)]
   exact fe ⟨rfl,s.heap,rfl,u,λ_ _ _ e=>e,rfl⟩
  |false=>
   rw[if_pos (by decide)]
   refine ax (p3 u (by simp) λf g n=>fe ⟨rfl,f,rfl,g,λc o S e=>n.extBut c o S e,n.1⟩)
 refine n7 go (λa B N=>?_) λ_ _ e=>e;obtain⟨rfl,f,rfl,g,hk₀,n⟩:=N;simp only[QA,if_false];rw[<- V3];simp only[UN,TY];refine ax (ax<|wpAny_bind<|wpAny_holding ?_);show eH _ _ (Qx (.ref i1) >>= _) _ _ _;refine ax (bT (s:={ s with heap:=f }) (h1.keep λo e=>hk₀ _ o D.i1z e) (J.keep λo e=>hk₀ _ o O1.1 e) Y λj p hs₂=>fe ?_);refine fe ?_;refine ax (ax<|wpAny_holding ?_);show eH _ _ (Qx (.ref i2) >>= _) _ _ _;refine ax (bT (s:={ s with heap:=j }) (h2.keep λo e=>hs₂.extBut _ o D.i12.symm (hk₀ _ o D.i2z e)) (I.keep λo e=>hs₂.extBut _ o O2.2.1 (hk₀ _ o O2.1 e)) hy λm C hs₃=>fe ?_);refine fe (fe ?_);refine ax (XH (fe ⟨_,rfl,?_⟩)<|by show 2<=sizeLine;decide)
 have L:j.objs.size=f.objs.size:=hs₂.1;have M:m.objs.size=j.objs.size:=hs₃.1;have q:m.objs.size=s.heap.objs.size:=by rw[M,L,n]
 have R:z≠i1:=D.i1z.symm;have F:z≠i2:=D.i2z.symm;show Q (.ref m.objs.size) _;rw[q];refine hQ _ (PR _<|hs₃.extBut _ _ F<|hs₂.extBut _ _ R g) (p.keep λo e=>PR _ (hs₃.extBut _ o D.i12 e)) (C.keep λo e=>PR _ e) ?_ ?_ λc o U W O e=>PR _ (hs₃.extBut _ _ O<|hs₂.extBut _ _ W<|hk₀ c o U e)
 .rw[<- q]
  exact Qg _ rfl
 .rw[QF,q]
theorem C6{b2:Bool}{TI TO l2:eg}{k2:Nat}{ys:YD}{Q:Fin->el->Prop}(N:A.handled=cm)(D:ZApart z TI TO i1 i2)(O1:l1≠z/\l1≠i1)(n:Fh s.heap z TI TO (wh T) f1)(S:s.heap.get? T=ap oT)(v:tm s.heap TI (.ref i1) (.ref i2))(O:SrcTn b1 i1 l1 k1 s.heap)(B:SrcSq b1 s.heap l1 xs)(M:xs[k1]?=cm)(R:∀h' e,(∀c o,c≠z->c≠i1->s.heap.get? c=ap o->h'.get? c=ap o)->(∃o,h'.get? e=ap o/\o.cls=.type "StopIteration")->E (.ref e) { s with heap:=h' }):
  eH (fv prog w) A (Builtin.«zip.__next__» ⟨[.ref z],[]⟩) Q E s:=by
 show eH _ _ (W8 (.ref z) 2 >>= _) _ _ _;refine ax (hB n rfl (x:=.bool eC) rfl ?_);show eH _ _ (W8 (.ref z) 3 >>= _) _ _ _;refine ax (hB n rfl (x:=.ref TI) rfl ?_);refine ax (pt v rfl ?_);show eH _ _ (QP (.ref z) >>= _) _ _ _;refine ax ?_;unfold QP;refine ax (hB n rfl (x:=wh T) rfl ?_);show eH _ _ (Yj _ >>= _) _ _ _;refine ax (nq (o:=oT) (by simpa using S) ?_)
 simp only[VU,QA,if_false];refine ax (hB n rfl (x:=.bool f1) rfl ?_)
 have go:eH (fv prog w) A (if (R5 f1 != R5 true)=true then do Yh (Qs z) 1 (R5 true);pure eC else pure eC)
   (λa C=>a=eC/\∃f,C={ s with heap:=f }/\(∀c o,c≠z->s.heap.get? c=ap o->f.get? c=ap o)) E s:=by
  cases f1 with
  |true=>
   rw[if_neg (by decide)]
   exact fe ⟨rfl,s.heap,rfl,λ_ _ _ e=>e⟩
  |false=>
   rw[if_pos (by decide)]
   refine ax (p3 n (by simp) λf u p=>fe ⟨rfl,f,rfl,λc o G e=>p.extBut c o G e⟩)
 refine n7 go (λa C F=>?_) λ_ _ e=>e;obtain⟨rfl,f,rfl,g⟩:=F;simp only[QA,if_false];rw[<- V3];simp only[UN,TY];refine ax (ax<|wpAny_bind<|wpAny_holding ?_);show eH _ _ (Qx (.ref i1) >>= _) _ _ _;exact ax (dL (s:={ s with heap:=f }) N (O.keep λo e=>g _ o D.i1z e) (B.keep λo e=>g _ o O1.1 e) M λm e j J=>R m e (λc o I L q=>j _ _ L (g c o I q)) J)
theorem jG{TI TO:eg}{Q:Option ay->el->Prop}(D:ZApart z TI TO i1 i2)(O1:l1≠z/\l1≠i1)(O2:l2≠z/\l2≠i1/\l2≠i2)(m:Fh s.heap z TI TO (wh T) f1)(J:s.heap.get? T=ap oT)(g:tm s.heap TI (.ref i1) (.ref i2))(F:SrcTn b1 i1 l1 k1 s.heap)(I:SrcTn b2 i2 l2 k2 s.heap)(j:SrcSq b1 s.heap l1 xs)(f:SrcSq b2 s.heap l2 ys)(C:xs[k1]?=ap x)(G:ys[k2]?=ap y)(L:∀h',Fh h' z TI TO (wh T) true->SrcTn b1 i1 l1 (k1+1) h'->SrcTn b2 i2 l2 (k2+1) h'->tm h' s.heap.objs.size x y->h'.objs.size=s.heap.objs.size+1->
   (∀c o,c≠z->c≠i1->c≠i2->s.heap.get? c=ap o->h'.get? c=ap o)->Q (ap<|.ref s.heap.objs.size) { s with heap:=h' }):eH (fv prog w) A (Sc<|.ref z) Q E s:=by
 have e:s.TypeIs (.ref z) "zip":=⟨_,m,rfl⟩;unfold Sc
 exact ax (SC (wpAny_callSpecial?_slot (name:=QI "__next__") e Sq
  (nr Sq e UU (Ay D O1 O2 m J g F I j f C G λh' u n v p q B=>fe (L h' u n v p q B))<|UH _)))
theorem kb{TI TO:eg}{Q:Option ay->el->Prop}(B:A.handled=cm)(D:ZApart z TI TO i1 i2)(O1:l1≠z/\l1≠i1)(m:Fh s.heap z TI TO (wh T) f1)(F:s.heap.get? T=ap oT)(g:tm s.heap TI (.ref i1) (.ref i2))(C:SrcTn b1 i1 l1 k1 s.heap)(j:SrcSq b1 s.heap l1 xs)(v:xs[k1]?=cm)(G:∀h',(∀c o,c≠z->c≠i1->s.heap.get? c=ap o->h'.get? c=ap o)->Q cm { s with heap:=h' }):eH (fv prog w) A (Sc<|.ref z) Q E s:=by
 have f:s.TypeIs (.ref z) "zip":=⟨_,m,rfl⟩;unfold Sc
 refine ax (SC (wpAny_callSpecial?_slot (name:=QI "__next__") f Sq
  (nr Sq f UU (C6 (b2:=true) (l2:=l1) (k2:=0) (ys:=#[]) B D O1 m F g C j v λh' e p u=>?_)<|UH _)))
 obtain⟨o,n,q⟩:=u;refine ax (Xd (T:="StopIteration") (b:=true) ⟨o,n,q⟩ XI ?_);exact fe (G _ p)
end
theorem AN{K:Type}[DecidableEq K]{knd:KeyKind prog w K}{R:XR->el->Prop}{TI TO d:eg}{xs ys:Yw}{ks:List K}(hh:A.handled=cm)(D:ZApart z TI TO i1 i2)(O1:l1≠z/\l1≠i1/\l1≠i2/\l1≠d)(O2:l2≠z/\l2≠i1/\l2≠i2/\l2≠d)(Od:d≠z/\d≠i1/\d≠i2/\d≠TI/\d≠T)(OT:T≠z/\T≠i1/\T≠i2)(hk:Xi (λk v=>knd.is k v=true) ks xs)(hl:xs.length=ys.length)(hz:xs.length<=1000):
  ∀(n i:Nat)(s:el)(f1:Bool)(Yo:List (K×ay)),n=xs.length-i->i<=xs.length->Yo.length<=i->Fh s.heap z TI TO (wh T) f1->(∃oT,s.heap.get? T=ap oT)->tm s.heap TI (.ref i1) (.ref i2)->
   SrcTn b1 i1 l1 i s.heap->SrcTn b2 i2 l2 i s.heap->SrcSq b1 s.heap l1 xs.toArray->SrcSq b2 s.heap l2 ys.toArray->s.heap.DictOf knd d Yo->
   (∀s':el,s'.os=s.os->s'.gens=s.gens->s'.drawn=s.drawn->s'.heap.DictOf knd d (((ks.zip ys).drop i).foldl (λa p=>Xb a p.1 p.2) Yo)->(∀c o,c≠z->c≠i1->c≠i2->c≠d->s.heap.get? c=ap o->s'.heap.get? c=ap o)->R (.ok<|.ret .none) s')->
   ∀tk:Nat,SZ (fv prog w) A (.builtin "dict.update.loop" ⟨[.ref d,.ref z,wh tk,.none],[]⟩) R s:=by
 intro n
 induction n with
 |zero=>
  intro i s f1 Yo hn hi hkl I F C G S s1 s2 hd hR tk;obtain⟨oT,F⟩:=F;have hin:i=xs.length:=by lia
  refine Wp bA ?_;rw[R0 aS _];show eH _ A.in1 (Sc (.ref z) >>= _) _ _ s;refine ax (kb hh D ⟨O1.1,O1.2.1⟩ I F C G s1 (by simp;lia) λh' u=>?_)
  refine ax (m:=Uk d []) (fe ?_);refine fe (hR _ rfl rfl rfl ?_ λc o J L c3 Y e=>u c o J L e);rw[TH (by have e:=Rn hk;rw[TQ];lia)]
  obtain⟨o,es,ep,ho,r⟩:=hd;exact⟨o,es,ep,u d o Od.1 Od.2.1 ho,r⟩
 |succ n ih=>
  intro i s f1 Yo hn hi hkl I F C G S s1 s2 hd hR tk;obtain⟨oT,F⟩:=F;have B:i<xs.length:=by lia
  have M:i<ys.length:=by lia
  refine Wp bA ?_;rw[R0 aS _];show eH _ A.in1 (Sc (.ref z) >>= _) _ _ s;refine ax (jG (x:=xs[i]) (y:=ys[i]) D ⟨O1.1,O1.2.1⟩ ⟨O2.1,O2.2.1,O2.2.2.1⟩ I F C G S s1 s2 (by simp[B]) (by simp[M]) λh' a1 a2 a3 a4 a5 u=>?_)
  have hTy:({ s with heap:=h' }:el).TypeIs (.ref s.heap.objs.size) "tuple":=⟨_,a4,rfl⟩;refine ax (pa<|wpAny_bind<|wpAny_tryCatch ?_);unfold S8;refine ax (Tl hTy ?_);rw[if_pos (by decide)]
  refine ax (pt (s:={ s with heap:=h' }) a4 rfl<|wpAny_pure ?_);have hd':h'.DictOf knd d Yo:=by
   obtain⟨o,es,ep,ho,r⟩:=hd;exact⟨o,es,ep,u d o Od.1 Od.2.1 Od.2.2.1 ho,r⟩
  have hks:i<ks.length:=by rw[Rn hk];exact B
  have W:knd.is ks[i] xs[i]=true:=by
   have:∀{q:List K}{f:Yw},Xi (λk v=>knd.is k v=true) q f->∀(j:Nat)(G:j<q.length)(S:j<f.length),knd.is q[j] f[j]=true:=by
    intro q f p
    induction p with
    |nil=>intro j G;exact absurd G (S1 _)
    |cons r _ ihp=>
     intro j G S;cases j with
     |zero=>exact r
     |succ j=>exact ihp j (by simpa using G) (by simpa using S)
   exact this hk i hks B
  have hkz:Yo.length<=sizeLine:=Qp (Qp hkl hi) (Qp hz<|by decide)
  show eH _ _ (va [xs[i],ys[i]]<|dictSet d xs[i] ys[i]) _ _ _;refine pa (Xr (s:={ s with heap:=h' }) W hd' (λN O g=>?_) hkz);have U:∀c o,c≠z->c≠i1->c≠i2->c≠d->s.heap.get? c=ap o->N.get? c=ap o:=λc o J L c3 Y e=>g.extBut c o Y (u c o J L c3 e);refine fe ⟨Xc aS _,?_⟩;have hst:(Xb Yo ks[i] ys[i]).length<=i+1:=by
   unfold Xb
   split
   .rw[PQ];lia
   .rw[PX,Rc];lia
  refine ih (i+1) { s with heap:=N,toks:=s.toks+1 } true (Xb Yo ks[i] ys[i]) (by lia) B hst (g.extBut _ _ Od.1.symm a1) ⟨oT,U T oT OT.1 OT.2.1 OT.2.2 Od.2.2.2.2.symm F⟩ (U TI _ D.TIz D.TIi1 D.TIi2 Od.2.2.2.1.symm C)
   (a2.keep λo e=>g.extBut _ o Od.2.1.symm e) (a3.keep λo e=>g.extBut _ o Od.2.2.1.symm e) (s1.keep λo e=>U l1 o O1.1 O1.2.1 O1.2.2.1 O1.2.2.2 e) (s2.keep λo e=>U l2 o O2.1 O2.2.1 O2.2.2.1 O2.2.2.2 e) O ?_ (tk+1)
  intro s' q1 q2 q3 q4 q5;refine hR s' q1 q2 q3 ?_ λc o J L c3 Y e=>q5 c o J L c3 Y (U c o J L c3 Y e);have ez:(ks.zip ys).drop i=(ks[i],ys[i])::(ks.zip ys).drop (i+1):=by
   rw[Sg (by rw[TQ];lia)]
   simp
  rw[ez,QW];exact q4
namespace F
theorem mro_dict:mroOf (.type "dict")=pure [.type "dict",.type "object"]:=by rw[mroOf_type];kernel_rfl
theorem ka:Re (.type "dict") "__new__"=pure (ap<|.builtin "dict.__new__"):=by rw[py,kr];kernel_rfl
theorem called_dict:TypeCalled "dict" "dict.__new__" "dict.__init__":=
 ⟨by decide +kernel,by decide +kernel,⟨_,_,mro_dict⟩,madeBy_type mro_dict ka (by decide +kernel),by decide +kernel,by rw[x9];kernel_rfl,PySem.F.slot_dict_init⟩
theorem typeCall_dict_1(a:ay):checkTypeCall "dict" ⟨[a],[]⟩=pure ():=by kernel_rfl
theorem newCall_dict_1(a:ay):checkBuiltinCall "dict.__new__" ⟨[.type "dict",a],[]⟩=pure ():=by kernel_rfl
theorem entry_dict_new:Xn Yg "dict.__new__"=ap Builtin.«dict.__new__»:=entryFor_of_tree (by kernel_rfl)
theorem plain_dict_new:plainId "dict.__new__"=true:=by decide +kernel
theorem sub_dict:isSubtype (.type "dict") (.type "dict")=pure true:=by rw[x9];kernel_rfl
end F
section
variable{K:Type}[DecidableEq K]{knd:KeyKind prog w K}
theorem hZ(a:ay){Q₁:YA}(h:Q₁ (.ref s.heap.objs.size) { s with heap:=s.heap.push { cls:=.type "dict",data:=.dict #[] } }):
  SZ (fv prog w) A (.call (.builtin "dict.__new__") ⟨[.type "dict",a],[]⟩) (wants Q₁ E) s:=by
 refine codeAny_call_builtin F.plain_dict_new F.entry_dict_new (Tk (F.newCall_dict_1 a) ?_);have e:=F.sub_dict;have c:=F.mro_dict;obtain⟨j,g,d,m,f⟩:=s;unfold Builtin.«dict.__new__»
 wp_walk
 exact h
theorem nV{TI TO:eg}{xs ys:Yw}{ks:List K}(hh:A.handled=cm)(D:ZApart z TI TO i1 i2)(O1:Mt z TO i1 i2 l1)(O2:Mt z TO i1 i2 l2)(Y:XA s.heap z TI TO .none)(W:tm s.heap TI (.ref i1) (.ref i2))(J:∃a b,tm s.heap TO a b)(h1:SrcTn b1 i1 l1 0 s.heap)(h2:SrcTn b2 i2 l2 0 s.heap)(M:SrcSq b1 s.heap l1 xs.toArray)(L:SrcSq b2 s.heap l2 ys.toArray)(hk:Xi (λk v=>knd.is k v=true) ks xs)(hl:xs.length=ys.length)(N:0<xs.length)(hzz:xs.length<=1000)(h:∀s':el,s'.os=s.os->s'.gens=s.gens->s'.drawn=s.drawn->s'.heap.DictOf knd s.heap.objs.size ((ks.zip ys).foldl (λa p=>Xb a p.1 p.2) [])->
   (∀c o,c≠z->c≠TO->c≠i1->c≠i2->s.heap.get? c=ap o->s'.heap.get? c=ap o)->Q (.ref s.heap.objs.size) s'):
  eH (fv prog w) A (call (.type "dict") [.ref z]) Q E s:=by
 refine callType_codes (Q₁:=λobj O=>obj=.ref s.heap.objs.size/\O={ s with heap:=s.heap.push { cls:=.type "dict",data:=.dict #[] } }) F.called_dict (F.typeCall_dict_1 _) VS (hZ _ ⟨rfl,rfl⟩) ?_
 rintro obj O ⟨rfl,rfl⟩
 have B:(s.heap.push { cls:=.type "dict",data:=.dict #[] }).DictOf knd s.heap.objs.size []:=Vw s.heap;refine⟨B.typeIs,VM _ _,?_⟩;unfold Builtin.«dict.__init__»;refine ax ?_;unfold Uj;refine ax (wpAny_notOrdered_dict B.typeIs ?_);show eH _ _ (pure (s.heap.objs.size,[Qs z])) _ _ _;refine fe ?_;show eH _ _ (R8 "dict.__init__" s.heap.objs.size (.ref z) [] .none) _ _ _;unfold R8;have j:∀c o,s.heap.get? c=ap o->c≠s.heap.objs.size:=λc o e=>Qk (Qb e);have up:∀c o,s.heap.get? c=ap o->(s.heap.push { cls:=.type "dict",data:=.dict #[] }).get? c=ap o:=λc o e=>PR _ e;refine ax (Tl (T:="zip") ⟨_,up _ _ Y,rfl⟩ ?_);rw[if_pos (by decide)]
 refine ax (nS (f1:=eC) (s:={ s with heap:=s.heap.push { cls:=.type "dict",data:=.dict #[] } }) (up _ _ Y) hh λf n u=>?_);rw[if_pos (show (none:Option ay).isNone=true from rfl)];have up1:∀c o,s.heap.get? c=ap o->f.get? c=ap o:=λc o e=>u c o (up c o e);refine ax (PP<|wpAny_bind<|wpAny_pyIter_zip (s:={ s with heap:=f,toks:=n }) (up1 _ _ Y)<|wpAny_pure ⟨Xc aS _,Wp bA ?_⟩);rw[R0 aS _];show eH _ A.in1.in1 (Sc (.ref z) >>= _) _ _ _;obtain⟨a,b,J⟩:=J;have hlt2:0<ys.length:=by lia
 have hd1:f.DictOf knd s.heap.objs.size []:=by
  obtain⟨o,es,ep,ho,r⟩:=B;exact⟨o,es,ep,u _ o ho,r⟩
 have U:s.heap.objs.size≠z:=(j _ _ Y).symm;have S:s.heap.objs.size≠TI:=(j _ _ W).symm;have hnTO:s.heap.objs.size≠TO:=(j _ _ J).symm;have G:s.heap.objs.size≠i1:=by obtain⟨o,e,_⟩:=h1.lt;exact(j _ _ e).symm
 have C:s.heap.objs.size≠i2:=by obtain⟨o,e,_⟩:=h2.lt;exact(j _ _ e).symm
 have nl:∀{b:Bool}{l:eg}{us:YD},SrcSq b s.heap l us->l≠s.heap.objs.size:=λ{b l us} q=>by
  cases b with
  |true=>obtain⟨o,e,_⟩:=(show s.heap.IsList l us from q);exact j _ _ e
  |false=>obtain⟨o,e,_⟩:=(show s.heap.IsTuple l us from q);exact j _ _ e
 refine ax (ke (s:={ s with heap:=f,toks:=n }) (x:=xs[0]) (y:=ys[0]) D O1 O2 (up1 _ _ Y) (up1 _ _ W) (up1 _ _ J) (h1.keep λo e=>up1 _ o e) (h2.keep λo e=>up1 _ o e) (M.keep λo e=>up1 _ o e) (L.keep λo e=>up1 _ o e) (by simp[N]) (by simp[hlt2]) λm a1 a2 a3 a4 a5 a6 I=>?_)
 have hTy:({ s with heap:=m,toks:=n }:el).TypeIs (.ref f.objs.size) "tuple":=⟨_,a5,rfl⟩;refine ax (pa<|wpAny_bind<|wpAny_tryCatch ?_);unfold S8;refine ax (Tl hTy ?_);rw[if_pos (by decide)]
 refine ax (pt (s:={ s with heap:=m,toks:=n }) a5 rfl<|wpAny_pure ?_);have hks:0<ks.length:=by rw[Rn hk];exact N
 have hkey:knd.is ks[0] xs[0]=true:=by
  cases hk with
  |nil=>exact absurd N (QK _)
  |cons r _=>exact r
 have hd2:m.DictOf knd s.heap.objs.size []:=by
  obtain⟨o,es,ep,ho,r⟩:=hd1;exact⟨o,es,ep,I _ o U hnTO G C ho,r⟩
 show eH _ _ (va [xs[0],ys[0]]<|dictSet s.heap.objs.size xs[0] ys[0]) _ _ _;refine pa (Xr (s:={ s with heap:=m,toks:=n }) hkey hd2 (λR hd3 g=>?_)<|Rq _);refine fe ⟨Xc aS _,?_⟩;have T1:∀c o,f.get? c=ap o->f.objs.size≠c:=λc o e=>RB (Qb e);have hdl:s.heap.objs.size<f.objs.size:=by obtain⟨o,es,ep,ho,r⟩:=hd1;exact Qb ho
 have kk:∀c o,c≠z->c≠TO->c≠i1->c≠i2->c≠s.heap.objs.size->s.heap.get? c=ap o->R.get? c=ap o:=λc o c1 c2 c3 c4 c5 e=>g.extBut c o c5 (I c o c1 c2 c3 c4<|up1 c o e);have hst:(Xb ([]:List (K×ay)) ks[0] ys[0]).length<=1:=by simp[Xb]
 refine AN (A:=A.in1) (T:=f.objs.size) (l1:=l1) (l2:=l2) (xs:=xs) (ys:=ys) (ks:=ks) hh D ⟨O1.1,O1.2.2.1,O1.2.2.2,nl M⟩ ⟨O2.1,O2.2.2.1,O2.2.2.2,nl L⟩ ⟨U,G,C,S,Qk hdl⟩
  ⟨T1 _ _ (up1 _ _ Y),(by obtain⟨o,e,_⟩:=h1.lt;exact T1 _ _ (up1 _ _ e)),(by obtain⟨o,e,_⟩:=h2.lt;exact T1 _ _ (up1 _ _ e))⟩ hk hl hzz (xs.length-1) 1 { s with heap:=R,toks:=n+1 } eC (Xb [] ks[0] ys[0]) rfl N hst
  (g.extBut _ _ U.symm a1) ⟨_,g.extBut _ _ (RB hdl) a5⟩ (kk TI _ D.TIz D.TITO D.TIi1 D.TIi2 S.symm W) (a3.keep λo e=>g.extBut _ o G.symm e) (a4.keep λo e=>g.extBut _ o C.symm e)
  (M.keep λo e=>kk l1 o O1.1 O1.2.1 O1.2.2.1 O1.2.2.2 (nl M) e) (L.keep λo e=>kk l2 o O2.1 O2.2.1 O2.2.2.1 O2.2.2.2 (nl L) e) hd3 ?_ 1
 intro s' q1 q2 q3 q4 q5;refine⟨rfl,h s' q1 q2 q3 ?_ λc o c1 c2 c3 c4 e=>q5 c o c1 c3 c4 (j c o e) (kk c o c1 c2 c3 c4 (j c o e) e)⟩;have ez:ks.zip ys=(ks[0],ys[0])::(ks.zip ys).drop 1:=by
  have:=Sg (l:=ks.zip ys) (i:=0) (by rw[TQ];lia)
  simpa using this
 rw[ez,QW];exact q4
end
theorem jM:fillsNumberSlot (.type "tuple") "mul"=pure false:=
 PySem.fillsNumberSlot_seq (id:="tuple.__mul__") (r:=ap (.builtin "tuple.__rmul__")) RK.lookup (by decide +kernel) UX.lookup (by decide +kernel)
theorem rb:seqRepeat? (.type "tuple")=pure (ap<|.builtin "tuple.__mul__"):=by
 unfold seqRepeat?;rw[PySem.seqSlot_of (T:="tuple") (name:="__mul__") (id:="tuple.__mul__") RK.lookup (by decide +kernel),PySem.seqSlot_of (T:="tuple") (name:="__rmul__") (id:="tuple.__rmul__") UX.lookup (by decide +kernel)]
 rfl
theorem mS(a:Int)(t:Tok)(l:eg)(items:YD)(n:Nat)(dd:Option eg)(c:Array (Option ay)):
  XS (Builtin.«int.__rmul__» ⟨[.int a t,.ref l],[]⟩) (λ_ R s=>s.heap.get? l=ap { cls:=.type "tuple",dict:=dd,data:=.seq items n,slots:=c }/\R (.ok<|.ret Value.notImplemented) s):=
 .of_wp λprog w A R s h=>by obtain⟨e,g,d,f,j⟩:=s;obtain⟨m,h⟩:=h;wp_walk;exact⟨_,rfl,h⟩
theorem mY(l:eg)(items:YD)(n:Nat)(dd:Option eg)(G:Array (Option ay))(x:Int)(u:Tok)(U:1<x)(C:x<=1000)(F:items.size<=1000)(p:items.isEmpty=eC):
  XS (Builtin.«tuple.__mul__» ⟨[.ref l,.int x u],[]⟩) (λ_ R s=>s.heap.get? l=ap { cls:=.type "tuple",dict:=dd,data:=.seq items n,slots:=G }/\
   R (.ok<|.ret<|.ref s.heap.objs.size) { s with heap:=s.heap.push { cls:=.type "tuple",data:=.seq ((Qz x.toNat items).foldl (·++·) #[]) } }):=
 .of_wp λprog w A R s h=>by
  obtain⟨S,g,d,M,N⟩:=s;obtain⟨j,h⟩:=h;have f1:=T9;have I:=S9;have q:(decide (x < -(2 ^ 63))||decide (x>=2 ^ 63))=false:=by simp;lia
  have v:(items.isEmpty||x==1)=false:=by rw[p];simp;lia
  have B:(decide (x<=0)||items.isEmpty)=false:=by rw[p];simp;lia
  have J:(items.size:Int)*x<=1000000:=by
   have L:(items.size:Int)*x<=1000*x:=Int.mul_le_mul_of_nonneg_right (by lia) (by lia)
   lia
  have o:¬((items.size:Int)*x>(2 ^ 63-1) / 8):=by lia
  have m:T4 ((items.size:Int)*x)=false:=by
   unfold T4;have:(1000000:Int)<=(sizeLine:Int):=by decide
   exact decide_eq_false (by lia)
  wp_walk using pr j
  try simp only[q,QA,if_false]
  wp_walk using pr j
  try simp only[v,QA,if_false]
  wp_walk using pr j
  try simp only[B,QA,if_false]
  wp_walk using pr j
  rw[if_neg o];simp only[m,QA,if_false];unfold Rt;have f:((Qz x.toNat items).foldl (·++·) #[]).toList.length<=sizeLine:=by
   have e:∀(k:Nat)(c:YD),((Qz k items).foldl (·++·) c).size=c.size+k*items.size:=by
    intro k
    induction k with
    |zero=>intro c;simp
    |succ k ih=>intro c;rw[Q3,QW,ih,Ui,Nat.succ_mul];lia
   rw[SW,e];have:x.toNat*items.size<=1000*1000:=TZ (by lia) F
   have O:(1000*1000:Nat)<=sizeLine:=by decide
   simp only[Qd,QN]at *;lia
  refine ax (XH (fe ⟨_,rfl,?_⟩) f);simpa using h
theorem nU(l:eg)(items:YD)(n:Nat)(dd:Option eg)(j:Array (Option ay))(u:Tok):
  XS (Builtin.«tuple.__mul__» ⟨[.ref l,.int 1 u],[]⟩) (λ_ R s=>s.heap.get? l=ap { cls:=.type "tuple",dict:=dd,data:=.seq items n,slots:=j }/\R (.ok<|.ret<|.ref l) s):=
 .of_wp λprog w A R s h=>by
  obtain⟨m,g,d,p,q⟩:=s;obtain⟨c,h⟩:=h;have f1:=T9;have o:=S9;have e:(decide ((1:Int) < -(2 ^ 63))||decide ((1:Int)>=2 ^ 63))=false:=by decide
  have f:(items.isEmpty||(1:Int)==1)=true:=by simp
  wp_walk using pr c
  try simp only[e,QA,if_false]
  wp_walk using pr c
  try simp only[f,if_true]
  wp_walk using pr c
  all_goals first|exact⟨_,rfl,h⟩|skip
theorem mL(l:eg)(items:YD)(n:Nat)(dd:Option eg)(o:Array (Option ay))(x:Int)(u:Tok)(p:x<=0)(q:-1000<=x)(m:items.isEmpty=eC):
  XS (Builtin.«tuple.__mul__» ⟨[.ref l,.int x u],[]⟩) (λ_ R s=>s.heap.get? l=ap { cls:=.type "tuple",dict:=dd,data:=.seq items n,slots:=o }/\
   R (.ok<|.ret<|.ref s.heap.objs.size) { s with heap:=s.heap.push { cls:=.type "tuple",data:=.seq #[] } }):=
 .of_wp λprog w A R s h=>by
  obtain⟨v,g,d,C,F⟩:=s;obtain⟨c,h⟩:=h;have f1:=T9;have B:=S9;have e:(decide (x < -(2 ^ 63))||decide (x>=2 ^ 63))=false:=by simp;lia
  have f:(items.isEmpty||x==1)=false:=by rw[m];simp;lia
  have j:(decide (x<=0)||items.isEmpty)=true:=by simp[p]
  wp_walk using pr c
  try simp only[e,QA,if_false]
  wp_walk using pr c
  try simp only[f,QA,if_false]
  wp_walk using pr c
  try simp only[j,if_true]
  all_goals exact⟨_,rfl,h⟩
section
theorem AJ{l:eg}{Ys:Yw}{k:Int}{u:Tok}(ht:s.heap.IsTuple l Ys.toArray)(S:Ys≠[])(Y:0<=k)(W:k<=1000)(O:Ys.length<=1000)(R:k=1->Q (.ref l) s)(h2:k≠1->Q (.ref s.heap.objs.size) { s with heap:=s.heap.push { cls:=.type "tuple",data:=.seq (Qz k.toNat Ys).flatten.toArray } }):
  eH (fv prog w) A (hG .Mult (.ref l)<|.int k u) Q E s:=by
 obtain⟨⟨cls,j,data,o⟩,e,B,n,v⟩:=ht;simp only at B v;subst B v;have C:Ys.toArray.isEmpty=false:=by cases Ys with|nil=>exact absurd rfl S|cons a r=>rfl
 refine wpAny_binaryOp_repeat_ref (T:="tuple") (U:="int") (by decide) ⟨_,e,rfl⟩ (λI=>typeIs_int I k u) jM PySem.F.fills_int_mul Vg rb PySem.F.slot_int_index.lookup
  (vb Vg (typeIs_int s k u) PySem.F.entry_int_rmul (PySem.F.args_int_rmul_2 _ _) (mS k u l Ys.toArray n j o) ⟨e,rfl,⟨_,e,rfl⟩,?_⟩)
 by_cases g:k=1
 .subst g
  exact vb RK ⟨_,e,rfl⟩ Th (Tc _ _) (nU l Ys.toArray n j o u) ⟨e,R rfl⟩
 .have f:=h2 g
  by_cases p:k<=0
  .refine vb RK ⟨_,e,rfl⟩ Th (Tc _ _) (mL l Ys.toArray n j o k u p (by lia) C) ⟨e,?_⟩
   have N:k.toNat=0:=by lia
   rw[N]at f;exact f
  .refine vb RK ⟨_,e,rfl⟩ Th (Tc _ _) (mY l Ys.toArray n j o k u (by lia) W (by rw[Qd];exact O) C) ⟨e,?_⟩
   have M:∀(m:Nat)(c:Yw),List.foldl (λL G=>L++G) c.toArray (Qz m Ys.toArray)=(c++(Qz m Ys).flatten).toArray:=by
    intro m
    induction m with
    |zero=>intro c;simp
    |succ m ih=>
     intro c;have J:c.toArray++Ys.toArray=(c++Ys).toArray:=by simp
     rw[Q3,QW,J,ih,Q3,RY,List.append_assoc]
   have q:=M k.toNat [];rw[Qo]at q;rw[q];exact f
end
section
theorem D7:cF X (hG .Add) (λx y H Q=>∃a b ys,x=.ref a/\y=.ref b/\ie X.K H a []/\ie X.K H b ys/\Q (.ref b) H):=by
 intro Ym s Z H x y v u Q I W ry h;obtain⟨a,b,ys,rfl,rfl,M,hb,q⟩:=h;cases W;cases ry;obtain⟨p,U,L,_⟩:=I.tuple M;obtain⟨g,r2,Y,_⟩:=I.tuple hb;obtain rfl:p=[]:=U.zero;obtain⟨⟨N,O,C,S⟩,F,J,n,G⟩:=id L;obtain⟨⟨B,m,j,o⟩,f,e,R,c⟩:=id Y;simp only at J G e c;subst J G e c
 exact X8 ⟨_,F,rfl⟩ ⟨_,f,rfl⟩ XC XT Tu Ti (Td _ _)
  (tuple_addW0 a b #[] g.toArray n R O m S o rfl) ⟨F,f,⟨.ref b,H,I,rfl,q⟩⟩
theorem CH{n:Nat}(e:n.log2<2000)(f:0<n):cF X (hG .FloorDiv) (rI (λ_ j=>j=(n:Int)) λi j=>.int (i / j)):=N7 λi j _ _ _ _ _ c q=>by
 subst c;refine floordiv_int (by lia) ?_ (.inl<|PyProof.noPylong_of_log2<|by simpa using Uu e (by decide))
 rw[Vb _ (by lia)]
 exact q
def EN(K:PY)(b1 b2:Bool)(t:TA):TE:=λZ H Q=>t Z H λc H1=>∃(l1 l2:eg)(ks:List aG)(ys:List V),c=[.ref l1,.ref l2]/\BB K b1 H1 l1 (ks.map kV)/\BB K b2 H1 l2 ys/\ks.length=ys.length/\0<ks.length/\ks.length<=1000/\
 ∀d,H1 d=cm->Q (.ref d) (upd H1 d<|.dK<|(ks.zip ys).foldl (λa p=>cW a p.1 p.2) [])
theorem oQ{P:fy}{w:g4}:∀{ks:List aG}{us:Yw},Vals (ks.map kV) us->Xi (λk v=>(aW P w).is k v=true) ks us
 |[],_,.nil=>.nil
 |_::_,_,.cons r t=>.cons (iL r) (oQ t)
theorem Ao:∀{ks:List aG}{ys:List V}{us:Yw}{Yo:List (aG×V)}{vs:List (aG×ay)},Vals ys us->KV Yo vs->
  KV ((ks.zip ys).foldl (λa p=>cW a p.1 p.2) Yo) ((ks.zip us).foldl (λa p=>Xb a p.1 p.2) vs)
 |[],_,_,_,_,_,r=>r
 |_::_,_,_,_,_,.nil,r=>r
 |k::ks,_,_,_,_,.cons ru t,r=>Ao (ks:=ks) t (KV.put r k ru)
theorem rZ:∀(ps:List (aG×V))(Yo:List (aG×V)),(ps.foldl (λa p=>cW a p.1 p.2) Yo).length<=Yo.length+ps.length
 |[],Yo=>PZ _
 |p::ps,Yo=>by
  have c:=rZ ps (cW Yo p.1 p.2);have e:=fQ Yo p.1 p.2;rw[QW,Qe];lia
theorem vT{a b:gl}{ta:TA}{p p2 g:Pos}(b1 b2:Bool)(hc:X.calm=true)(hg:Gl X "zip")(hm:X.mg "zip"=cm)(hg2:Gl X "dict")(hm2:X.mg "dict"=cm)(ha:PA X [a,b] ta)(hs:ff [a,b] X.env=[(eC,g3 a X.env),(eC,g3 b X.env)]:=by rfl)(hs2:ff [b] X.env=[(eC,g3 b X.env)]:=by rfl)(hs3:ff [Vm (.Name "zip" p2) [a,b] [] g] X.env=[(eC,g3 (.Call (.Name "zip" p2) [a,b] [] g) X.env)]:=by rfl):
  PE X (.Call (.Name "dict" p) [.Call (.Name "zip" p2) [a,b] [] g] [] pos) (EN X.K b1 b2 ta):=by
 intro Ym s Z H Q I h;refine Call_ (eJ I hg2 hm2 (by decide +kernel:gp "dict"=ap (.type "dict"))<|QL ?_ hs3 rfl)
 rw[hs3];show eH _ _ (spliced ((eC,_)::j0 pos [])) _ _ s;refine RM ?_;refine Call_ (eJ I hg hm (by decide +kernel:gp "zip"=ap (.type "zip"))<|QL (bp (ha g Ym s Z H _ I h) λG f ⟨vs,H1,I1,r1,q1⟩=>?_) (by rw[hs,hs2])<|by rw[hs2];rfl)
 obtain⟨l1,l2,ks,ys,e,q1,q2,hl,h0,hz,q⟩:=q1;subst e;obtain⟨u1,u2,rfl,Y,M⟩:=r1.two;cases Y;cases M;obtain⟨F,v,m,z1⟩:=I1.src q1;obtain⟨j,C,n,z2⟩:=I1.src q2;refine CZ m n λh' L hTI W h1 h2 N hk=>?_;refine Sv ?_;have e1:=v.length;have e2:=C.length;rw[PQ]at e1;have D:ZApart (f.heap.objs.size+4) (f.heap.objs.size+2) (f.heap.objs.size+3) f.heap.objs.size (f.heap.objs.size+1):=by constructor<;>exact(show (_:Nat)≠(_:Nat) by lia)
 have lt:∀{c:Bool}{l:eg}{G:YD},SrcSq c f.heap l G->l<f.heap.objs.size:=λ{c l G} z=>by
  cases c with
  |true=>obtain⟨o,e,_⟩:=(show f.heap.IsList l G from z);exact Qb e
  |false=>obtain⟨o,e,_⟩:=(show f.heap.IsTuple l G from z);exact Qb e
 have O:∀{l:eg},l<f.heap.objs.size->Mt (f.heap.objs.size+4) (f.heap.objs.size+3) f.heap.objs.size (f.heap.objs.size+1) l:=λ{l} z=>⟨Qk (Qc z<|Rg _ _),Qk (Qc z<|Rg _ _),Qk z,Qk<|Qc z<|Rg _ _⟩;refine nV (s:={ f with heap:=h' }) (knd:=aW X.prog X.w) (ks:=ks) (xs:=F) (ys:=j) (I1.ok.hd hc) D (O<|lt m) (O<|lt n) L hTI ⟨_,_,W⟩ h1 h2 (m.keep λo e=>hk _ o e) (n.keep λo e=>hk _ o e) (oQ v) (by lia) (by lia) (by lia) ?_
 intro R o1 o2 o3 hd u;have U:R.heap.DictOf (aW X.prog X.w) h'.objs.size ((ks.zip j).foldl (λa p=>Xb a p.1 p.2) []):=hd;have J:=I1.big;have B:∀c o,f.heap.get? c=ap o->R.heap.get? c=ap o:=λc o e=>by
  have z:=Qb e;exact u c o (Qk<|Qc z<|Rg _ _) (Qk<|Qc z<|Rg _ _) (Qk z) (Qk<|Qc z<|Rg _ _) (hk c o e)
 have hn:H1 h'.objs.size=none:=I1.hok.fresh (by lia)
 obtain⟨hh',g',d',t',S⟩:=R;obtain rfl:S=f.os:=o1;obtain rfl:g'=f.gens:=o2;obtain rfl:d'=f.drawn:=o3;refine⟨.ref h'.objs.size,_,I1.laid (a:=h'.objs.size) (o:=.dK ((ks.zip ys).foldl (λa p=>cW a p.1 p.2) [])) (t':=t') B (by lia) ?_,rfl,q _ hn⟩
 refine mJ ?_ ?_ (Ao C .nil) U
 .have:=rZ (ks.zip ys) []
  rw[TQ]at this;have h3:(1000:Nat)<=sizeLine:=by decide
  simp only[QN]at this;lia
 .exact beq_eq_false_iff_ne.mpr (RB<|Qc J<|by rw[N];exact Rg _ _)
end
end L2
namespace Tw
open PySem L2
end Tw
namespace L2
open PySem PySem.Spec PyProof.Rows
variable{h:hI}{H:Hp}{P:fy}{s:el}{w:g4}
section
variable{X:Cx}
theorem mV{M:Model}{A:kc}{E:YA}{j:Type}{n:Nat}(f:Nat->j->Sem (ForInStep j))(I:Nat->j->el->Prop)(Q:j->el->Prop)(g:∀i b s,i<n->I i b s->eH M A (f i b) (λr s'=>match r with|.yield b'=>I (i+1) b' s'|.done b'=>Q b' s') E s)(fin:∀b s,I n b s->Q b s)(b:j)(h:I 0 b s):eH M A (forIn [0:n] b f) Q E s:=by
 rw[Std.Legacy.Range.forIn_eq_forIn_range'];have p:([0:n]:Vs).size=n:=by simp[Std.Legacy.Range.size]
 show eH M A (forIn (Tj 0 ([0:n]:Vs).size 1) b f) Q E s;rw[p];refine wpAny_forIn_list f (λl c s=>∃i,i<=n/\l=Tj i (n-i) 1/\I i c s) Q ?_ ?_ _ b ⟨0,Rq _,rfl,h⟩
 .rintro x u c s ⟨i,v,a,m⟩
  have q:i<n:=by
   rcases RC i n with h'|h'
   .exact h'
   .rw[show n-i=0 by lia]at a;simp at a
  obtain⟨k,o⟩:∃k,n-i=k+1:=⟨n-i-1,by lia⟩
  rw[o,Sa]at a;obtain⟨rfl,rfl⟩:=List.cons.inj a;refine n7 (g x c s q m) (λr s' h'=>?_) λ_ _ e=>e;cases r with
  |done c'=>exact h'
  |yield c'=>exact⟨x+1,by lia,by congr 1;lia,h'⟩
 .rintro c s ⟨i,v,a,m⟩
  have:i=n:=by
   rcases RC i n with h'|h'
   .obtain⟨k,o⟩:∃k,n-i=k+1:=⟨n-i-1,by lia⟩
    rw[o,Sa]at a;cases a
   .lia
  subst this;exact fin _ _ m
theorem rL(l:eg)(items:YD)(n:Nat)(dd:Option eg)(G:Array (Option ay))(x:ay)(e:ay->Bool)(I:∀y,y∈items->MeetsSeq.EqGives y x (e y))(j:Nat)(M:j<items.size)(q:e items[j]=true)(u:∀m (hm:m<items.size),m<j->e items[m]=eC):
  XS (Builtin.«tuple.index» ⟨[.ref l,x],[]⟩) (λ_ R s=>s.heap.get? l=ap { cls:=.type "tuple",dict:=dd,data:=.seq items n,slots:=G }/\R (.ok<|.ret<|.int j s.toks) { s with toks:=s.toks+1 }):=
 .of_wp λc w A R s h=>by
  obtain⟨B,g,d,E,F⟩:=s;obtain⟨z,h⟩:=h
  wp_walk using AutoSeq1.wpAny_loadPart' z
  refine mV (n:=min items.size items.size) _ (λi (b:Option _×_) f=>b.1=cm/\i<=j/\f=⟨B,g,d,E,F⟩) _ ?turn ?fin _ ?strt
  case turn=>
   rintro i b f J ⟨C,o,rfl⟩
   have a:i<items.size:=by lia
   have p:items[i]?=ap items[i]:=by simp[a]
   simp only[p];refine ax (I _ (Array.getElem_mem a) c w _ _ _ _ ?_)
   by_cases v:i=j
   .subst v
    rw[q]
    wp_walk
    exact⟨_,rfl,h⟩
   .rw[u i a (by lia)]
    wp_walk
    exact⟨rfl,by lia,rfl⟩
  case fin=>
   rintro⟨K,L⟩ f ⟨C,o,rfl⟩
   lia
  case strt=>
   exact⟨rfl,Rq _,rfl⟩
theorem Inv.tupD{b:YB}{Z:St}{a:eg}{xs:List V}(I:Inv X b Z H s)(h:H a=ap (.tup xs)):
  ∃(Ys:Yw)(n:Nat)(sl:Array (Option ay)),Vals xs Ys/\s.heap.get? a=ap { cls:=.type "tuple",dict:=cm,data:=.seq Ys.toArray n,slots:=sl }:=by
 obtain⟨z,Ys,r,⟨cls,g,data,slots⟩,e,⟨c,n,d⟩,f⟩:=I.hok a _ h;simp only at c d f;subst c d f;exact⟨Ys,n,slots,r,e⟩
theorem gH:∀{names:Yv}{us:Yw},Vals (names.map V.str) us->∀(j:Nat)(h:j<us.length),∃(y:Str)(t:Tok),names[j]?=ap y/\us[j]=.str y t
 |[],us,r,j,h=>by cases r;exact absurd h (S1 _)
 |x::names,us,r,j,h=>by
  rw[PU]at r;cases r with
  |cons r1 r2=>
   cases j with
   |zero=>obtain⟨t,rfl⟩:=r1;exact⟨x,t,rfl,rfl⟩
   |succ j=>obtain⟨y,t,b,a⟩:=gH r2 j (by simpa using h);exact⟨y,t,by simpa using b,by simpa using a⟩
def OS:V->List V->Hp->VK->Prop:=λx b H Q=>∃(a:eg)(names:Yv)(z:Str)(j:Nat),x=.ref a/\b=[.str z]/\H a=ap (.tup<|names.map V.str)/\names.length<=1000/\names[j]?=ap z/\(∀m,m<j->names[m]?≠ap z)/\Q (.int (j:Int)) H
theorem Bb:wc X "tuple.index" OS:=by
 intro G s Z H x U v Y Q I O K h;obtain⟨a,b,z,j,rfl,rfl,L,W,p,E,q⟩:=h;cases O;obtain⟨u,rfl,T⟩:=K.one;obtain⟨t,rfl⟩:=T;obtain⟨c,n,N,r,e⟩:=I.tupD L;have M:=r.length;rw[PQ]at M;have R:j<b.length:=by
  rcases RC j b.length with z'|z'
  .exact z'
  .rw[QU z']at p;cases p
 have A:j<c.toArray.size:=by rw[Qd];lia
 refine vb UT ⟨_,e,rfl⟩ PySem.F.entry_tuple_index (PySem.F.args_tuple_index_2 _ _)
  (rL a c.toArray n cm N (.str z t) (λv=>match v with|.str y _=>y==z|_=>eC) (λy S=>?_) j A ?_ λm o B=>?_) ⟨e,?_⟩
 .obtain⟨m,o,rfl⟩:=List.getElem_of_mem (by simpa using S:y∈c)
  obtain⟨i,C,f,g⟩:=gH r m o;rw[g];exact eqGives_str i z C t
 .obtain⟨i,C,f,g⟩:=gH r j (by lia)
  rw[p]at f;cases f;simp[g]
 .obtain⟨i,C,f,g⟩:=gH r m (by rw[Qd]at o;exact o)
  have J:=E m B;rw[f]at J;have ne:¬i=z:=λe=>J (by rw[e])
  simp[g,ne]
 .exact⟨.int (j:Int),H,I.tok _,⟨_,rfl⟩,q⟩
def tTM(r:V->List V->Hp->VK->Prop)(to:TE)(t:TA):TE:=λZ H Q=>to Z H λx H1=>(∃a b,x=.ref a/\H1 a=ap (.tup b))/\t Z H1 λb H2=>r x b H2 Q
theorem Nx{o e:gl}{es:Yy}{to:TE}{t:TA}{name:Str}{Yr Yq:Pos}{id:String}{r:V->List V->Hp->VK->Prop}(g:XV "tuple" name id)(i:Xv (.builtin id)=pure (.type "method_descriptor"))(L:wc X id r)(M:PE X o to)(N:PA X (e::es) t)(f:ol o name X.env (g3 o X.env)=g3 o X.env:=by rfl)(hfew:((j0 Yq<|starEach (e::es) X.env).all (λx=>!x.1)&&(z5 Yq<|keywordEach [] X.env).all (λx=>x.1.isSome)
   && decide ((e::es).length+([]:List z0).length+(if ([]:List z0).isEmpty then 0 else 1)<30))=true:=by rfl)(hline:(Yr.endLine==Yq.line)=true:=by rfl)(hs:ff (e::es) X.env=(eC,g3 e X.env)::ff es X.env:=by rfl)(hplain:(j0 Yq<|starEach es X.env).any (·.1)=false:=by rfl):
  PE X (.Call (.Attribute o name Yr) (e::es) [] Yq) (tTM r to t):=by
 intro c s Z H Q I h;refine X4 f hfew hline rfl (bp (M c s Z H _ I h) λv u ⟨x,H1,I1,q,⟨a,R,p,C⟩,B⟩=>?_);subst p;cases q;obtain⟨J,n,O,S,j⟩:=I1.tupD C;refine⟨"tuple",id,PySem.F.plainAttrs_tuple,g,i,⟨_,j,rfl⟩,λb K=>by cases K;exact⟨_,j,rfl⟩,?_⟩
 have m:=N Yq c u Z H1 _ I1 B;rw[hs]at m ⊢;refine RN (by show (eC||(j0 Yq<|starEach es X.env).any (·.1))=eC;rw[hplain]<;>rfl) (R6 ?_)
 exact bp m λA G ⟨E,H2,I2,z,y⟩=>L c G Z H2 (.ref a) E _ A Q I2 rfl z y
end
theorem gk{h a:hI}{S:Yx}:∀{l:List Env},h.FunFrames a l->(∀b∈gW l,b∈S)->h.FunFrames (UQ h S) l
 |[],_,_=>trivial
 |env::r,hl,hs=>by
  obtain⟨i,⟨L,o,c,n,g,m⟩,e⟩:=hl;have j:L∈S:=hs L (by unfold gW;rw[RH,c];exact Qm)
  exact⟨i,⟨L,o,c,W.hideAll_none S j,g,m⟩,gk e λb f=>hs b (by unfold gW;rw[RH,c];exact Qf _ f)⟩
def ut(P:fy)(w:g4)(C:eg):oh:=λa H s E e c=>∃(ea:eg)(H':Hp)(B:hI)(a0:ay),e=.ref ea/\c.os=s.os/\W9 c.gens/\Un (gW a) [] H H' s.heap c.heap/\HOk P w H' c.heap/\
 Heap.FlyingW B a ea (.ref C) a0 c.heap/\(∀b u,H' b=ap u->∃o,B.get? b=ap o)/\(∀b o,s.heap.get? b=ap o->b∉gW a->∃o',B.get? b=ap o')/\E (.ref C) cm H'
theorem pq{h' B:hI}(c:HOk P w H h)(k:B.StaysIn h)(j:B.StaysIn h')(g:∀b u,H b=ap u->∃o,B.get? b=ap o):HOk P w H h':=λa o e=>
 (c a o e).stay (λb u i q=>by
  obtain⟨v,f⟩:∃v,B.get? b=ap v:=by
   rcases i with rfl|z
   .exact g _ _ e
   .exact g _ _ z
  have:=k b v f;rw[q]at this;cases this;exact j b _ f) (λ_ q=>q) λ_ _ q=>q
theorem uF{fs:Yx}{H':Hp}{m p B:hI}(un:Un fs [] H H' h m)(k1:B.StaysIn m)(k2:B.StaysIn p)(u:m.UpToSlots p)(x:∀b o,h.get? b=ap o->b∉fs->∃e,B.get? b=ap e)(v:∀b∈fs,∀o,h.get? b=ap o->∀vs,o.data≠.fields vs)(z:∀b∈fs,H b=cm):Un fs [] H H' h p where
 keep:=λb o q n a g=>by
  have f:=un.keep b o q n a g;obtain⟨e,c⟩:=x b o q a;have:=k1 b e c;rw[f]at this;cases this;exact k2 b _ c
 slot:=λb o q n a g=>by
  obtain⟨y,f⟩:=un.slot b o q n a g;obtain⟨i,j⟩:=u b _ f (v b a o q);exact⟨i,j⟩
 free:=un.free
 there:=λb o q g=>by
  by_cases a:b∈fs
  .obtain⟨y,f⟩:=un.slot b o q (z b a) a g
   obtain⟨i,j⟩:=u b _ f (v b a o q);exact⟨_,j⟩
  .obtain⟨e,c⟩:=x b o q a
   exact⟨e,k2 b e c⟩
 tups:=un.tups
 frzs:=un.frzs
 tbls:=un.tbls
section
variable{K:PY}{mg:YC}{base:hI}{N:Yv}{Yn:Str}{scope:SB}{f C:eg}{cd:ay}{A:kc}{outer:List Env}{s0:el}{H0:Hp}{E:XK}
theorem sw{env:Env}{L:eg}{l:List Env}(h:env.frame=ap L):gW (env::l)=L::gW l:=by unfold gW;rw[RH,h]
theorem Oz:bW (ut P w C) (dN (ut P w C) P w K mg base N Yn scope f cd A outer s0 H0 E) E:=by
 intro U Z H s e Y I a;obtain⟨R,H',B,a0,rfl,L,g,un,O,m,T,S,hE⟩:=a;have M:(dN (ut P w C) P w K mg base N Yn scope f cd A outer s0 H0 E).stack=envOfC Yn scope s0.heap.objs.size f cd::outer:=rfl;have G:(envOfC Yn scope s0.heap.objs.size f cd).frame=ap s0.heap.objs.size:=rfl;have y:gW (envOfC Yn scope s0.heap.objs.size f cd::outer)=s0.heap.objs.size::gW outer:=sw G;rw[M]at un m S;show eH (fv P w) (A.deeper<|envOfC Yn scope s0.heap.objs.size f cd) (leaving (envOfC Yn scope s0.heap.objs.size f cd)<|.ref R) (λ_ v=>ut P w C outer H0 s0 E (.ref R) v) (λe' v=>ut P w C outer H0 s0 E e' v) Y;refine wpAny_leaves_onW I.ok.frames G m λh' i J=>?_;have j:Un (gW outer) [] H0 H s0.heap s.heap:=I.base;have nofr:∀{b:eg}{o:Obj},s0.heap.get? b=ap o->b∉gW outer->b∉gW (envOfC Yn scope s0.heap.objs.size f cd::outer):=λ{b o} q g z=>by
  rw[y]at z;rcases Ql.mp z with e|z
  .exact QK _ (e▸Qb q)
  .exact g z
 have c:Un (gW (envOfC Yn scope s0.heap.objs.size f cd::outer)) [] H H' s.heap h':=by
  refine uF un m.1 i.1 J S (λb g o q vs=>?_) λb g=>?_
  .obtain⟨_,o',F,hd⟩:=I.stack.mem (show b∈_ from g)
   rw[q]at F;cases F;exact hd vs
  .exact I.stkFree b g
 refine⟨R,H',B,a0,rfl,L.trans I.os,g,?_,pq O m.1 i.1 T,i,T,λb o q g=>?_,hE⟩
 .refine⟨λb o q n g a=>?_,λb o q n g a=>?_,λb o q n a=>?_,λb o q a=>?_,λb W q=>c.tups b W (j.tups b W q),λb o u q=>c.frzs b o u (j.frzs b o u q),λb ps q=>?_⟩
  .exact c.keep b o (j.keep b o q n g a) (j.free b o q n a) (nofr q g) a
  .obtain⟨sl,p⟩:=j.slot b o q n g a
   obtain⟨Q,q2⟩:=c.slot b _ p (j.free b o q n a) (by rw[y];exact Qf _ g) a
   exact⟨Q,q2⟩
  .obtain⟨x,p⟩:=j.there b o q a
   exact c.free b x p (j.free b o q n a) a
  .obtain⟨x,p⟩:=j.there b o q a
   exact c.there b x p a
  .obtain⟨m1,e1⟩:=j.tbls b ps q
   obtain⟨m2,X⟩:=c.tbls b _ e1;exact⟨m1++m2,by rw[X,Sn]⟩
 .obtain⟨x,p⟩:=j.there b o q (by simp)
  exact S b x p (nofr q g)
structure ExcAt(K:PY)(C:eg):Prop where
 at_:∃(nm q:Str)(Nn:eg)(bs bm bmB:Yw)(hdct:Bool)(sn:Yv)(sub:Yw)(ab:Bool)(col:Option Bool)(dd:Option eg)(k0 k1 k2 k3 k5:Option ay)(newId initId Bs:String)(mN:YC),
  (∀h:hI,K.In h->h.get? C=ap (excClassObj nm q C Nn bs bm hdct sn sub ab col dd k0 k1 k2 k3 k5 newId)/\h.Ns Nn mN/\OwnTail h bmB bm)/\mN "__init__"=cm/\ExcBaseFacts Bs newId initId bmB/\bmB.contains (.type Bs)=true/\bm.contains (.type "BaseException")=true
theorem ObjOk.obj{a:eg}{o:HO}(x:ObjOk P w H h a o):∃v,h.get? a=ap v:=by
 cases o with
 |lst xs=>obtain⟨_,_,_,_,e⟩:=x;exact⟨_,e⟩
 |tup xs=>obtain⟨_,_,_,_,e,_⟩:=x;exact⟨_,e⟩
 |dK Yo=>obtain⟨_,_,_,_,o,_,_,e,_⟩:=x;exact⟨_,e⟩
 |dT Yo=>obtain⟨_,_,_,_,o,_,_,e,_⟩:=x;exact⟨_,e⟩
 |set S n=>obtain⟨o,_,_,_,e,_⟩:=x;exact⟨_,e⟩
 |ins C dx fs=>obtain⟨_,_,_,e,_⟩:=x;exact⟨_,e⟩
 |own y=>obtain⟨_,e⟩:=x;exact⟨_,e⟩
 |xd fs=>obtain⟨_,⟨_,_,_,e,_⟩,_⟩:=x;exact⟨_,e⟩
 |rng lo hi=>obtain⟨_,_,_,e⟩:=x;exact⟨_,e⟩
 |frz ob u=>obtain⟨e,_⟩:=x;exact⟨_,e⟩
 |tbl ps=>exact⟨_,(show h.get? a=ap _ from x)⟩
 |met f y=>exact⟨_,(show h.get? a=ap _ from x)⟩
 |ext φ=>obtain⟨_,⟨_,e⟩,_⟩:=x;exact⟨_,e⟩
theorem Fo{fs:Yx}{L:eg}{H0 H':Hp}{m h':hI}(g:Un fs [] H0 H m h)(a:Un (L::fs) [] H H' h h')(M:m.objs.size<=L):Un fs [] H0 H' m h':=by
 have nofr:∀{b:eg}{o:Obj},m.get? b=ap o->b∉fs->b∉L::fs:=λ{b o} q i z=>by
  rcases Ql.mp z with e|z
  .exact QK _ (Qc (e▸Qb q) M)
  .exact i z
 refine⟨λb o q n i c=>a.keep b o (g.keep b o q n i c) (g.free b o q n c) (nofr q i) c,λb o q n i c=>?_,λb o q n c=>?_,λb o q c=>?_,λb x q=>a.tups b x (g.tups b x q),λb o u q=>a.frzs b o u (g.frzs b o u q),λb I q=>?_⟩
 .obtain⟨O,j⟩:=g.slot b o q n i c
  obtain⟨v,F⟩:=a.slot b _ j (g.free b o q n c) (Qf _ i) c;exact⟨v,F⟩
 .obtain⟨p,j⟩:=g.there b o q c
  exact a.free b p j (g.free b o q n c) c
 .obtain⟨p,j⟩:=g.there b o q c
  exact a.there b p j c
 .obtain⟨J,G⟩:=g.tbls b I q
  obtain⟨y,B⟩:=a.tbls b _ G;exact⟨J++y,by rw[B,Sn]⟩
def uH(E:XK)(C:eg):TS:=λ_ _ H=>E (.ref C) cm H
theorem EW{x p:Str}{np Yq pos Yr:Pos}{jj}(X:ExcAt K C)(hm:mg x=ap (.ref C))(hg:Gl (dN (ut P w C) P w K mg base N Yn scope f cd A outer s0 H0 E) x)(hd:(x==("__debug__":Str))=false:=by decide)(hs:ff [.Constant (.str p) jj Yr] (dN (ut P w C) P w K mg base N Yn scope f cd A outer s0 H0 E).env=[(eC,g3 (.Constant (.str p) jj Yr) (dN (ut P w C) P w K mg base N Yn scope f cd A outer s0 H0 E).env)]:=by rfl):
  PS (dN (ut P w C) P w K mg base N Yn scope f cd A outer s0 H0 E) (.Raise (ap<|.Call (.Name x np) [.Constant (.str p) jj Yr] [] Yq) cm pos) (uH E C):=by
 intro F s Z H D I h;obtain⟨nm,q,Nn,bs,bm,bmB,hdct,sn,sub,ab,col,dd,k0,k1,k2,k3,k5,newId,R,Bs,mN,hX,hni,FB,hBs,i⟩:=X.at_
 refine wpAny_Raise_call_subU (C:=C) (nm:=nm) (q:=q) (N:=Nn) (bs:=bs) (bm:=bm) (hdct:=hdct) (sn:=sn) (sub:=sub) (ab:=ab) (col:=col) (dd:=dd) (k0:=k0) (k1:=k1) (k2:=k2) (k3:=k3) (k5:=k5) FB hBs FB (mN:=mN) i (I.ok.hd rfl) (by rw[hs];rfl) hni
  (ik I hg hm ⟨rfl,?_⟩ hd)
 have hA:=(wG Dz EI hs) Yq F s Z H (λxs H1=>xs.length=1/\E (.ref C) cm H1) I ⟨rfl,h⟩;rw[hs]at hA ⊢;refine R6 (n7 hA (λvs a L=>?_) λ_ _ y=>y);obtain⟨vv,H1,I1,r,M,hE⟩:=L;obtain⟨hC,hN,T⟩:=hX a.heap I1.kIn;refine⟨rfl,?_,hC,hN,T,λh' e hx=>?_⟩
 .show vs.length<=sizeLine
  rw[<- r.length,M]
  decide
 have Q:(envOfC Yn scope s0.heap.objs.size f cd).frame=ap s0.heap.objs.size:=rfl;have B:gW (envOfC Yn scope s0.heap.objs.size f cd::outer)=s0.heap.objs.size::gW outer:=sw Q;have kB:(UQ a.heap<|gW (envOfC Yn scope s0.heap.objs.size f cd::outer)).StaysIn a.heap:=λb o e=>W.of_hideAll _ e;show eH (fv P w) (A.deeper<|envOfC Yn scope s0.heap.objs.size f cd) (leaving (envOfC Yn scope s0.heap.objs.size f cd)<|.ref e) (λ_ g=>ut P w C outer H0 s0 E (.ref e) g) (λe' g=>ut P w C outer H0 s0 E e' g) _;refine wpAny_leaves_madeW I1.ok.frames Q kB (gk I1.stack λb c=>c) hx λG t m _ _ S=>?_;have U:a.heap.UpToSlots G:=(Heap.UpToSlots.of_keeps hx.keeps).trans S;have j:∀{b:eg}{o:Obj},a.heap.get? b=ap o->b∉gW (envOfC Yn scope s0.heap.objs.size f cd::outer)->(UQ a.heap<|gW (envOfC Yn scope s0.heap.objs.size f cd::outer)).get? b=ap o:=λe n=>W.hideAll_get _ e n;have sT:∀b u,H1 b=ap u->∃o,(UQ a.heap<|gW (envOfC Yn scope s0.heap.objs.size f cd::outer)).get? b=ap o:=λb u e=>by
  obtain⟨v,hv⟩:=ObjOk.obj (I1.hok b u e);exact⟨v,j hv λz=>by rw[I1.stkFree b z]at e;cases e⟩
 have J:Un (gW (envOfC Yn scope s0.heap.objs.size f cd::outer)) [] H1 H1 a.heap G:=by
  refine uF Un.refl kB m.1 U (λb o q c=>⟨o,j q c⟩) (λb c o q vs=>?_) λb c=>I1.stkFree b c;obtain⟨_,o',O,Y⟩:=I1.stack.mem (show b∈_ from c);rw[q]at O;cases O;exact Y vs
 rw[B]at J;refine⟨e,H1,_,.ref t,rfl,I1.os,I1.bare,Fo I1.base J (PZ _),pq I1.hok kB m.1 sT,m,sT,λb o q c=>?_,hE⟩;obtain⟨o1,q1⟩:=I1.base.there b o q (λz=>absurd (show b∈([]:Yx) from z) (by simp))
 refine⟨o1,j q1 λz=>?_⟩;rw[B]at z;rcases Ql.mp z with e'|z
 .exact QK _ (e'▸Qb q)
 .exact c z
end
abbrev Cx.marked(X:Cx)(e:ay):Cx:={ X with A:=X.A.mark (ap e),calm:=eC,xe:=λ_ _=>False }
section
variable{X:Cx}{Ym:YB}{Z:St}{e:ay}
theorem Cx.Ok.mark(ok:X.Ok)(e:ay):(X.marked e).Ok:=
 ⟨ok.mod,ok.kind,ok.glob,ok.blt,ok.above,ok.inj,ok.has,ok.cab,λz=>(Bool.noConfusion z),ok.frames,ok.stk,ok.exf,ok.bs,ok.bsz,ok.noex,ok.exfs,ok.funs,ok.frf⟩
theorem Inv.mark(I:Inv X Ym Z H s)(e:ay):Inv (X.marked e) Ym Z H s:=⟨I.ok.mark e,I.os,I.bare,I.base,I.loc,I.cell,I.free,I.freeC,I.pin,I.hok,I.len⟩
theorem Inv.unmark(ok:X.Ok)(I:Inv (X.marked e) Ym Z H s):Inv X Ym Z H s:=⟨ok,I.os,I.bare,I.base,I.loc,I.cell,I.free,I.freeC,I.pin,I.hok,I.len⟩
theorem SP.unmark{D:Ends}{f:Flow}{s':el}(ok:X.Ok)(h:SP (X.marked e) Ym D f s'):SP X Ym D f s':=by
 cases f with
 |next=>obtain⟨a,H',I,q⟩:=h;exact⟨a,H',I.unmark ok,q⟩
 |brk=>obtain⟨a,H',I,q⟩:=h;exact⟨a,H',I.unmark ok,q⟩
 |cont=>obtain⟨a,H',I,q⟩:=h;exact⟨a,H',I.unmark ok,q⟩
 |ret u=>obtain⟨v,a,H',I,r,q⟩:=h;exact⟨v,a,H',I.unmark ok,r,q⟩
def Cz(C:eg)(sp:Sp)(dvs:List V)(ta:TA)(ts:TS):TS:=λD Z H=>ta Z H λa H1=>sp (a++dvs) H1 (λ_ H2=>D.nx Z H2) (λ_ _ H2=>ts D Z H2)
theorem vf{C f:eg}{k:Nat}{fd:g5}{ps:Yv}{sp:Sp}{j:List V}{ds:Yw}{x cx:Str}{p cp ep np S pos:Pos}{e:gl}{es:Yy}{ta:TA}{m:rz}{g:Yz}{ts:TS}(T:X.stack=X.env::X.outer)(hfL:X.env.frame=ap X.env.locals)(F:FnOk X.prog X.w X.K X.mg X.base (ut X.prog X.w C) k f fd ps sp)(hr:Room k X.A)(hg:Gl X x)(hm:X.mg x=ap (.ref f))(hk:Rj X.K (.ref f)=true)(hb:Binds X.K fd ps ds)(hd:Vals j ds)(ha:PA X.nox (e::es) ta)(EX:ExcAt X.K C)(hgC:Gl X cx)(hmC:X.mg cx=ap (.ref C))(hsu:∀U:eg,yi (X.marked<|.ref U) (m::g) ts)(hdb:(x==("__debug__":Str))=false:=by decide)(hdC:(cx==("__debug__":Str))=false:=by decide)(he:ff (e::es) X.env=(eC,g3 e X.env)::ff es X.env:=by rfl)(hpl:(j0 cp<|starEach es X.env).any (·.1)=false:=by rfl)(hsw:vr (.Call (.Name x p) (e::es) [] cp) cm ep.line X.env=pure false:=by rfl):
  PS X (.Try [.Expr (.Call (.Name x p) (e::es) [] cp) ep] [.ExceptHandler (ap<|.Name cx np) cm (m::g) S] [] [] pos) (Cz C sp j ta ts):=by
 intro Ym s Z H D I h;refine wpAny_Try_except (XB<|wpAny_Expr_any ?_ I.quiet hsw);refine re (ik I hg hm ?_ hdb);refine UD (h₀:=X.base) I.ok.mod.kin hk (n7 (ha cp Ym s Z H _ (I.wish _) h) (λL Y ⟨G,H1,I1',r,q⟩=>?_) λ_ _ z=>Q7 z) he hpl;have I1:Inv X Ym Z H1 Y:=I1'.unwish;refine⟨I1.kIn,?_⟩;have r2:Vals (G++j) (L++ds):=r.append hd;have hl:(L++ds).length=ps.length:=by rw[<- r2.length];exact F.len _ _ _ _ q
 refine wpAny_call (TW (F.run X.A X.stack Y H1 ⟨L,[]⟩ (L++ds) (G++j) _ _ hr I1.env0 (hb Y L I1.kIn hl) r2 q) λrr s' Q=>?_);cases rr with
 |ok fl=>
  cases fl with
  |ret u=>
   obtain⟨x',H2,I2,_,q2⟩:=I1.after Q;exact SL (SL ⟨Z,H2,I2,q2⟩)
  |next=>exact Q7 Q
  |brk=>exact Q7 Q
  |cont=>exact Q7 Q
 |error er=>
  obtain⟨U,H',B,a0,rfl,hos,E,un,hok,i,sT,sA,hE⟩:=Q;obtain⟨nm,qn,Nn,bs,bm,bmB,hdct,sn,sub,ab,col,dd,k0,k1,k2,k3,k5,newId,W,Bs,mN,hX,hni,FB,hBs,n⟩:=EX.at_;have nf:∀b∈gW X.stack,∀o,Y.heap.get? b=ap o->∀G,o.data≠.fields G:=λb v o q' G=>by
   obtain⟨_,o',O,hd'⟩:=I1.stack.mem (show b∈_ from v);rw[q']at O;cases O;exact hd' G
  have c:∀M:hI,B.StaysIn M->s'.heap.UpToSlots M->Inv X Ym Z H' { s' with heap:=M }:=λM k up=>
   I1.call' (s':={ s' with heap:=M }) hos (uF un i.1 k up sA nf λb v=>I1.stkFree b v) (pq hok i.1 k sT) E λb z=>absurd (show b∈([]:Yx) from z) (by simp)
  rw[T]at i;have hfr:X.A.frames=ap (X.env::X.outer):=by rw[<- T];exact I1.ok.frames
  refine wpAny_looks_onW hfr hfL i λh4 y up4=>?_;refine wpAny_landsW y λh5 a R=>?_;have I5:=(c h5 a.1<|up4.trans R).mark (.ref U);obtain⟨hC,_,_⟩:=hX h5 I5.kIn;obtain⟨ob,hob,N⟩:=a.there;refine wpAny_handleBy_cons (codeAny_handlers_test<|ik I5 hgC hmC ?_ hdC) (by intro q';cases q')
  refine wpAny_excMatches_sub_self hC hob N n (codeAny_handlers_suite ?_);refine lands_againW a λh6 J up6=>?_;have I6:=(c h6 J.1<|(up4.trans R).trans up6).mark (.ref U);exact n7 (hsu U Ym _ Z H' D I6 hE) (λfl s7 q7=>q7.unmark I.ok) λ_ _ z=>Q7 z
end
end L2
namespace L3
open PySem L2
variable{p:eg}{B:Bd}{X:Cx}{U:Dl}{c e:gl}{H H' H1:Hp}{M:Mem}{K:PY}{pos:Pos}{Z:St}
inductive D where
 |non|bl (b:Bool)|int (i:Int)|str (x:Str)|ty (n:String)|ref (a:eg)|tup (xs:List D)|lst (xs:List D)|mt (xs:List D)|ml (xs:List D)|fd (ks:List (List aG)) (xs:List D)
def TpD(_:PY)(H:Hp)(p:eg)(vs:List V):Prop:=H p=ap (.tup vs)
def TpM(K:PY)(p:eg)(vs:List V):Prop:=∃(o:Obj)(Ys:YD)(n:Nat),K.lookup p=ap o/\o.cls=.type "tuple"/\o.data=.seq Ys n/\Ys.size<=sizeLine/\Vals vs Ys.toList
def FzD(K:PY)(H:Hp)(p:eg)(vs:List V):Prop:=
 ∃o,H p=ap (.frz o<|.lst vs)
def FzK(K:PY)(H:Hp)(p:eg)(vs:List V):Prop:=(∃o,H p=ap (.frz o<|.lst vs))\/∃(o:Obj)(Ys:YD)(n:Nat),K.lookup p=ap o/\o.cls=.type "list"/\o.dict=cm/\o.data=.seq Ys n/\Ys.size<=sizeLine/\Vals vs Ys.toList
theorem FzK.sq{vs:List V}(h:FzK K H p vs):SqL K H p vs:=h.imp (λ⟨o,e⟩=>.inr ⟨o,e⟩) λx=>x
theorem TpD.sq{vs:List V}(h:TpD K H p vs):ie K H p vs:=.inl (.inl h)
theorem TpM.sq{vs:List V}(h:TpM K p vs):ie K H p vs:=.inr h
theorem FzD.sq{vs:List V}(h:FzD K H p vs):SqL K H p vs:=by
 obtain⟨o,h⟩:=h;exact .inl (.inr ⟨o,h⟩)
def FdD(H:Hp)(p:eg)(ks:List (List aG))(vs:List V):Prop:=ks.length=vs.length/\∃o,H p=ap (.frz o<|.dT<|ks.zip vs)
mutual
def Rp(K:PY)(H:Hp):D->V->Prop
 |.non,v=>v=.non
 |.bl b,v=>v=.bl b
 |.int i,v=>v=.int i
 |.str x,v=>v=.str x
 |.ty n,v=>v=.ty n
 |.ref a,v=>v=.ref a
 |.tup xs,v=>∃p vs,v=.ref p/\TpD K H p vs/\Rps K H xs vs
 |.lst xs,v=>∃p vs,v=.ref p/\FzD K H p vs/\Rps K H xs vs
 |.mt xs,v=>∃p vs,v=.ref p/\TpM K p vs/\Rps K H xs vs
 |.ml xs,v=>∃p vs,v=.ref p/\FzK K H p vs/\Rps K H xs vs
 |.fd ks xs,v=>∃p vs,v=.ref p/\FdD H p ks vs/\Rps K H xs vs
def Rps(K:PY)(H:Hp):List D->List V->Prop
 |[],vs=>vs=[]
 |x::xs,vs=>∃v r,vs=v::r/\Rp K H x v/\Rps K H xs r
end
structure Imm(H H':Hp):Prop where
 tup:∀p vs,H p=ap (.tup vs)->H' p=ap (.tup vs)
 frz:∀p o u,H p=ap (.frz o u)->H' p=ap (.frz o u)
theorem Imm.refl:Imm H H:=⟨λ_ _ e=>e,λ_ _ _ e=>e⟩
theorem TpD.mono{vs:List V}(i:Imm H H')(h:TpD K H p vs):TpD K H' p vs:=i.tup _ _ h
theorem FzK.mono{vs:List V}(i:Imm H H')(h:FzK K H p vs):FzK K H' p vs:=h.imp (λ⟨o,e⟩=>⟨o,i.frz _ _ _ e⟩) λx=>x
theorem FzD.mono{vs:List V}(i:Imm H H')(h:FzD K H p vs):FzD K H' p vs:=let ⟨o,e⟩:=h;⟨o,i.frz _ _ _ e⟩
mutual
theorem Rp.mono{K:PY}{H H':Hp}(i:Imm H H'):∀{d:D}{v:V},Rp K H d v->Rp K H' d v
 |.non,_,h=>h
 |.bl _,_,h=>h
 |.int _,_,h=>h
 |.str _,_,h=>h
 |.ty _,_,h=>h
 |.ref _,_,h=>h
 |.tup _,_,h=>by
  obtain⟨p,a,e,t,r⟩:=h;exact⟨p,a,e,t.mono i,Rps.mono i r⟩
 |.lst _,_,h=>by
  obtain⟨p,a,e,t,r⟩:=h;exact⟨p,a,e,t.mono i,Rps.mono i r⟩
 |.mt _,_,h=>by
  obtain⟨p,a,e,t,r⟩:=h;exact⟨p,a,e,t,Rps.mono i r⟩
 |.ml _,_,h=>by
  obtain⟨p,a,e,t,r⟩:=h;exact⟨p,a,e,t.mono i,Rps.mono i r⟩
 |.fd _ _,_,h=>by
  obtain⟨p,a,e,⟨t,o,b⟩,r⟩:=h;exact⟨p,a,e,⟨t,o,i.frz _ _ _ b⟩,Rps.mono i r⟩
theorem Rps.mono{K:PY}{H H':Hp}(i:Imm H H'):∀{ds:List D}{vs:List V},Rps K H ds vs->Rps K H' ds vs
 |[],_,h=>h
 |_::_,_,h=>by
  obtain⟨v,r,e,a,b⟩:=h;exact⟨v,r,e,Rp.mono i a,Rps.mono i b⟩
end
section
theorem Rps.nil:Rps K H [] []:=rfl
theorem Rps.cons{d:D}{v:V}{ds:List D}{vs:List V}(a:Rp K H d v)(b:Rps K H ds vs):Rps K H (d::ds) (v::vs):=⟨v,vs,rfl,a,b⟩
theorem Rps.length:∀{ds:List D}{vs:List V},Rps K H ds vs->ds.length=vs.length
 |[],_,h=>by cases h;rfl
 |_::_,_,h=>by obtain⟨v,r,rfl,_,b⟩:=h;simp[b.length]
theorem Rps.get:∀{ds:List D}{vs:List V},Rps K H ds vs->∀{i:Nat}{d:D},ds[i]?=ap d->∃v,vs[i]?=ap v/\Rp K H d v
 |[],_,_,i,d,e=>by simp at e
 |x::xs,_,h,i,d,e=>by
  obtain⟨v,r,rfl,a,b⟩:=h;cases i with
  |zero=>simp at e;subst e;exact⟨v,by simp,a⟩
  |succ i=>simpa using b.get (by simpa using e)
theorem Rps.append:∀{ds es:List D}{vs f:List V},Rps K H ds vs->Rps K H es f->Rps K H (ds++es) (vs++f)
 |[],_,_,_,h,g=>by cases h;exact g
 |_::_,_,_,_,h,g=>by
  obtain⟨v,r,rfl,a,b⟩:=h;exact⟨v,_,rfl,a,b.append g⟩
theorem Rps.take:∀{ds:List D}{vs:List V}(n:Nat),Rps K H ds vs->Rps K H (ds.take n) (vs.take n)
 |[],_,n,h=>by cases h;simp[Rps]
 |_::_,_,0,h=>rfl
 |_::_,_,n+1,h=>by
  obtain⟨v,r,rfl,a,b⟩:=h;exact⟨v,_,rfl,a,b.take n⟩
theorem Rps.drop:∀{ds:List D}{vs:List V}(n:Nat),Rps K H ds vs->Rps K H (ds.drop n) (vs.drop n)
 |[],_,n,h=>by cases h;simp[Rps]
 |_::_,_,0,h=>h
 |_::_,_,n+1,h=>by
  obtain⟨v,r,rfl,a,b⟩:=h;exact b.drop n
theorem Rps.set{d:D}{v:V}(a:Rp K H d v):∀{ds:List D}{vs:List V}(i:Nat),Rps K H ds vs->Rps K H (ds.set i d) (vs.set i v)
 |[],_,_,h=>by cases h;rfl
 |_::_,_,0,h=>by obtain⟨w,r,rfl,_,b⟩:=h;exact⟨v,r,rfl,a,b⟩
 |_::_,_,i+1,h=>by obtain⟨w,r,rfl,c,b⟩:=h;exact⟨w,_,rfl,c,b.set a i⟩
theorem Rps.dropLast{ds:List D}{vs:List V}(h:Rps K H ds vs):Rps K H ds.dropLast vs.dropLast:=by
 rw[VR,VR,h.length];exact h.take _
theorem Rps.eraseIdx:∀{ds:List D}{vs:List V}(i:Nat),Rps K H ds vs->Rps K H (ds.eraseIdx i) (vs.eraseIdx i)
 |[],_,_,h=>by cases h;rfl
 |_::_,_,0,h=>by obtain⟨w,r,rfl,_,b⟩:=h;exact b
 |_::_,_,i+1,h=>by obtain⟨w,r,rfl,c,b⟩:=h;exact⟨w,_,rfl,c,b.eraseIdx i⟩
theorem uj:∀{a:Yu}{vs:List V},vs=a.map V.int->Rps K H (a.map D.int) vs
 |[],_,e=>e
 |i::a,_,e=>by subst e;exact⟨_,_,rfl,rfl,uj rfl⟩
end
inductive MO where
 |lst (xs:List D)
 |dK (Yo:List (aG×D))
 |dT (Yo:List (List aG×D))
 |ins (C:eg) (fs:List (Str×D))
abbrev Mem:=eg->Option MO
def Mem.upd(M:Mem)(a:eg)(o:MO):Mem:=λb=>if b=a then ap o else M b
def Mem.del(M:Mem)(a:eg):Mem:=λb=>if b=a then cm else M b
def Rkv{κ:Type}(K:PY)(H:Hp):List (κ×D)->List (κ×V)->Prop:=Xi λp q=>p.1=q.1/\Rp K H p.2 q.2
def RepO(K:PY)(H:Hp)(a:eg):MO->Prop
 |.lst xs=>∃vs,H a=ap (.lst vs)/\Rps K H xs vs
 |.dK Yo=>∃ws,H a=ap (.dK ws)/\Rkv K H Yo ws
 |.dT Yo=>∃ws,H a=ap (.dT ws)/\Rkv K H Yo ws
 |.ins C fs=>∃dx ws,H a=ap (.ins C dx ws)/\Rkv K H fs ws
def RepH(K:PY)(H:Hp)(M:Mem):Prop:=∀a o,M a=ap o->RepO K H a o
section
variable{a b:eg}{o:MO}{u:HO}
@[simp] theorem Mem.upd_same:(M.upd a o) a=ap o:=by simp[Mem.upd]
theorem ae(h:b≠a):(M.upd a o) b=M b:=by simp[Mem.upd,h]
@[simp] theorem Mem.upd_upd {o':MO}:(M.upd a o).upd a o'=M.upd a o':=by funext c;simp[Mem.upd];split<;>rfl
@[simp] theorem Mem.upd_del:(M.upd a o).del a=M.del a:=by funext c;simp[Mem.upd,Mem.del];split<;>rfl
theorem aE(h:M a=cm):M.del a=M:=by
 funext c;simp only[Mem.del];split
 .rename_i e;rw[e,h]
 .rfl
theorem aD{f:MO}(h:a≠b):(M.upd a o).upd b f=(M.upd b f).upd a o:=by
 funext c;simp only[Mem.upd];split
 .rename_i e;rw[e,if_neg (Qu h)]
 .rfl
theorem Mem.ne{o:MO}(h:M a=ap o)(h':M b=cm):a≠b:=by intro e;subst e;rw[h]at h';cases h'
theorem Rkv.mono{j:Type}{f:List (j×D)}{g:List (j×V)}(i:Imm H H')(h:Rkv K H f g):Rkv K H' f g:=eF h λ_ _ z=>⟨z.1,z.2.mono i⟩
theorem RepO.obj(r:RepO K H a o):∃u,H a=ap u:=by
 cases o with
 |lst xs=>obtain⟨f,e,_⟩:=r;exact⟨_,e⟩
 |dK xs=>obtain⟨f,e,_⟩:=r;exact⟨_,e⟩
 |dT xs=>obtain⟨f,e,_⟩:=r;exact⟨_,e⟩
 |ins C fs=>obtain⟨g,f,e,_⟩:=r;exact⟨_,e⟩
theorem RepO.keep(r:RepO K H a o)(i:Imm H H')(e:H' a=H a):RepO K H' a o:=by
 cases o with
 |lst xs=>obtain⟨f,q,z⟩:=r;exact⟨f,e.trans q,z.mono i⟩
 |dK xs=>obtain⟨f,q,z⟩:=r;exact⟨f,e.trans q,z.mono i⟩
 |dT xs=>obtain⟨f,q,z⟩:=r;exact⟨f,e.trans q,z.mono i⟩
 |ins C fs=>obtain⟨g,f,q,z⟩:=r;exact⟨g,f,e.trans q,z.mono i⟩
theorem RepH.fresh(r:RepH K H M)(h:H a=cm):M a=none:=by
 cases e:M a with
 |none=>rfl
 |some o=>obtain⟨u,q⟩:=(r a o e).obj;rw[h]at q;cases q
def xo:Option HO->Prop
 |some (.tup _)=>False
 |some (.frz _ _)=>False
 |_=>True
theorem Imm.upd(h:xo (H a)):Imm H (upd H a u):=by
 refine⟨λp f e=>?_,λp o v e=>?_⟩
 .rw[aK];exact e
  rintro rfl;rw[e]at h;exact h
 .rw[aK];exact e
  rintro rfl;rw[e]at h;exact h
theorem Imm.new(h:H a=cm):Imm H (L2.upd H a u):=Imm.upd (by rw[h];trivial)
theorem RepO.loose(r:RepO K H a o):xo (H a):=by
 cases o with
 |lst xs=>obtain⟨f,e,_⟩:=r;rw[e];trivial
 |dK xs=>obtain⟨f,e,_⟩:=r;rw[e];trivial
 |dT xs=>obtain⟨f,e,_⟩:=r;rw[e];trivial
 |ins C fs=>obtain⟨g,f,e,_⟩:=r;rw[e];trivial
theorem RepH.new(r:RepH K H M)(h:H a=cm):RepH K (L2.upd H a u) M:=λb o e=>by
 obtain⟨v,q⟩:=(r b o e).obj;exact(r b o e).keep (Imm.new h) (aK<|bc q h)
theorem RepH.put(r:RepH K H M)(h:xo (H a))(n:RepO K (L2.upd H a u) a o):RepH K (L2.upd H a u) (M.upd a o):=λb p e=>by
 by_cases f:b=a
 .subst f;rw[Mem.upd_same]at e;cases e;exact n
 .rw[ae f]at e
  exact(r b p e).keep (Imm.upd h) (aK f)
theorem RepH.keep(r:RepH K H M)(i:Imm H H')(e:∀b o,M b=ap o->H' b=H b):RepH K H' M:=λb o q=>(r b o q).keep i (e b o q)
structure Frm(M:Mem)(H:Hp)(M':Mem)(H':Hp):Prop where
 keep:∀b u,H b=ap u->M b=cm->H' b=ap u/\M' b=cm
variable{M':Mem}
theorem Frm.refl:Frm M H M H:=⟨λ_ _ e n=>⟨e,n⟩⟩
theorem Frm.trans{M1 M2:Mem}{H2:Hp}(x:Frm M H M1 H1)(y:Frm M1 H1 M2 H2):Frm M H M2 H2:=⟨λb u e n=>let ⟨e1,n1⟩:=x.keep b u e n;y.keep b u e1 n1⟩
theorem Frm.imm(f:Frm M H M' H')(r:RepH K H M):Imm H H':=by
 have g:∀b u,H b=ap u->¬xo (ap u)->H' b=ap u:=λb u e n=>(f.keep b u e (by
  cases q:M b with
  |none=>rfl
  |some o=>exact absurd (by rw[<- e];exact(r b o q).loose) n)).1
 exact⟨λp h e=>g p _ e (λz=>z),λp o u e=>g p _ e (λz=>z)⟩
theorem Frm.new(h:H a=cm):Frm M H M (L2.upd H a u):=⟨λb v e n=>⟨by rw[aK (bc e h)];exact e,n⟩⟩
theorem Frm.put(h:H a=cm\/∃o,M a=ap o):Frm M H (M.upd a o) (L2.upd H a u):=⟨λb v e n=>by
 have f:b≠a:=by
  rintro rfl
  rcases h with h|⟨o,h⟩
  .rw[h]at e;cases e
  .rw[h]at n;cases n
 exact⟨by rw[L2.aK f];exact e,by rw[ae f];exact n⟩⟩
theorem Frm.del(h:∃o,M a=ap o):Frm M H (M.del a) (L2.upd H a u):=⟨λb v e n=>by
 have f:b≠a:=by
  rintro rfl
  obtain⟨o,h⟩:=h;rw[h]at n;cases n
 refine⟨by rw[L2.aK f];exact e,?_⟩
 unfold Mem.del;rw[if_neg f];exact n⟩
theorem Rp.mf{d:D}{v:V}(x:Rp K H d v)(r:RepH K H M)(f:Frm M H M' H'):Rp K H' d v:=x.mono (f.imm r)
theorem Rps.mf{d:List D}{v:List V}(x:Rps K H d v)(r:RepH K H M)(f:Frm M H M' H'):Rps K H' d v:=x.mono (f.imm r)
end
abbrev Dl:=List (Option D)
abbrev DK:=D->Mem->Prop
abbrev bu:=Dl->Mem->DK->Prop
abbrev fG:=Dl->Mem->(Bool->Mem->Prop)->Prop
abbrev fC:=Dl->Mem->(List D->Mem->Prop)->Prop
structure RepS(K:PY)(H:Hp)(U:Dl)(Z:St):Prop where
 len:U.length=Z.length
 get:∀(i:Nat)(d:D),U[i]?=ap (ap d)->∃v,Z[i]?=ap (ap v)/\Rp K H d v
theorem RepS.mono(r:RepS K H U Z)(i:Imm H H'):RepS K H' U Z:=
 ⟨r.len,λj d e=>by obtain⟨v,b,a⟩:=r.get j d e;exact⟨v,b,a.mono i⟩⟩
theorem RepS.set{i:Nat}{d:D}{v:V}(r:RepS K H U Z)(h:Rp K H d v):RepS K H (U.set i<|some d) (Z.set i<|some v):=by
 refine⟨by simp[r.len],λj e q=>?_⟩
 rw[Tn]at q ⊢
 by_cases a:i=j
 .rw[if_pos a]at q ⊢
  by_cases b:i<U.length
  .rw[if_pos (by rw[<- r.len];exact a▸b)]
   rw[if_pos (a▸b)]at q;cases q;exact⟨v,rfl,h⟩
  .rw[if_neg (a▸b)]at q;cases q
 .rw[if_neg a]at q ⊢
  exact r.get j e q
structure Bd where
 p:Mem->Hp->Prop
 go:∀{M M':Mem}{H H':Hp},p M H->Frm M H M' H'->p M' H'
def Bd.of(M:Mem)(H:Hp):Bd:=⟨λM' H'=>Frm M H M' H',λa b=>a.trans b⟩
structure SR(X:Cx)(B:Bd)(U:Dl)(M:Mem)(Z:St)(H:Hp):Prop where
 i0:B.p M H
 rh:RepH X.K H M
 rs:RepS X.K H U Z
theorem SR.go{M':Mem}(s:SR X B U M Z H)(rh:RepH X.K H' M')(i:Frm M H M' H'):SR X B U M' Z H':=⟨B.go s.i0 i,rh,s.rs.mono<|i.imm s.rh⟩
def Up(K:PY)(M:Mem)(H:Hp)(QQ:DK)(Q:VK):Prop:=∀d M',QQ d M'->∀v H',RepH K H' M'->Frm M H M' H'->Rp K H' d v->Q v H'
def UpT(K:PY)(M:Mem)(H:Hp)(QQ:Bool->Mem->Prop)(Q:Bool->Hp->Prop):Prop:=∀b M',QQ b M'->∀H',RepH K H' M'->Frm M H M' H'->Q b H'
def UpA(K:PY)(M:Mem)(H:Hp)(QQ:List D->Mem->Prop)(Q:List V->Hp->Prop):Prop:=∀ds M',QQ ds M'->∀vs H',RepH K H' M'->Frm M H M' H'->Rps K H' ds vs->Q vs H'
theorem Up.go{M1:Mem}{QQ:DK}{Q:VK}(u:Up K M H QQ Q)(i:Frm M H M1 H1):Up K M1 H1 QQ Q:=λd M' q v H' a b c=>u d M' q v H' a (i.trans b) c
theorem UpT.go{M1:Mem}{QQ:Bool->Mem->Prop}{Q:Bool->Hp->Prop}(u:UpT K M H QQ Q)(i:Frm M H M1 H1):UpT K M1 H1 QQ Q:=λd M' q H' a b=>u d M' q H' a (i.trans b)
inductive liftE(X:Cx)(B:Bd)(T:bu)(Z:St)(H:Hp)(Q:VK):Prop
 |mk (U:Dl) (M:Mem) (QQ:DK) (s:SR X B U M Z H) (h:T U M QQ) (u:Up X.K M H QQ Q):liftE X B T Z H Q
inductive liftT(X:Cx)(B:Bd)(T:fG)(Z:St)(H:Hp)(Q:Bool->Hp->Prop):Prop
 |mk (U:Dl) (M:Mem) (QQ:Bool->Mem->Prop) (s:SR X B U M Z H) (h:T U M QQ) (u:UpT X.K M H QQ Q):liftT X B T Z H Q
inductive liftA(X:Cx)(B:Bd)(T:fC)(Z:St)(H:Hp)(Q:List V->Hp->Prop):Prop
 |mk (U:Dl) (M:Mem) (QQ:List D->Mem->Prop) (s:SR X B U M Z H) (h:T U M QQ) (u:UpA X.K M H QQ Q):liftA X B T Z H Q
def DE(X:Cx)(B:Bd)(e:gl)(T:bu):Prop:=PE X e (liftE X B T)
def DT(X:Cx)(B:Bd)(e:gl)(T:fG):Prop:=PT X e (liftT X B T)
def DA(X:Cx)(B:Bd)(es:Yy)(T:fC):Prop:=PA X es (liftA X B T)
theorem a_{t t':TE}(h:PE X e t)(w:∀Z H Q,t' Z H Q->t Z H Q):PE X e t':=λa s Z H Q I q=>h a s Z H Q I (w Z H Q q)
theorem qT{t t':TT}(h:PT X e t)(w:∀Z H Q,t' Z H Q->t Z H Q):PT X e t':=λa s Z H Q I q=>h a s Z H Q I (w Z H Q q)
theorem yr{e:Yy}{t t':TA}(h:PA X e t)(w:∀Z H Q,t' Z H Q->t Z H Q):PA X e t':=λpos a s Z H Q I q=>h pos a s Z H Q I (w Z H Q q)
theorem bL{e:rz}{t t':TS}(h:PS X e t)(w:∀D Z H,t' D Z H->t D Z H):PS X e t':=λa s Z H D I q=>h a s Z H D I (w D Z H q)
theorem mM{e:Yz}{t t':TS}(h:yi X e t)(w:∀D Z H,t' D Z H->t D Z H):yi X e t':=λa s Z H D I q=>h a s Z H D I (w D Z H q)
def ac(i:Nat):bu:=λU M Q=>match U[i]? with
 |some (ap d)=>Q d M
 |_=>False
def dC(d:D):bu:=λ_ M Q=>Q d M
section
variable{a b:gl}{ta tb tc:bu}
theorem LA{i:Nat}{x:Str}(m:X.N[i]?=ap x)(j:Kt X.env.scope x)(n:(x==("__debug__":Str))=false:=by decide)(hcd:(x==("__classdict__":Str))=false:=by decide):DE X B (.Name x pos) (ac i):=by
 refine a_ (Lx m j n hcd) ?_
 rintro Z H Q ⟨U,M,QQ,s,h,u⟩
 unfold ac at h
 split at h
 .rename_i d e
  obtain⟨v,f,g⟩:=s.rs.get i d e;exact⟨v,f,u d M h v H s.rh Frm.refl g⟩
 .exact h.elim
theorem E1{v:V}{d:D}(h:PE X e (tC v))(r:∀H,Rp X.K H d v):DE X B e (dC d):=by
 refine a_ h ?_
 rintro Z H Q ⟨U,M,QQ,s,h,u⟩
 exact u d M h v H s.rh Frm.refl (r H)
theorem K_{i j pos}:DE X B (.Constant (.int i) j pos) (dC<|.int i):=E1 LN λ_=>rfl
theorem ND{i j pos}:DE X B (.Constant (.bool i) j pos) (dC<|.bl i):=E1 Ol λ_=>rfl
theorem Lo{j pos}:DE X B (.Constant .none j pos) (dC .non):=E1 KF λ_=>rfl
theorem Mu{i j pos}:DE X B (.Constant (.str i) j pos) (dC<|.str i):=E1 Dz λ_=>rfl
abbrev fg:=D->D->Mem->DK->Prop
inductive liftR2(X:Cx)(r:fg)(x y:V)(H:Hp)(Q:VK):Prop
 |mk (d1 d2:D) (M:Mem) (QQ:DK) (rh:RepH X.K H M) (r1:Rp X.K H d1 x) (r2:Rp X.K H d2 y) (h:r d1 d2 M QQ) (u:Up X.K M H QQ Q):liftR2 X r x y H Q
def ah(r:fg)(ta tb:bu):bu:=λU M Q=>ta U M λx M1=>tb U M1 λy M2=>r x y M2 Q
theorem kR{r:fg}{Q:VK}(h:liftE X B (ah r ta tb) Z H Q):P8 (liftR2 X r) (liftE X B ta) (liftE X B tb) Z H Q:=by
 obtain⟨U,M,QQ,s,h,u⟩:=h;refine⟨U,M,_,s,h,λx M1 j v1 H1 f i1 m=>?_⟩;refine⟨U,M1,_,s.go f i1,j,λy M2 n v2 H2 g i o=>?_⟩;exact⟨x,y,M2,QQ,g,m.mf f i,o,n,u.go<|i1.trans i⟩
theorem fY{f:Xe}{r:fg}(i:cF X (hG f) (liftR2 X r))(g:DE X B a ta)(j:DE X B b tb):DE X B (.BinOp a f b pos) (ah r ta tb):=a_ (P4 i g j) λ_ _ _ h=>kR h
theorem Ke{f:CmpOp}{r:fg}(j:cF X (mu f) (liftR2 X r))(m:DE X B a ta)(i:DE X B b tb)(g:Xu f b=eC):DE X B (.Compare a [f] [b] pos) (ah r ta tb):=a_ (Ie j m i g) λ_ _ _ h=>kR h
theorem Pu{r:fg}(j:IxR X (liftR2 X r))(f:DE X B a ta)(g:DE X B b tb)(i:ze b):DE X B (.Subscript a b pos) (ah r ta tb):=a_ (OE j f g i) λ_ _ _ h=>kR h
def ao(t:bu):fG:=λU M Q=>t U M λd M'=>match d with
 |.bl k=>Q k M'
 |_=>False
theorem c_{f:CmpOp}{r:fg}(w:cF X (mu f) (liftR2 X r))(y:DE X B a ta)(o:DE X B b tb)(n:Xu f b=eC):DT X B (.Compare a [f] [b] pos) (ao<|ah r ta tb):=by
 refine qT (HE w y o n) ?_
 rintro Z H Q ⟨U,M,QQ,s,h,u⟩
 have j:liftE X B (ah r ta tb) Z H (λx H'=>∃k,x=.bl k/\Q k H'):=by
  refine⟨U,M,_,s,h,λd M' q v H' g i m=>?_⟩;cases d with
  |bl k=>exact⟨k,m,u k M' q H' g i⟩
  |_=>exact(show False from q).elim
 exact kR j
def J5(M:Mem):D->Option Bool
 |.non=>ap eC
 |.bl b=>ap b
 |.int i=>ap (i != 0)
 |.str y=>if y.length<=sizeLine then ap ((y.length:Int) != 0) else cm
 |.tup xs=>ap (!xs.isEmpty)
 |.lst xs=>ap (!xs.isEmpty)
 |.ref a=>match M a with
  |some (.lst xs)=>ap (!xs.isEmpty)
  |some (.dK xs)=>ap (!xs.isEmpty)
  |_=>cm
 |_=>cm
def eM(t:bu):fG:=λU M Q=>t U M λd M'=>match J5 M' d with
 |some k=>Q k M'
 |none=>False
theorem gg{ds:List D}{vs:List V}(r:Rps K H ds vs):vs.isEmpty=ds.isEmpty:=by
 have:=r.length;cases ds<;>cases vs<;>simp_all
theorem KA{d:D}{v:V}{k:Bool}(m:RepH K H M)(r:Rp K H d v)(e:J5 M d=ap k):Kc K v H k:=by
 cases d with
 |non=>cases r;cases e;rfl
 |bl b=>cases r;cases e;rfl
 |int i=>cases r;cases e;rfl
 |str y=>
  cases r;simp only[J5]at e
  split at e
  .cases e;exact⟨by assumption,rfl⟩
  .cases e
 |ty n=>cases e
 |tup g=>
  obtain⟨p,f,rfl,t,r⟩:=r;cases e;exact .inr (.inl ⟨f,t.sq,by rw[gg r]⟩)
 |mt g=>cases e
 |ml g=>cases e
 |fd _ _=>cases e
 |lst g=>
  obtain⟨p,f,rfl,t,r⟩:=r;cases e;exact .inl ⟨f,t.sq,by rw[gg r]⟩
 |ref a=>
  cases r;simp only[J5]at e
  split at e
  .rename_i g q
   obtain⟨f,h,j⟩:=m _ _ q;cases e;exact .inl ⟨f,SqL.of h,by rw[gg j]⟩
  .rename_i g q
   obtain⟨f,h,j⟩:=m _ _ q;cases e;refine .inr (.inr ⟨f,h,?_⟩);cases j<;>rfl
  .cases e
theorem L1(h:DE X B e ta)(m:∀f,X7 e X.env f=(do let v <- f;W7 e.pos;va [v] (truthy v)):=by intro _;rfl):DT X B e (eM ta):=by
 refine qT (Ed h m) ?_
 rintro Z H Q ⟨U,M,QQ,s,h,u⟩
 refine⟨U,M,_,s,h,λd M' q v H' g i j=>?_⟩
 split at q
 .rename_i k e
  exact⟨k,KA g j e,u k M' q H' g i⟩
 .exact q.elim
def k8(t:fG):fG:=λU M Q=>t U M λc M1=>Q (!c) M1
theorem Le{f:fG}(j:DT X B a f):DT X B (.UnaryOp .Not a pos) (k8 f):=by
 refine qT (Ko j) ?_
 rintro Z H Q ⟨U,M,QQ,s,h,u⟩
 exact⟨U,M,_,s,h,λc M' q H' g i=>u _ M' q H' g i⟩
end
section
variable{a b:gl}{ta tb tc:bu}{tA tB':fG}{rest:Yy}
def DW(X:Cx)(B:Bd)(e:gl)(T:fG):Prop:=PW X e (liftT X B T)
theorem PM{T:fG}(h:DW X B e T):DT X B e T:=PK h
theorem yg{t t':TT}(h:PW X e t)(w:∀Z H Q,t' Z H Q->t Z H Q):PW X e t':=λg f s Z H Q I q=>h g f s Z H Q I (w Z H Q q)
def BM(t u:fG):fG:=λU M Q=>t U M λc M1=>if c=true then u U M1 Q else Q eC M1
def BG(t u:fG):fG:=λU M Q=>t U M λc M1=>if c=true then Q true M1 else u U M1 Q
theorem G5(f:DT X B a tA):DW X B (.BoolOp .And [a] pos) tA:=Hw f
theorem La(f:DT X B a tA):DW X B (.BoolOp .Or [a] pos) tA:=MA f
theorem Kg(g:DT X B a tA)(j:DW X B (.BoolOp .And (b::rest) pos) tB'):DW X B (.BoolOp .And (a::b::rest) pos) (BM tA tB'):=by
 refine yg (Mb g j) ?_
 rintro Z H Q ⟨U,M,QQ,s,h,u⟩
 refine⟨U,M,_,s,h,λc M' q H' f i=>?_⟩;cases c with
 |true=>rw[if_pos rfl]at q ⊢;exact⟨U,M',QQ,s.go f i,q,u.go i⟩
 |false=>rw[if_neg Qq]at q ⊢;exact u _ M' q H' f i
theorem NK(g:DT X B a tA)(j:DW X B (.BoolOp .Or (b::rest) pos) tB'):DW X B (.BoolOp .Or (a::b::rest) pos) (BG tA tB'):=by
 refine yg (OO g j) ?_
 rintro Z H Q ⟨U,M,QQ,s,h,u⟩
 refine⟨U,M,_,s,h,λc M' q H' f i=>?_⟩;cases c with
 |false=>rw[if_neg Qq]at q ⊢;exact⟨U,M',QQ,s.go f i,q,u.go i⟩
 |true=>rw[if_pos rfl]at q ⊢;exact u _ M' q H' f i
def pX(t:fG)(ta tb:bu):bu:=λU M Q=>t U M λc M1=>if c=true then ta U M1 Q else tb U M1 Q
theorem Dq(m:DT X B c tA)(g:DE X B a ta)(j:DE X B b tb):DE X B (.IfExp c a b pos) (pX tA ta tb):=by
 refine a_ (BP m g j) ?_
 rintro Z H Q ⟨U,M,QQ,s,h,u⟩
 refine⟨U,M,_,s,h,λc M' q H' f i=>?_⟩;cases c with
 |true=>rw[if_pos rfl]at q ⊢;exact⟨U,M',QQ,s.go f i,q,u.go i⟩
 |false=>rw[if_neg Qq]at q ⊢;exact⟨U,M',QQ,s.go f i,q,u.go i⟩
variable{es:Yy}{te:bu}{t:fC}
def af:fC:=λ_ M Q=>Q [] M
def aa(ta:bu)(tr:fC):fC:=λU M Q=>ta U M λx M1=>tr U M1 λf M2=>Q (x::f) M2
theorem MH:DA X B [] af:=by
 refine yr EI ?_
 rintro Z H Q ⟨U,M,QQ,s,h,u⟩
 exact u [] M h [] H s.rh Frm.refl .nil
theorem G7(v:DE X B e te)(y:DA X B es t)(w:ff (e::es) X.env=(eC,g3 e X.env)::ff es X.env:=by rfl):DA X B (e::es) (aa te t):=by
 refine yr (wG v y w) ?_
 rintro Z H Q ⟨U,M,QQ,s,h,u⟩
 refine⟨U,M,_,s,h,λx M1 m v1 H1 f i n=>?_⟩;refine⟨U,M1,_,s.go f i,m,λz M2 o v2 H2 g j q=>?_⟩;exact u _ M2 o _ H2 g (i.trans j) (.cons (n.mf f j) q)
def aM(t:fC):bu:=λU M Q=>t U M λf M1=>f.length<=sizeLine/\Q (.tup f) M1
def bV(t:fC):bu:=λU M Q=>t U M λf M1=>f.length<=sizeLine/\∀p,M1 p=cm->Q (.ref p) (M1.upd p<|.lst f)
theorem LG{x1}(h:DA X B es t):DE X B (.Tuple es x1 pos) (aM t):=by
 refine a_ (MS h) ?_
 rintro Z H Q ⟨U,M,QQ,s,h,u⟩
 refine⟨U,M,_,s,h,λn M1 i v1 H1 f m j=>⟨by rw[<- j.length];exact i.1,λp g=>?_⟩⟩
 exact u _ M1 i.2 _ _ (f.new g) (m.trans<|Frm.new g) ⟨p,v1,rfl,upd_same,j.mono<|Imm.new g⟩
theorem Mv(h:DA X B es t):DE X B (.List es pos) (bV t):=by
 refine a_ (MK h) ?_
 rintro Z H Q ⟨U,M,QQ,s,h,u⟩
 refine⟨U,M,_,s,h,λxs M1 h1 v1 H1 rh1 i1 r1=>⟨by rw[<- r1.length];exact h1.1,λp hp=>?_⟩⟩
 exact u _ _ (h1.2 p<|rh1.fresh hp) _ _ (rh1.put (by rw[hp];trivial) ⟨v1,upd_same,r1.mono<|Imm.new hp⟩) (i1.trans<|Frm.put<|.inl hp) rfl
theorem Inv.freeze{g:YB}{Z:L2.St}{s:el}{vs:List V}(I:Inv X g Z H s)(h:H p=ap (.lst vs)):∃o,Inv X g Z (upd H p<|.frz o<|.lst vs) s:=by
 obtain⟨i,n,r,e,z⟩:=I.lst h;have ne:∀{b:eg}{u:Option HO},H b=u->u≠ap (.lst vs)->b≠p:=λ{b u} q L z=>by subst z;rw[h]at q;exact L q.symm
 refine⟨{ cls:=.type "list",data:=.seq i.toArray n },I.ok,I.os,I.bare,⟨I.base.keep,I.base.slot,λb o q G A=>?_,I.base.there,λb j q=>?_,λb o u q=>?_,λb J q=>?_⟩,I.loc,I.cell,?_,λx c q=>?_,λw F=>?_,λb o q=>?_,I.len⟩
 .have f:=I.base.free b o q G A
  rw[aK (ne f<|by simp)];exact f
 .have f:=I.base.tups b j q
  rw[aK (ne f<|by simp)];exact f
 .have f:=I.base.frzs b o u q
  rw[aK (ne f<|by simp)];exact f
 .obtain⟨more,f⟩:=I.base.tbls b J q
  exact⟨more,by rw[aK (ne f<|by simp)];exact f⟩
 .rw[aK (ne I.free<|by simp)];exact I.free
 .have f:=I.freeC x c q
  rw[aK (ne f<|by simp)];exact f
 .obtain⟨C,m,E⟩:=I.pin w F
  exact⟨C,by rw[aK (ne m<|by simp)];exact m,E⟩
 .by_cases v:b=p
  .subst v
   rw[upd_same]at q;cases q;refine⟨e,?_⟩;exact⟨z,i,n,r,e⟩
  .rw[aK v]at q
   refine (I.hok b o q).stay (λ_ _ _ y=>y) (λc y=>?_) λc j y=>?_
   .rw[aK (ne y<|by simp)];exact y
   .rw[aK (ne y<|by simp)];exact y
def frz(d:D)(M:Mem)(Q:DK):Prop:=match d with
 |.ref a=>match M a with
  |some (.lst xs)=>Q (.lst xs) (M.del a)
  |_=>Q d M
 |_=>Q d M
def aq(t:bu):bu:=λU M Q=>t U M λd M'=>frz d M' Q
theorem RepH.freeze{vs:List V}{o:Obj}(r:RepH K H M)(h:H p=ap (.lst vs)):RepH K (upd H p<|.frz o<|.lst vs) (M.del p):=λb u e=>by
 unfold Mem.del at e
 split at e
 .cases e
 .rename_i hb
  exact(r b u e).keep (Imm.upd<|by rw[h];trivial) (aK hb)
theorem Kz(h:DE X B e te):DE X B e (aq te):=by
 intro g s Z H Q I z;obtain⟨U,M,QQ,n,A,u⟩:=z;refine bp (h g s Z H (λv H'=>∃d M',RepH X.K H' M'/\Frm M H M' H'/\Rp X.K H' d v/\frz d M' QQ) I ⟨U,M,_,n,A,λd M' q v H' f i r=>⟨d,M',f,i,r,q⟩⟩) ?_
 rintro w E ⟨v,H',I',m,d,M',f,i,r,q⟩
 unfold frz at q
 split at q
 .rename_i a
  split at q
  .rename_i C e
   obtain⟨y,j,x⟩:=f _ _ e;obtain⟨o,I2⟩:=Inv.freeze I' j;refine⟨v,_,I2,m,u _ _ q v _ (f.freeze j) (i.trans<|Frm.del ⟨_,e⟩) ?_⟩;exact⟨a,y,r,⟨o,upd_same⟩,x.mono<|Imm.upd<|by rw[j];trivial⟩
  .exact⟨v,H',I',m,u _ _ q v H' f i r⟩
 .exact⟨v,H',I',m,u _ _ q v H' f i r⟩
end
def gR(M:Mem):D->Option (List D)
 |.lst xs=>ap xs
 |.ref a=>match M a with
  |some (.lst xs)=>ap xs
  |_=>cm
 |_=>cm
def aO(M:Mem):D->Option (List D)
 |.tup xs=>ap xs
 |.lst xs=>ap xs
 |.mt xs=>ap xs
 |.ml xs=>ap xs
 |.ref a=>match M a with
  |some (.lst xs)=>ap xs
  |_=>cm
 |_=>cm
section
variable{d:D}{v:V}{xs:List D}
theorem iM(i:RepH K H M)(r:Rp K H d v)(e:gR M d=ap xs):∃p vs,v=.ref p/\Rd H p (.lst vs)/\Rps K H xs vs:=by
 cases d with
 |lst f=>
  cases e;obtain⟨p,vs,rfl,⟨o,h⟩,r⟩:=r;exact⟨p,vs,rfl,.inr ⟨o,h⟩,r⟩
 |ref a=>
  simp only[gR]at e
  split at e
  .rename_i f q
   cases e;obtain⟨vs,b,g⟩:=i _ _ q;exact⟨a,vs,r,.inl b,g⟩
  .cases e
 |_=>cases e
theorem jd(i:RepH K H M)(r:Rp K H d v)(e:aO M d=ap xs):∃p vs,v=.ref p/\(SqL K H p vs\/ie K H p vs)/\Rps K H xs vs:=by
 cases d with
 |tup b=>
  cases e;obtain⟨p,vs,rfl,h,r⟩:=r;exact⟨p,vs,rfl,.inr h.sq,r⟩
 |lst b=>
  cases e;obtain⟨p,vs,rfl,h,r⟩:=r;exact⟨p,vs,rfl,.inl h.sq,r⟩
 |mt b=>
  cases e;obtain⟨p,vs,rfl,h,r⟩:=r;exact⟨p,vs,rfl,.inr h.sq,r⟩
 |ml b=>
  cases e;obtain⟨p,vs,rfl,h,r⟩:=r;exact⟨p,vs,rfl,.inl h.sq,r⟩
 |ref a=>
  simp only[aO]at e
  split at e
  .rename_i b q
   cases e;obtain⟨vs,f,g⟩:=i _ _ q;exact⟨a,vs,r,.inl (SqL.of f),g⟩
  .cases e
 |_=>cases e
theorem FK:cF X (hG .Add) (λx y H Q=>∃l b xs zs,x=.ref l/\y=.ref b/\Rd H l (.lst xs)/\Rd H b (.lst zs)/\xs.length+zs.length<=sizeLine/\∀p,H p=cm->Q (.ref p) (upd H p<|.lst (xs++zs))):=by
 intro g s Z H x y v u Q I m E h;obtain⟨l,b,xs,zs,rfl,rfl,w,A,F,q⟩:=h;cases m;cases E;obtain⟨z,f,n,r,e⟩:=w.ok I.hok;obtain⟨L,a,J,i,j⟩:=A.ok I.hok;have G:=r.length;have C:=i.length;refine PySem.P.add_list e j ?_ (by rw[Qd,Qd];lia)
 have o:f.toArray++a.toArray=(f++a).toArray:=by simp
 rw[o];exact⟨.ref _,_,I.lnew (t':=s.toks) (r.append i) (by rw[PX];lia),rfl,q _ I.fresh⟩
def aZ:fg:=λx y M Q=>match x,y with
 |.int i,.int j=>Q (.int (i+j)) M
 |.str a,.str b=>a.length+b.length<=sizeLine/\Q (.str (a++b)) M
 |.tup xs,.tup ys=>xs.length+ys.length<=sizeLine/\Q (.tup (xs++ys)) M
 |x,y=>match gR M x,gR M y with
  |some xs,ap ys=>xs.length+ys.length<=sizeLine/\∀p,M p=cm->Q (.ref p) (M.upd p<|.lst (xs++ys))
  |_,_=>False
theorem Hh:cF X (hG .Add) (liftR2 X aZ):=by
 intro Ym s Z H x y v u Q I rx ry h;obtain⟨d1,d2,M,QQ,rh,r1,r2,h,up⟩:=h;unfold aZ at h
 split at h
 .cases r1;cases r2
  exact JN Ym s Z H _ _ v u Q I rx ry ⟨_,_,rfl,rfl,up _ M h _ H rh Frm.refl rfl⟩
 .cases r1;cases r2
  exact uE Ym s Z H _ _ v u Q I rx ry ⟨_,_,rfl,rfl,h.1,up _ M h.2 _ H rh Frm.refl rfl⟩
 .obtain⟨p,vs,rfl,t1,r1⟩:=r1
  obtain⟨p',vs',rfl,t2,r2⟩:=r2;have l1:=r1.length;have l2:=r2.length;have r12:=r1.append r2
  by_cases hx:vs=[]
  .subst hx
   have hu:=up _ M h.2 (.ref p') H rh Frm.refl ⟨p',vs',rfl,t2,r12⟩;exact D7 Ym s Z H _ _ v u Q I rx ry ⟨p,p',vs',rfl,rfl,t1.sq,t2.sq,hu⟩
  .refine FH Ym s Z H _ _ v u Q I rx ry ⟨p,p',vs,vs',rfl,rfl,t1.sq,t2.sq,hx,by lia,λe=>?_,λ_ q hq=>?_⟩
   .subst e
    rw[QO]at r12;exact up _ M h.2 (.ref p) H rh Frm.refl ⟨p,vs,rfl,t1,r12⟩
   .exact up _ M h.2 _ _ (rh.new hq) (Frm.new hq) ⟨q,_,rfl,upd_same,r12.mono<|Imm.new hq⟩
 .split at h
  .rename_i xs ys e1 e2
   obtain⟨p,vs,rfl,t1,r1⟩:=iM rh r1 e1;obtain⟨p',vs',rfl,t2,r2⟩:=iM rh r2 e2;have l1:=r1.length;have l2:=r2.length;refine FK Ym s Z H _ _ v u Q I rx ry ⟨p,p',vs,vs',rfl,rfl,t1,t2,by lia,λq hq=>?_⟩
   exact up _ _ (h.2 q<|rh.fresh hq) _ _ (rh.put (by rw[hq];trivial) ⟨_,upd_same,(r1.append r2).mono<|Imm.new hq⟩) (Frm.put<|.inl hq) rfl
  .exact h.elim
def oI(C:Int->Int->Prop)(g:Int->Int->D):fg:=λx y M Q=>match x,y with
 |.int i,.int j=>C i j/\Q (g i j) M
 |_,_=>False
theorem EV{f:ay->ay->Sem ay}{C:Int->Int->Prop}{g:Int->Int->V}{g':Int->Int->D}(h:cF X f (rI C g))(e:∀i j K H,Rp K H (g' i j) (g i j)):cF X f (liftR2 X<|oI C g'):=by
 intro b s Z H x y v u Q I o z a;obtain⟨A,E,M,QQ,m,n,q,a,w⟩:=a;unfold oI at a
 split at a
 .cases n;cases q
  exact h b s Z H _ _ v u Q I o z ⟨_,_,rfl,rfl,a.1,w _ M a.2 _ H m Frm.refl<|e _ _ _ _⟩
 .exact a.elim
def jq(g:Int->Int->D):fg:=λx y M Q=>match x,y with
 |.int i,.int j=>Q (g i j) M
 |_,_=>False
theorem jX{f:ay->ay->Sem ay}{g:Int->Int->V}{g':Int->Int->D}(h:cF X f (By g))(e:∀i j K H,Rp K H (g' i j) (g i j)):cF X f (liftR2 X<|jq g'):=by
 intro b s Z H x y v u Q I o z a;obtain⟨A,C,M,QQ,m,n,q,a,w⟩:=a;unfold jq at a
 split at a
 .cases n;cases q
  exact h b s Z H _ _ v u Q I o z ⟨_,_,rfl,rfl,w _ M a _ H m Frm.refl<|e _ _ _ _⟩
 .exact a.elim
abbrev gu:fg:=jq λi j=>.int (i-j)
theorem Hg:cF X (hG .Sub) (liftR2 X gu):=jX LZ λ_ _ _ _=>rfl
abbrev dw:fg:=oI (λ_ j=>0<j) λi j=>.int (i % j)
theorem G9:cF X (hG .Mod) (liftR2 X dw):=EV L_ λ_ _ _ _=>rfl
def wt(_ j:Int):Prop:=0<j/\j<2 ^ 200
theorem Ce:cF X (hG .FloorDiv) (rI wt λi j=>.int (i / j)):=by
 intro a s Z H x y v u Q I m w h;obtain⟨i,j,rfl,rfl,o,q⟩:=h;obtain⟨z,g⟩:=o;have f:((j.toNat:Nat):Int)=j:=by lia
 refine CH (n:=j.toNat) ?_ (by lia) a s Z H _ _ v u Q I m w ⟨i,j,rfl,rfl,f.symm,q⟩
 have b:j.toNat<2 ^ 200:=by
  have:((j.toNat:Nat):Int)<((2 ^ 200:Nat):Int):=by rw[f,Int.natCast_pow];exact g
  exact Int.ofNat_lt.mp this
 have:=(V0 (n:=j.toNat) (k:=200)<|by lia).mpr b
 lia
abbrev g_:fg:=oI wt λi j=>.int (i / j)
theorem Fc:cF X (hG .FloorDiv) (liftR2 X g_):=EV Ce λ_ _ _ _=>rfl
abbrev Mp:fg:=oI HL λi j=>.int (i ^ j.toNat)
theorem Fn:cF X (hG .Pow) (liftR2 X Mp):=EV JT λ_ _ _ _=>rfl
abbrev Nh:fg:=jq λi j=>.int (Builtin.bitXor i j)
theorem G8:cF X (hG .BitXor) (liftR2 X Nh):=jX MZ λ_ _ _ _=>rfl
abbrev ML:fg:=jq λi j=>.int (S0 i j)
theorem HM:cF X (hG .BitAnd) (liftR2 X ML):=jX Ls λ_ _ _ _=>rfl
abbrev oOr:fg:=jq λi j=>.int (TV i j)
theorem KL:cF X (hG .BitOr) (liftR2 X oOr):=jX O6 λ_ _ _ _=>rfl
abbrev Mz:fg:=oI HL λi j=>.int (i*2 ^ j.toNat)
theorem G4:cF X (hG .LShift) (liftR2 X Mz):=EV KI λ_ _ _ _=>rfl
abbrev LQ:fg:=oI (λ_ j=>0<=j) λi j=>.int (i / 2 ^ j.toNat)
theorem Gd:cF X (hG .RShift) (liftR2 X LQ):=EV LK λ_ _ _ _=>rfl
abbrev vX:fg:=jq λi j=>.bl (decide (i<j))
theorem Md:cF X (mu .Lt) (liftR2 X vX):=jX OZ λ_ _ _ _=>rfl
abbrev oLe:fg:=jq λi j=>.bl (decide (i<=j))
theorem Kw:cF X (mu .LtE) (liftR2 X oLe):=jX PF λ_ _ _ _=>rfl
abbrev Be:fg:=jq λi j=>.bl (decide (j<i))
theorem M_:cF X (mu .Gt) (liftR2 X Be):=jX O4 λ_ _ _ _=>rfl
abbrev oGe:fg:=jq λi j=>.bl (decide (j<=i))
theorem Kx:cF X (mu .GtE) (liftR2 X oGe):=jX Pr λ_ _ _ _=>rfl
theorem Db{c:Nat}:∀(k:Nat)(a:Array Nat),(Qz k #[c]).foldl (·++·) a=a++RP k c
 |0,a=>by simp
 |k+1,a=>by
  rw[Q3,QW,Db k (a++#[c])];apply Array.ext';simp[Q3]
theorem E4:cF X (hG .Mult) (λx y H Q=>∃c k,x=.str ⟨#[c]⟩/\y=.int k/\1<=k/\k<=1000/\Q (.str ⟨RP k.toNat c⟩) H):=by
 intro f s Z H x y v u Q I i m h;obtain⟨c,k,rfl,rfl,o,w,q⟩:=h;obtain⟨t,rfl⟩:=i;obtain⟨z,rfl⟩:=m;have a:(⟨#[c]⟩:Str).length=1:=rfl;have n:sizeLine=16777216:=rfl;refine PySem.P.mul_str ?_ ?_ ?_ ?_
 .rw[decide_eq_false (by lia),decide_eq_false (by lia)];rfl
 .intro _ _ j
  rw[a]at j;have:(1:Int)<=(2 ^ 63-1) / k:=Int.le_ediv_of_mul_le (by lia) (by lia)
  lia
 .intro _ _
  rw[a];unfold PySem.Builtin.Str.tooLong;exact decide_eq_false (by lia)
 .rw[if_neg (by lia)]
  by_cases b:k=1
  .rw[if_pos (by rw[b];rfl)]
   subst b;exact⟨.str ⟨#[c]⟩,H,I,⟨_,rfl⟩,q⟩
  .rw[if_neg (by simp[a,b])]
   have g:(Qz k.toNat #[c]).foldl (·++·) #[]=RP k.toNat c:=by rw[Db];simp
   refine⟨?_,.str ⟨(Qz k.toNat #[c]).foldl (·++·) #[]⟩,H,I.tok _,⟨_,rfl⟩,by rw[g];exact q⟩
   show ((Qz k.toNat #[c]).foldl (·++·) #[]).size<=sizeLine;rw[g];simp;lia
def cN:fg:=λx y M Q=>match x,y with
 |.int i,.int j=>CMul i j/\Q (.int (i*j)) M
 |.str z,.int k=>match z.cps.toList with
  |[c]=>1<=k/\k<=1000/\Q (.str ⟨RP k.toNat c⟩) M
  |_=>False
 |.tup xs,.int k=>xs≠[]/\0<=k/\k<=1000/\xs.length<=1000/\Q (.tup (Qz k.toNat xs).flatten) M
 |_,_=>False
theorem Rps.rep{ds:List D}{vs:List V}(h:Rps K H ds vs):∀k:Nat,Rps K H (Qz k ds).flatten (Qz k vs).flatten
 |0=>rfl
 |k+1=>by
  rw[Q3,Q3,RY,RY];exact h.append (Rps.rep h k)
theorem H_:cF X (hG .Mult) (liftR2 X cN):=by
 intro a s Z H x y v u Q I E G h;obtain⟨O,w,M,QQ,m,f,q,h,n⟩:=h;cases O with
 |int i=>
  cases w with
  |int j=>
   cases f;cases q;exact MI a s Z H _ _ v u Q I E G ⟨_,_,rfl,rfl,h.1,n _ M h.2 _ H m Frm.refl rfl⟩
  |_=>exact(show False from h).elim
 |str z=>
  cases w with
  |int k=>
   cases f;cases q;simp only[cN]at h
   split at h
   .rename_i c e
    have T:z=⟨#[c]⟩:=by
     obtain⟨⟨l⟩⟩:=z;have S:l=[c]:=e;rw[S]
    subst T;exact E4 a s Z H _ _ v u Q I E G ⟨_,_,rfl,rfl,h.1,h.2.1,n _ M h.2.2 _ H m Frm.refl rfl⟩
   .exact h.elim
  |_=>exact(show False from h).elim
 |tup xs=>
  cases w with
  |int k=>
   obtain⟨p,g,rfl,J,f⟩:=f;cases q;obtain⟨A,W,Y,h4,N⟩:=h;have l1:=f.length;obtain⟨t,rfl⟩:=G;cases E;obtain⟨F,r,R,_⟩:=I.tuple J.sq;have hl:=r.length;refine AJ R (λz=>A ?_) W Y (by lia) (λe=>?_) λe=>?_
   .have L:F.length=0:=congrArg R7 z
    exact UJ (by lia)
   .subst e
    refine⟨.ref p,H,I,rfl,n _ M N _ H m Frm.refl ⟨p,g,rfl,J,?_⟩⟩;simpa using f
   .have C:H s.heap.objs.size=none:=I.hok.fresh (PZ _)
    have L:(Qz k.toNat g).flatten.length<=sizeLine:=by
     rw[Hf];have A:k.toNat*g.length<=1000*1000:=TZ (by lia) (by lia)
     exact Qp A (by decide)
    have P:Imm H (upd H s.heap.objs.size<|.tup (Qz k.toNat g).flatten):=Imm.new C;exact⟨.ref s.heap.objs.size,_,I.laid (t':=s.toks) (o:=.tup (Qz k.toNat g).flatten) (λb ob z=>PR _ z) (PZ _) ⟨L,_,r.rep k.toNat,⟨_,Qg _ rfl,⟨rfl,_,rfl⟩,rfl⟩⟩,rfl,
     n _ M N _ _ (m.new C) (Frm.new C) ⟨_,_,rfl,upd_same,(f.rep _).mono P⟩⟩
  |_=>exact(show False from h).elim
 |_=>exact(show False from h).elim
def iG:D->Bool
 |.non=>true
 |_=>eC
def jI:fg:=λx y M Q=>match y with
 |.non=>Q (.bl<|iG x) M
 |_=>False
def i6:fg:=λx y M Q=>match y with
 |.non=>Q (.bl<|!iG x) M
 |_=>False
theorem BJ(r:Rp K H d v):decide (v=V.non)=iG d:=by
 cases d with
 |non=>cases r;rfl
 |tup xs=>obtain⟨p,a,rfl,_⟩:=r;rfl
 |lst xs=>obtain⟨p,a,rfl,_⟩:=r;rfl
 |mt xs=>obtain⟨p,a,rfl,_⟩:=r;rfl
 |ml xs=>obtain⟨p,a,rfl,_⟩:=r;rfl
 |fd ks xs=>obtain⟨p,a,rfl,_⟩:=r;rfl
 |_=>cases r;rfl
theorem HX:cF X (mu .Is) (liftR2 X jI):=by
 intro a s Z H x y v u Q I g m h;obtain⟨n,o,M,QQ,b,f,i,h,j⟩:=h;unfold jI at h
 split at h
 .cases i
  exact Li a s Z H _ _ v u Q I g m ⟨rfl,by rw[BJ f];exact j _ M h _ H b Frm.refl rfl⟩
 .exact h.elim
theorem DH:cF X (mu .IsNot) (liftR2 X i6):=by
 intro a s Z H x y v u Q I g m h;obtain⟨n,o,M,QQ,b,f,i,h,j⟩:=h;unfold i6 at h
 split at h
 .cases i
  refine Hi a s Z H _ _ v u Q I g m ⟨rfl,j _ M h _ H b Frm.refl ?_⟩;show _=V.bl _;rw[BJ f]
 .exact h.elim
end
section
variable{κ:Type}[DecidableEq κ]
def cU(Yo:List (κ×D))(k:κ):Option D:=(Yo.find? λa=>decide (a.1=k)).map (·.2)
def eG(Yo:List (κ×D))(k:κ)(v:D):List (κ×D):=
 if (Yo.any λa=>decide (a.1=k))=true then Yo.map (λa=>if a.1=k then (a.1,v) else a) else Yo++[(k,v)]
def on(Yo:List (κ×D))(k:κ):List (κ×D):=Yo.filter λa=>decide (a.1≠k)
theorem Rkv.val{a:List (κ×D)}{f:List (κ×V)}(h:Rkv K H a f)(k:κ):(cU a k=cm/\dS f k=cm)\/∃d v,cU a k=ap d/\dS f k=ap v/\Rp K H d v:=by
 induction h with
 |nil=>exact .inl ⟨rfl,rfl⟩
 |@cons p q ps qs r t ih=>
  obtain⟨g,d⟩:=p;obtain⟨i,v⟩:=q;obtain⟨e,r⟩:=r;dsimp only at e r;subst e
  by_cases b:g=k
  .exact .inr ⟨d,v,by simp[cU,b],by simp[dS,b],r⟩
  .simpa [cU,dS,b] using ih
theorem Rkv.any{a:List (κ×D)}{b:List (κ×V)}(h:Rkv K H a b)(k:κ):(a.any λkv=>decide (kv.1=k))=(b.any λkv=>decide (kv.1=k)):=by
 induction h with
 |nil=>rfl
 |cons r t ih=>rw[RE,RE,ih,r.1]
theorem Rkv.put{a:List (κ×D)}{g:List (κ×V)}(h:Rkv K H a g)(k:κ){d:D}{v:V}(r:Rp K H d v):Rkv K H (eG a k d) (cW g k v):=by
 unfold eG cW;rw[h.any k]
 split
 .rename_i q;clear q
  induction h with
  |nil=>exact .nil
  |@cons p q ps qs rr t ih=>
   obtain⟨i,m⟩:=p;obtain⟨n,j⟩:=q;obtain⟨e,f⟩:=rr;dsimp only at e f;subst e;rw[PU,PU];refine .cons ?_ ih
   by_cases b:i=k
   .rw[if_pos b,if_pos b];exact⟨rfl,r⟩
   .rw[if_neg b,if_neg b];exact⟨rfl,f⟩
 .rename_i q;clear q
  induction h with
  |nil=>exact .cons ⟨rfl,r⟩ .nil
  |cons rr t ih=>exact .cons rr ih
theorem Rkv.drop{a:List (κ×D)}{g:List (κ×V)}(h:Rkv K H a g)(k:κ):Rkv K H (on a k) (hV g k):=by
 unfold on hV
 induction h with
 |nil=>exact .nil
 |@cons p q ps qs rr t ih=>
  obtain⟨i,m⟩:=p;obtain⟨n,j⟩:=q;obtain⟨e,f⟩:=rr;dsimp only at e f;subst e
  by_cases b:i=k
  .simpa [b] using ih
  .simp only[QB,ne_eq,b,not_false_eq_true,decide_true,if_true]
   exact .cons ⟨rfl,f⟩ ih
theorem Rkv.length{a:List (κ×D)}{b:List (κ×V)}(h:Rkv K H a b):a.length=b.length:=Rn h
end
def cO:D->Option aG
 |.int i=>ap (.inl i)
 |.str x=>ap (.inr x)
 |_=>cm
def ia:List D->Option (List aG)
 |[]=>ap []
 |d::ds=>match cO d,ia ds with
  |some k,ap ks=>ap (k::ks)
  |_,_=>cm
def KY:D->Option (List aG)
 |.tup xs=>ia xs
 |_=>cm
section
theorem gI{d:D}{v:V}{k:aG}(r:Rp K H d v)(e:cO d=ap k):v=kV k:=by
 cases d with
 |int i=>cases e;exact r
 |str x=>cases e;exact r
 |_=>cases e
theorem nj:∀{ds:List D}{vs:List V}{ks:List aG},Rps K H ds vs->ia ds=ap ks->vs=ks.map kV
 |[],vs,ks,r,e=>by cases e;exact r
 |d::ds,vs,ks,r,e=>by
  obtain⟨v,i,rfl,a,b⟩:=r;simp only[ia]at e
  split at e
  .rename_i k h g f
   cases e;rw[gI a g,nj b f];rfl
  .cases e
def pU(M:Mem)(a:eg)(y:D):Option (Option D):=match M a with
 |some (.dK Yo)=>match cO y with
  |some k=>ap (cU Yo k)
  |none=>cm
 |some (.dT Yo)=>match KY y with
  |some k=>ap (cU Yo k)
  |none=>cm
 |_=>cm
theorem rS{d:D}{v:V}{ks:List aG}(r:Rp K H d v)(e:KY d=ap ks):∃b,v=.ref b/\H b=ap (.tup<|ks.map kV):=by
 cases d with
 |tup xs=>
  obtain⟨p,a,rfl,t,r⟩:=r;exact⟨p,rfl,by rw[<- nj r e];exact t⟩
 |_=>cases e
theorem mh{a:eg}{y:D}{v:V}{o:Option D}(s:RepH K H M)(r:Rp K H y v)(e:pU M a y=ap o):
  (o=cm/\DGet H a v cm)\/∃d w,o=ap d/\DGet H a v (ap w)/\Rp K H d w:=by
 unfold pU at e
 split at e
 .rename_i n i
  obtain⟨x,h,j⟩:=s _ _ i
  split at e
  .rename_i k m
   cases e;have u:=gI r m;subst u;rcases j.val k with⟨g,f⟩|⟨d,w,g,f,r'⟩
   .exact .inl ⟨g,by rw[<- f];exact DGet.k h⟩
   .exact .inr ⟨d,w,g,by rw[<- f];exact DGet.k h,r'⟩
  .cases e
 .rename_i n i
  obtain⟨x,h,j⟩:=s _ _ i
  split at e
  .rename_i k m
   cases e;obtain⟨b,rfl,q⟩:=rS r m;rcases j.val k with⟨g,f⟩|⟨d,w,g,f,r'⟩
   .exact .inl ⟨g,by rw[<- f];exact DGet.t h q⟩
   .exact .inr ⟨d,w,g,by rw[<- f];exact DGet.t h q,r'⟩
  .cases e
 .cases e
end
end L3
namespace HT
open PySem PyProof.Rows
section
variable {prog:fy}{w:g4}{A:kc}{E:YA}{s:el}
theorem gQ{t j:eg}{items:YD}{n o:ay}{a e:Option Int}{Q:YA}(c:XE s.heap t items)(p:s.heap.IsSliceOf j n o .none)(pl:Xq n a)(x:Xq o e)
  (q:sIx items.size 0 a=0/\sIx items.size items.size e=items.size) (h:Q (.ref t) s):eH (fv prog w) A (Xg (.ref t)<|.ref j) Q E s:=by
 obtain⟨u,i,f,v⟩:=id p;have g:s.TypeIs (.ref j) "slice":=⟨u,i,f⟩;unfold Xg
 try with_reducible refine pa ?_
 first|refine ax (fe ?_)|skip
 refine ax (wpAny_sequenceKey c.typeIs (by decide) ?_)
 refine ax (wpAny_callSpecial?_slot (name:=QI "__getitem__") c.typeIs Q1
  (nr Q1 c.typeIs entry_tuple_getitem ?_<|args_tuple_getitem _ _))
 show eH _ _ (T5 (.ref t) >>= _) _ _ s;refine ax (tupleItemsOf_ c ?_);refine ax (Tl g ?_);rw[if_pos (by decide)]
 refine ax (eQ p pl x ?_);have b:((((sIx items.size 0 a:Nat):Int)==0&&(1:Int)==1&&(sIx items.size items.size e-sIx items.size 0 a)==items.size)=true):=by
  rw[q.1,q.2];simp
 show eH _ _ (if (((sIx items.size 0 a:Nat):Int)==0&&(1:Int)==1&&(sIx items.size items.size e-sIx items.size 0 a)==items.size)=true then _ else _) _ _ s
 rw[if_pos b];refine ax (m:=Builtin.Tuple.tupleIsExact _) (ax<|wpAny_typeOf c.typeIs<|wpAny_pure ?_);rw[if_pos (by decide)]
 first
  |exact ax (PP<|wpAny_bind<|wpAny_pure<|wpAny_pure ⟨_,rfl,fe h⟩)
  |exact ax (PP<|wpAny_pure ⟨_,rfl,fe h⟩)
  |exact ax (PP<|wpAny_bind<|wpAny_pure ⟨_,rfl,fe h⟩)
  |trace_state
end
end HT
namespace L3
open PySem L2
variable{p p':eg}{A:kc}{a b:YD}{B:Bd}{X:Cx}{c e tg:gl}{H:Hp}{Z:L2.St}{es:Yy}{Ys its':Yw}{M:Mem}{i n:Nat}{K:PY}{pos pos':Pos}{s:el}{x:Str}{u:ay}{tb:av}{te:bu}{g:jB}
section
variable{a b:gl}{ta tb tc:bu}
def aw:fg:=λx y M Q=>match aO M x,y with
 |some xs,.int i=>match atI xs i with
  |some d=>Q d M
  |none=>False
 |some _,_=>False
 |none,y=>match x,y with
  |.str z,.int i=>z.length<=sizeLine/\match atI z.cps.toList i with
   |some c=>Q (.str ⟨#[c]⟩) M
   |none=>False
  |.ref a,y=>match pU M a y with
   |some (ap d)=>Q d M
   |_=>False
  |_,_=>False
theorem Rps.atI{ds:List D}{vs:List V}{i:Int}{d:D}(r:Rps K H ds vs)(e:atI ds i=ap d):∃v,L2.atI vs i=ap v/\Rp K H d v:=by
 unfold L2.atI at e ⊢;rw[<- r.length];cases q:rA ds.length i with
 |none=>rw[q]at e;cases e
 |some j=>
  rw[q]at e;exact r.get (i:=j) e
theorem Fz(G:X.A.units+1<rc):IxR X (λx y H Q=>∃a v,x=.ref a/\DGet H a y (ap v)/\Q v H):=by
 intro f m o s Z H x y v u Q I C E h z;obtain⟨a,w,rfl,g,q⟩:=h;cases C;exact PyProof.Rows.tail_any (rW I g) PySem.F.slot_dict_getitem.lookup (p8 G I g E λJ L I3 j=>⟨w,H,I3,j,q⟩) z
theorem Ks(W:X.A.units+1<rc):IxR X (liftR2 X aw):=by
 intro f j m s Z H x y v u Q I N O h E;obtain⟨Y,d2,M,QQ,C,L,F,h,G⟩:=h;unfold aw at h
 split at h
 .rename_i xs i e
  split at h
  .rename_i d J
   cases F;obtain⟨p,P,rfl,hq,r⟩:=jd C L e;obtain⟨w,R,o⟩:=r.atI J;refine J_ f j m s Z H _ _ v u Q I N O ?_ E;have q:=G _ M h _ H C Frm.refl o;rcases hq with hq|hq
   .exact .inl ⟨p,P,i,w,rfl,rfl,hq,R,q⟩
   .exact .inr (.inl ⟨p,P,i,w,rfl,rfl,hq,R,q⟩)
  .exact h.elim
 .exact h.elim
 .split at h
  .obtain⟨U,h⟩:=h
   split at h
   .rename_i S T
    cases L;cases F;exact C7 f j m s Z H _ _ v u Q I N O ⟨_,_,S,rfl,rfl,U,T,G _ M h _ H C Frm.refl rfl⟩ E
   .exact h.elim
  .split at h
   .rename_i d J
    cases L;rcases mh C F J with⟨z,_⟩|⟨d',w,z,g,o⟩
    .cases z
    .cases z
     exact Fz W f j m s Z H _ _ v u Q I N O ⟨_,w,rfl,g,G _ M h _ H C Frm.refl o⟩ E
   .exact h.elim
  .exact h.elim
abbrev Ju:=Dl->Mem->(Option Int->Mem->Prop)->Prop
inductive liftO(X:Cx)(B:Bd)(T:Ju)(Z:St)(H:Hp)(Q:Option Int->Hp->Prop):Prop
 |mk (U:Dl) (M:Mem) (QQ:Option Int->Mem->Prop) (s:SR X B U M Z H) (h:T U M QQ) (u:∀o M',QQ o M'->∀H',RepH X.K H' M'->Frm M H M' H'->Q o H'):liftO X B T Z H Q
def DO(X:Cx)(B:Bd)(e:Option gl)(T:Ju):Prop:=PO X e (liftO X B T)
theorem xt{e:Option gl}{t t':TO}(h:PO X e t)(w:∀Z H Q,t' Z H Q->t Z H Q):PO X e t':=λf s Z H Q I q=>h f s Z H Q I (w Z H Q q)
def bM:Ju:=λ_ M Q=>Q cm M
def cP(t:bu):Ju:=λU M Q=>t U M λx M1=>match x with
 |.int i=>Q (ap i) M1
 |_=>False
theorem Hv:DO X B cm bM:=xt GN λZ H Q ⟨U,M,QQ,s,h,u⟩=>u cm M h H s.rh Frm.refl
theorem Gz(h:DE X B e te):DO X B (ap e) (cP te):=by
 refine xt (G3 h) ?_
 rintro Z H Q ⟨U,M,QQ,s,h,u⟩
 refine⟨U,M,_,s,h,λd M' q v H' f i r=>?_⟩;cases d with
 |int j=>exact⟨j,r,u _ M' q H' f i⟩
 |_=>exact(show False from q).elim
def ko(xs:List D)(lo hi:Option Int):List D:=(xs.drop<|HT.sIx xs.length 0 lo).take (HT.sIx xs.length xs.length hi-HT.sIx xs.length 0 lo)
theorem Rps.cut{ds:List D}{vs:List V}(r:Rps K H ds vs)(h f:Option Int):Rps K H (ko ds h f) (kg vs h f):=by
 unfold ko kg;rw[<- r.length];exact(r.drop _).take _
def Lb(x:D)(lo hi:Option Int)(M:Mem)(Q:DK):Prop:=match x with
 |.tup xs=>Q (.tup<|ko xs lo hi) M
 |.ml xs=>∀p,M p=cm->Q (.ref p) (M.upd p<|.lst<|ko xs lo hi)
 |x=>match gR M x with
  |some xs=>∀p,M p=cm->Q (.ref p) (M.upd p<|.lst<|ko xs lo hi)
  |none=>False
inductive liftSl(X:Cx)(x:V)(lo hi:Option Int)(H:Hp)(Q:VK):Prop
 |mk (d:D) (M:Mem) (QQ:DK) (rh:RepH X.K H M) (r:Rp X.K H d x) (h:Lb d lo hi M QQ) (u:Up X.K M H QQ Q):liftSl X x lo hi H Q
theorem vA{vs:List V}{j f:Option Int}(h:HT.sIx vs.length 0 j=0/\HT.sIx vs.length vs.length f=vs.length):kg vs j f=vs:=by
 unfold kg;rw[h.1,h.2];simp
theorem Ic:Oc X (λx lo hi H Q=>∃a xs,x=.ref a/\ie X.K H a xs/\(kg xs lo hi=xs->Q (.ref a) H)/\∀p,H p=cm->Q (.ref p) (upd H p<|.tup<|kg xs lo hi)):=by
 intro j s Z H x v G F lo hi E Q I z w pl y h;obtain⟨a,xs,rfl,o,J,q⟩:=h
 by_cases m:HT.sIx xs.length 0 lo=0/\HT.sIx xs.length xs.length hi=xs.length
 .cases z
  obtain⟨Ys,r,C,L⟩:=I.tuple o;have f:Ys.toArray.size=xs.length:=by rw[Qd];exact r.length.symm
  refine⟨"tuple",_,Q1.lookup,C.typeIs,?_⟩;exact HT.gQ C w pl y (by rw[f];exact m) ⟨.ref a,H,I,rfl,J<|vA m⟩
 .exact MB j s Z H _ v G F lo hi E Q I z w pl y ⟨a,xs,rfl,o,m,q⟩
end
section
variable{lo hi:Option gl}{tl th:Ju}{p2 p:Pos}{t:fC}
theorem Lf:Oc X (liftSl X):=by
 intro Ym s Z H x v vl vu lo hi sl Q I rx hs pl pu h;obtain⟨d,M,QQ,rh,r,h,up⟩:=h;unfold Lb at h
 split at h
 .obtain⟨a,vs,rfl,ht,r⟩:=r
  refine Ic Ym s Z H _ v vl vu lo hi sl Q I rx hs pl pu ⟨a,vs,rfl,ht.sq,λe=>?_,λp hp=>?_⟩
  .exact up _ M h _ H rh Frm.refl ⟨a,vs,rfl,ht,by rw[<- e];exact r.cut lo hi⟩
  .exact up _ M h _ _ (rh.new hp) (Frm.new hp) ⟨p,_,rfl,upd_same,(r.cut lo hi).mono<|Imm.new hp⟩
 .obtain⟨a,vs,rfl,hq,r⟩:=r
  refine wK Ym s Z H _ v vl vu lo hi sl Q I rx hs pl pu ⟨a,vs,rfl,hq.sq,λp hp=>?_⟩;exact up _ _ (h p<|rh.fresh hp) _ _ (rh.put (by rw[hp];trivial) ⟨_,upd_same,(r.cut lo hi).mono<|Imm.new hp⟩) (Frm.put<|.inl hp) rfl
 .split at h
  .rename_i xs e
   obtain⟨a,vs,rfl,hq,r⟩:=iM rh r e;refine wK Ym s Z H _ v vl vu lo hi sl Q I rx hs pl pu ⟨a,vs,rfl,.inl hq,λp hp=>?_⟩;exact up _ _ (h p<|rh.fresh hp) _ _ (rh.put (by rw[hp];trivial) ⟨_,upd_same,(r.cut lo hi).mono<|Imm.new hp⟩) (Frm.put<|.inl hp) rfl
  .exact h.elim
def tX(te:bu)(tl th:Ju):bu:=λU M Q=>te U M λx M1=>tl U M1 λl M2=>th U M2 λu M3=>Lb x l u M3 Q
theorem DC(G:DE X B e te)(I:DO X B lo tl)(F:DO X B hi th):DE X B (.Subscript e (.Slice lo hi cm p2) pos) (tX te tl th):=by
 refine a_ (Cg Lf G I F) ?_
 rintro Z H Q ⟨U,M,QQ,s,h,u⟩
 refine⟨U,M,_,s,h,λx M1 y v1 H1 f j z=>?_⟩;refine⟨U,M1,_,s.go f j,y,λl M2 C H2 m q=>?_⟩;refine⟨U,M2,_,s.go m (j.trans q),C,λw M3 E H3 o v=>?_⟩;exact⟨x,M3,QQ,o,z.mf f (q.trans v),E,u.go<|(j.trans q).trans v⟩
abbrev pG:=List D->Mem->DK->Prop
inductive liftC(X:Cx)(r:pG)(xs:List V)(H:Hp)(Q:VK):Prop
 |mk (ds:List D) (M:Mem) (QQ:DK) (rh:RepH X.K H M) (rp:Rps X.K H ds xs) (h:r ds M QQ) (u:Up X.K M H QQ Q):liftC X r xs H Q
def bF(r:pG)(t:fC):bu:=λU M Q=>t U M λf M1=>r f M1 Q
theorem Al{r:pG}{Q:VK}(h:liftE X B (bF r t) Z H Q):tCB (liftC X r) (liftA X B t) Z H Q:=by
 obtain⟨U,M,QQ,s,h,u⟩:=h;refine⟨U,M,_,s,h,λm M1 j v H1 f o q=>?_⟩;exact⟨m,M1,QQ,f,q,j,u.go o⟩
theorem Ci{id:String}{r:pG}(q:bQ X (.builtin id) (liftC X r))(o:Gl X x)(f:X.mg x=cm)(j:gp x=ap (.builtin id))(v:DA X B (e::es) t)(m:x≠"__name__":=by decide)(hdb:(x==("__debug__":Str))=false:=by decide)(he:ff (e::es) X.env=(eC,g3 e X.env)::ff es X.env:=by rfl)(hpl:(j0 pos<|starEach es X.env).any (·.1)=false:=by rfl):DE X B (.Call (.Name x p) (e::es) [] pos) (bF r t):=
 a_ (Cp q o f j v m hdb he hpl) λ_ _ _ h=>Al h
theorem Bq{T:String}{r:pG}(q:bQ X (.type T) (liftC X r))(o:Gl X x)(f:X.mg x=cm)(j:gp x=ap (.type T))(v:DA X B (e::es) t)(m:x≠"__name__":=by decide)(hdb:(x==("__debug__":Str))=false:=by decide)(he:ff (e::es) X.env=(eC,g3 e X.env)::ff es X.env:=by rfl)(hpl:(j0 pos<|starEach es X.env).any (·.1)=false:=by rfl):DE X B (.Call (.Name x p) (e::es) [] pos) (bF r t):=
 a_ (AE q o f j v m hdb he hpl) λ_ _ _ h=>Al h
theorem gP{ds:List D}{vs:List V}{d:D}(r:Rps K H [d] vs):∃v,vs=[v]/\Rp K H d v:=by
 obtain⟨v,w,rfl,a,b⟩:=r;cases b;exact⟨v,rfl,a⟩
theorem Fq{vs:List V}{d e:D}(r:Rps K H [d,e] vs):∃v w,vs=[v,w]/\Rp K H d v/\Rp K H e w:=by
 obtain⟨v,w,rfl,a,b⟩:=r;obtain⟨f,j,rfl,h,b⟩:=b;cases b;exact⟨v,f,rfl,a,h⟩
def bR:pG:=λf M Q=>match f with
 |[d]=>match aO M d with
  |some xs=>Q (.int xs.length) M
  |none=>match d with
   |.str z=>z.length<=sizeLine/\Q (.int z.length) M
   |.ref a=>match M a with
    |some (.dK Yo)=>Q (.int Yo.length) M
    |_=>False
   |_=>False
 |_=>False
theorem Bj:bQ X (.builtin "len") (liftC X bR):=by
 intro f s Z H N o Q I r h;obtain⟨ds,M,QQ,j,G,h,w⟩:=h;unfold bR at h
 split at h
 .obtain⟨v,rfl,m⟩:=gP (ds:=[]) G
  split at h
  .rename_i O e
   obtain⟨q,E,rfl,F,L⟩:=jd j m e;exact pz f s Z H _ o Q I r ⟨q,E,rfl,F,by rw[<- L.length];exact w _ M h _ H j Frm.refl rfl⟩
  .split at h
   .cases m
    exact qP f s Z H _ o Q I r ⟨_,rfl,h.1,w _ M h.2 _ H j Frm.refl rfl⟩
   .split at h
    .rename_i C e
     cases m;obtain⟨J,y,z⟩:=j _ _ e;exact AM f s Z H _ o Q I r ⟨_,J,rfl,y,by rw[<- z.length];exact w _ M h _ H j Frm.refl rfl⟩
    .exact h.elim
   .exact h.elim
 .exact h.elim
def eY:pG:=λf M Q=>match f with
 |[d]=>match aO M d with
  |some xs=>∀p,M p=cm->Q (.ref p) (M.upd p<|.lst xs)
  |none=>False
 |_=>False
theorem vI:bQ X (.type "list") (liftC X eY):=by
 intro Ym s Z H xs us Q I r h;obtain⟨ds,M,QQ,rh,rp,h,up⟩:=h;unfold eY at h
 split at h
 .obtain⟨v,rfl,rv⟩:=gP (ds:=[]) rp
  split at h
  .rename_i ys e
   obtain⟨q,vs,rfl,hq,rr⟩:=jd rh rv e;refine r9 Ym s Z H _ us Q I r ⟨q,vs,rfl,hq,λp hp=>?_⟩;exact up _ _ (h p<|rh.fresh hp) _ _ (rh.put (by rw[hp];trivial) ⟨_,upd_same,rr.mono<|Imm.new hp⟩) (Frm.put<|.inl hp) rfl
  .exact h.elim
 .exact h.elim
def cI:pG:=λf M Q=>match f with
 |[.tup xs]=>Q (.tup xs) M
 |[d]=>match gR M d with
  |some xs=>Q (.tup xs) M
  |none=>False
 |_=>False
theorem tO:bQ X (.type "tuple") (liftC X cI):=by
 intro f s Z H J z Q I r h;obtain⟨ds,M,QQ,m,F,h,C⟩:=h;unfold cI at h
 split at h
 .obtain⟨v,rfl,o⟩:=gP (ds:=[]) F
  obtain⟨q,j,rfl,E,y⟩:=o;exact h9 f s Z H _ z Q I r ⟨q,j,rfl,.inr ⟨E.sq,C _ M h _ H m Frm.refl ⟨q,j,rfl,E,y⟩⟩⟩
 .obtain⟨v,rfl,o⟩:=gP (ds:=[]) F
  split at h
  .rename_i L e
   obtain⟨q,j,rfl,G,y⟩:=iM m o e;refine h9 f s Z H _ z Q I r ⟨q,j,rfl,.inl ⟨.inl G,λp w=>?_⟩⟩;exact C _ M h _ _ (m.new w) (Frm.new w) ⟨p,_,rfl,upd_same,y.mono<|Imm.new w⟩
  .exact h.elim
 .exact h.elim
def eI(M:Mem):D->Option String
 |.non=>ap "NoneType"
 |.bl _=>ap "bool"
 |.int _=>ap "int"
 |.str _=>ap "str"
 |.tup _=>ap "tuple"
 |.lst _=>ap "list"
 |.ref a=>match M a with
  |some (.lst _)=>ap "list"
  |some (.dK _)=>ap "dict"
  |some (.dT _)=>ap "dict"
  |_=>cm
 |_=>cm
def jD(t T:String):Bool:=t==T||(t=="bool"&&T=="int")
def B1(T:String):Bool:=T=="bool"||T=="int"||T=="str"||T=="tuple"||T=="list"||T=="dict"
theorem GP:(∀K:PY,∀t∈["NoneType","bool","int","str","tuple","list","dict"],∀T∈["bool","int","str","tuple","list","dict"],W.kitOne K (.type t) (.type T)=ap (jD t T)):=by
 intro K t h T f;simp only[Ql,QM,or_false]at h f;rcases h with rfl|rfl|rfl|rfl|rfl|rfl|rfl<;>rcases f with rfl|rfl|rfl|rfl|rfl|rfl<;>kernel_rfl
theorem Ge{d:D}{v:V}{t:String}(j:RepH K H M)(r:Rp K H d v)(e:eI M d=ap t):TyOf K H v (.type t)/\t∈["NoneType","bool","int","str","tuple","list","dict"]:=by
 cases d with
 |non=>cases r;cases e;exact⟨.non,by simp⟩
 |bl b=>cases r;cases e;exact⟨.bl b,by simp⟩
 |int i=>cases r;cases e;exact⟨.int i,by simp⟩
 |str x=>cases r;cases e;exact⟨.str x,by simp⟩
 |ty n=>cases e
 |mt n=>cases e
 |ml n=>cases e
 |fd _ _=>cases e
 |tup xs=>
  cases e;obtain⟨q,y,rfl,h,z⟩:=r;exact⟨.tup h,by simp⟩
 |lst xs=>
  cases e;obtain⟨q,y,rfl,⟨o,h⟩,z⟩:=r;exact⟨.frz h,by simp⟩
 |ref a=>
  cases r;simp only[eI]at e
  split at e
  .rename_i q;cases e;obtain⟨w,f,m⟩:=j _ _ q;exact⟨.lst f,by simp⟩
  .rename_i q;cases e;obtain⟨w,f,m⟩:=j _ _ q;exact⟨.dK f,by simp⟩
  .rename_i q;cases e;obtain⟨w,f,m⟩:=j _ _ q;exact⟨.dT f,by simp⟩
  .cases e
def xW:pG:=λf M Q=>match f with
 |[d,.ty T]=>B1 T=true/\match eI M d with
  |some t=>Q (.bl<|jD t T) M
  |none=>False
 |_=>False
theorem pZ:bQ X (.builtin "isinstance") (liftC X xW):=by
 intro f s Z H F y Q I r h;obtain⟨G,M,QQ,m,E,h,z⟩:=h;unfold xW at h
 split at h
 .rename_i d T
  obtain⟨o,h⟩:=h;obtain⟨v,w,rfl,q,j⟩:=Fq E;cases j
  split at h
  .rename_i t e
   obtain⟨ty,C⟩:=Ge m q e;refine sQ f s Z H _ y Q I r ⟨v,T,.type t,_,rfl,ty,GP X.K t C T ?_,z _ M h _ H m Frm.refl rfl⟩;simp only[B1,Bool.or_eq_true,beq_iff_eq]at o;simp only[Ql,QM,or_false];rcases o with ((((h|h)|h)|h)|h)|h<;>simp[h]
  .exact h.elim
 .exact h.elim
def ER:pG:=λf M Q=>match f with
 |[.int i,.int j]=>Q (.int (if j<i then j else i)) M
 |_=>False
theorem AK(C:X.calm=true):bQ X (.builtin "min") (liftC X ER):=by
 intro f s Z H E q Q I r h;obtain⟨F,M,QQ,m,z,h,y⟩:=h;unfold ER at h
 split at h
 .obtain⟨v,w,rfl,o,j⟩:=Fq z
  cases o;cases j;exact AF C f s Z H _ q Q I r ⟨_,_,rfl,y _ M h _ H m Frm.refl rfl⟩
 .exact h.elim
def FA:pG:=λf M Q=>match f with
 |[.int i,.int j]=>Q (.int (if j>i then j else i)) M
 |_=>False
theorem B8(C:X.calm=true):bQ X (.builtin "max") (liftC X FA):=by
 intro f s Z H E q Q I r h;obtain⟨F,M,QQ,m,z,h,y⟩:=h;unfold FA at h
 split at h
 .obtain⟨v,w,rfl,o,j⟩:=Fq z
  cases o;cases j;exact B7 C f s Z H _ q Q I r ⟨_,_,rfl,y _ M h _ H m Frm.refl rfl⟩
 .exact h.elim
end
mutual
def aR:D->D->Bool
 |.non,.non=>true
 |.bl a,.bl b=>a==b
 |.bl a,.int b=>(if a then 1 else 0)==b
 |.int a,.bl b=>a==(if b then 1 else 0)
 |.int a,.int b=>decide (a=b)
 |.str a,.str b=>decide (a=b)
 |.tup xs,.tup ys=>fJ xs ys
 |.lst xs,.lst ys=>fJ xs ys
 |_,_=>eC
def fJ:List D->List D->Bool
 |[],[]=>true
 |x::xs,y::ys=>aR x y&&fJ xs ys
 |_,_=>eC
end
mutual
def bn:Nat->D->Bool
 |_,.non=>true
 |_,.bl _=>true
 |_,.int _=>true
 |_,.str _=>true
 |n+1,.tup xs=>bv n xs
 |n+1,.lst xs=>bv n xs
 |_,_=>eC
def bv:Nat->List D->Bool
 |_,[]=>true
 |n,x::xs=>bn n x&&bv n xs
end
mutual
def Hr(h:hI):D->ay->Prop
 |.non,u=>u=.none
 |.bl b,u=>u=.bool b
 |.int i,u=>∃t,u=.int i t
 |.str x,u=>∃t,u=.str x t
 |.tup xs,u=>∃p Ys,u=.ref p/\h.IsTuple p (List.toArray Ys)/\Hrs h xs Ys
 |.lst xs,u=>∃p Ys,u=.ref p/\h.IsList p (List.toArray Ys)/\Hrs h xs Ys
 |_,_=>False
def Hrs(h:hI):List D->List ay->Prop
 |[],us=>us=[]
 |x::xs,us=>∃u r,us=u::r/\Hr h x u/\Hrs h xs r
end
section
variable{h:hI}
theorem Hrs.length:∀{ds:List D}{us:Yw},Hrs h ds us->ds.length=us.length
 |[],_,q=>by cases q;rfl
 |_::_,_,q=>by obtain⟨v,r,rfl,_,b⟩:=q;simp[b.length]
theorem Hrs.get:∀{ds:List D}{us:Yw},Hrs h ds us->∀(i:Nat)(f:i<ds.length)(j:i<us.length),Hr h ds[i] us[i]
 |[],_,_,i,f,_=>absurd f (S1 _)
 |x::xs,_,q,i,f,j=>by
  obtain⟨v,r,rfl,a,b⟩:=q;cases i with
  |zero=>exact a
  |succ i=>exact b.get i (by simpa using f) (by simpa using j)
theorem wf(x:h.IsTuple p a)(y:h.IsTuple p b):a=b:=by
 obtain⟨o,m,_,n,q⟩:=x;obtain⟨w,j,_,v,f⟩:=y;rw[m]at j;cases j;rw[q]at f
 injection f with e _
theorem yk(x:h.IsList p a)(y:h.IsList p b):a=b:=by
 obtain⟨o,m,_,n,q⟩:=x;obtain⟨w,j,_,v,f⟩:=y;rw[m]at j;cases j;rw[q]at f
 injection f with e _
theorem NA(x:h.IsList p a)(y:h.IsTuple p b):False:=by
 obtain⟨o,m,c,_⟩:=x;obtain⟨q,f,j,_⟩:=y;rw[m]at f;cases f;rw[c]at j
 injection j with e
 exact absurd e (by decide)
mutual
theorem EQ:∀{d e:D}{u:ay},Hr h d u->Hr h e u->d=e
 |.non,e,u,a,b=>by
  cases a;cases e with
  |non=>rfl
  |bl _=>cases b
  |int _=>obtain⟨t,q⟩:=b;cases q
  |str _=>obtain⟨t,q⟩:=b;cases q
  |tup _=>obtain⟨p,i,q,_⟩:=b;cases q
  |lst _=>obtain⟨p,i,q,_⟩:=b;cases q
  |_=>exact(show False from b).elim
 |.bl c,e,u,a,b=>by
  cases a;cases e with
  |non=>cases b
  |bl _=>cases b;rfl
  |int _=>obtain⟨t,q⟩:=b;cases q
  |str _=>obtain⟨t,q⟩:=b;cases q
  |tup _=>obtain⟨p,i,q,_⟩:=b;cases q
  |lst _=>obtain⟨p,i,q,_⟩:=b;cases q
  |_=>exact(show False from b).elim
 |.int c,e,u,a,b=>by
  obtain⟨t,rfl⟩:=a;cases e with
  |non=>cases b
  |bl _=>cases b
  |int _=>obtain⟨t,q⟩:=b;cases q;rfl
  |str _=>obtain⟨t,q⟩:=b;cases q
  |tup _=>obtain⟨p,i,q,_⟩:=b;cases q
  |lst _=>obtain⟨p,i,q,_⟩:=b;cases q
  |_=>exact(show False from b).elim
 |.str c,e,u,a,b=>by
  obtain⟨t,rfl⟩:=a;cases e with
  |non=>cases b
  |bl _=>cases b
  |int _=>obtain⟨t,q⟩:=b;cases q
  |str _=>obtain⟨t,q⟩:=b;cases q;rfl
  |tup _=>obtain⟨p,i,q,_⟩:=b;cases q
  |lst _=>obtain⟨p,i,q,_⟩:=b;cases q
  |_=>exact(show False from b).elim
 |.tup xs,e,u,a,b=>by
  obtain⟨p,Ys,rfl,m,v⟩:=a;cases e with
  |non=>cases b
  |bl _=>cases b
  |int _=>obtain⟨t,q⟩:=b;cases q
  |str _=>obtain⟨t,q⟩:=b;cases q
  |tup ys=>
   obtain⟨p',its',q,f,j⟩:=b;cases q;have e:=wf m f;have o:Ys=its':=by simpa using congrArg S3 e
   subst o;rw[iD v j]
  |lst ys=>obtain⟨p',its',q,f,j⟩:=b;cases q;exact(NA f m).elim
  |_=>exact(show False from b).elim
 |.lst xs,e,u,a,b=>by
  obtain⟨p,Ys,rfl,m,v⟩:=a;cases e with
  |non=>cases b
  |bl _=>cases b
  |int _=>obtain⟨t,q⟩:=b;cases q
  |str _=>obtain⟨t,q⟩:=b;cases q
  |lst ys=>
   obtain⟨p',its',q,f,j⟩:=b;cases q;have e:=yk m f;have o:Ys=its':=by simpa using congrArg S3 e
   subst o;rw[iD v j]
  |tup ys=>obtain⟨p',its',q,f,j⟩:=b;cases q;exact(NA m f).elim
  |_=>exact(show False from b).elim
 |.ty _,_,_,a,_=>(show False from a).elim
 |.ref _,_,_,a,_=>(show False from a).elim
 |.mt _,_,_,a,_=>(show False from a).elim
 |.ml _,_,_,a,_=>(show False from a).elim
 |.fd _ _,_,_,a,_=>(show False from a).elim
theorem iD:∀{ds es:List D}{us:Yw},Hrs h ds us->Hrs h es us->ds=es
 |[],es,us,a,b=>by
  cases a;cases es with
  |nil=>rfl
  |cons _ _=>obtain⟨v,r,q,_⟩:=b;cases q
 |d::ds,es,us,a,b=>by
  obtain⟨v,r,rfl,j,f⟩:=a;cases es with
  |nil=>cases b
  |cons e es=>
   obtain⟨w,y,q,o,m⟩:=b;cases q;rw[EQ j o,iD f m]
end
mutual
theorem CK:∀{n:Nat}{d:D},bn n d=true->aR d d=true
 |_,.non,_=>by simp[aR]
 |_,.bl _,_=>by simp[aR]
 |_,.int _,_=>by simp[aR]
 |_,.str _,_=>by simp[aR]
 |0,.tup _,f=>by simp[bn]at f
 |0,.lst _,f=>by simp[bn]at f
 |n+1,.tup xs,f=>by rw[aR];exact eV (n:=n) f
 |n+1,.lst xs,f=>by rw[aR];exact eV (n:=n) f
 |_,.ty _,f=>by simp[bn]at f
 |_,.ref _,f=>by simp[bn]at f
 |_,.mt _,f=>by simp[bn]at f
 |_,.ml _,f=>by simp[bn]at f
 |_,.fd _ _,f=>by simp[bn]at f
theorem eV:∀{n:Nat}{ds:List D},bv n ds=true->fJ ds ds=true
 |_,[],_=>by simp[fJ]
 |n,x::xs,f=>by
  rw[bv,Q9]at f;rw[fJ,CK f.1,eV f.2];rfl
end
theorem dF:∀{xs ys:List D},xs.length≠ys.length->fJ xs ys=eC
 |[],[],h=>absurd rfl h
 |[],_::_,_=>by simp[fJ]
 |_::_,[],_=>by simp[fJ]
 |x::xs,y::ys,h=>by rw[fJ,dF (by simpa using h),Sy]
theorem iC:∀(xs ys:List D)(f:Nat->Bool),xs.length=ys.length->(∀j (h1:j<xs.length)(h2:j<ys.length),f j=aR xs[j] ys[j])->(QG xs.length).all f=fJ xs ys
 |[],[],f,_,_=>by simp[fJ]
 |[],_::_,_,h,_=>by simp at h
 |_::_,[],_,h,_=>by simp at h
 |x::xs,y::ys,f,h,hf=>by
  have m:=hf 0 (by simp) (by simp)
  have o:=iC xs ys (λj=>f (j+1)) (by simpa using h) (λj h1 h2=>hf (j+1) (by simpa using h1) (by simpa using h2))
  rw[Qe,VA,List.all_cons,List.all_map,fJ,<- o];simp only[VB]at m;rw[m];rfl
theorem dM:∀{n:Nat}{xs:List D},bv n xs=true->∀(j:Nat)(m:j<xs.length),bn n xs[j]=true
 |_,[],_,j,m=>absurd m (S1 _)
 |n,x::xs,f,j,m=>by
  rw[bv,Q9]at f;cases j with
  |zero=>exact f.1
  |succ j=>exact dM f.2 j (by simpa using m)
def ng:D->Option V
 |.non=>ap .non
 |.bl b=>ap (.bl b)
 |.int i=>ap (.int i)
 |.str x=>ap (.str x)
 |_=>cm
theorem lc{d:D}{v:V}(e:ng d=ap v)(r:Hr h d u):RelV v u/\EZ v=true:=by
 cases d with
 |non=>cases e;exact⟨r,rfl⟩
 |bl b=>cases e;exact⟨r,rfl⟩
 |int b=>cases e;exact⟨r,rfl⟩
 |str b=>cases e;exact⟨r,rfl⟩
 |_=>cases e
theorem sO{d e:D}{v w:V}(j:ng d=ap v)(f:ng e=ap w):rl v w=aR d e:=by
 cases d with
 |non=>cases j;cases e with|non=>cases f;simp[rl,aR]|bl b=>cases f;simp[rl,aR]|int b=>cases f;simp[rl,aR]|str b=>cases f;simp[rl,aR]|_=>cases f
 |bl a=>cases j;cases e with|non=>cases f;simp[rl,aR]|bl b=>cases f;simp[rl,aR]|int b=>cases f;simp[rl,aR]|str b=>cases f;simp[rl,aR]|_=>cases f
 |int a=>cases j;cases e with|non=>cases f;simp[rl,aR]|bl b=>cases f;simp[rl,aR]|int b=>cases f;simp[rl,aR];rfl|str b=>cases f;simp[rl,aR]|_=>cases f
 |str a=>cases j;cases e with|non=>cases f;simp[rl,aR]|bl b=>cases f;simp[rl,aR]|int b=>cases f;simp[rl,aR]|str b=>cases f;simp[rl,aR];rfl|_=>cases f
 |_=>cases j
end
theorem J8:∀(n:Nat){A:kc}{s:el}{d e:D}{u w:ay},Hr s.heap d u->Hr s.heap e w->bn n d=true->bn n e=true->A.units+n<rc->TC A s u w (aR d e):=by
 intro n
 induction n with
 |zero=>
  intro A s d e u w m h fd Q hu;have Y:∃v,ng d=ap v:=by cases d<;>first|exact⟨_,rfl⟩|(simp[bn]at fd)
  have W:∃v,ng e=ap v:=by cases e<;>first|exact⟨_,rfl⟩|(simp[bn]at Q)
  obtain⟨v1,N⟩:=Y;obtain⟨v2,R⟩:=W;obtain⟨a1,b1⟩:=lc N m;obtain⟨a2,b2⟩:=lc R h;rw[<- sO N R];exact EJ a1 a2 b1 b2
 |succ n ih=>
  intro A s d e u w m h fd Q hu;have f:A.units<cLine:=by lia
  have T:A.in1.units+n<cLine:=by show A.units+1+n<rc;lia
  by_cases Y:∃v,ng d=ap v
  .obtain⟨v1,N⟩:=Y
   obtain⟨a1,b1⟩:=lc N m
   by_cases W:∃v,ng e=ap v
   .obtain⟨v2,R⟩:=W
    obtain⟨a2,b2⟩:=lc R h;rw[<- sO N R];exact EJ a1 a2 b1 b2
   .cases e with
    |tup ys=>
     obtain⟨p,Ys,rfl,t,_⟩:=h;cases d with
     |non=>cases m;simp only[aR];exact .none_tuple t f
     |bl b=>cases m;simp only[aR];exact .bool_tuple b t f
     |int b=>obtain⟨q,rfl⟩:=m;simp only[aR];exact .int_tuple b q t f
     |str b=>obtain⟨q,rfl⟩:=m;simp only[aR];exact .str_tuple b q t f
     |_=>cases N
    |lst ys=>
     obtain⟨p,Ys,rfl,t,_⟩:=h;cases d with
     |non=>cases m;simp only[aR];exact .none_list t f
     |bl b=>cases m;simp only[aR];exact .bool_list b t f
     |int b=>obtain⟨q,rfl⟩:=m;simp only[aR];exact .int_list b q t f
     |str b=>obtain⟨q,rfl⟩:=m;simp only[aR];exact .str_list b q t f
     |_=>cases N
    |ty _=>exact(show False from h).elim
    |ref _=>exact(show False from h).elim
    |mt _=>exact(show False from h).elim
    |ml _=>exact(show False from h).elim
    |fd _ _=>exact(show False from h).elim
    |_=>exact absurd ⟨_,rfl⟩ W
  .cases d with
   |tup xs=>
    obtain⟨p,Ys,rfl,o,O⟩:=m;cases e with
    |non=>cases h;simp only[aR];exact .tuple_none o f
    |bl b=>cases h;simp only[aR];exact .tuple_bool b o f
    |int b=>obtain⟨q,rfl⟩:=h;simp only[aR];exact .tuple_int b q o f
    |str b=>obtain⟨q,rfl⟩:=h;simp only[aR];exact .tuple_str b q o f
    |tup ys=>
     obtain⟨p',its',rfl,G,I⟩:=h;rw[aR]
     by_cases U:p=p'
     .subst U
      have e':Ys=its':=by simpa using congrArg S3 (wf o G)
      subst e';rw[iD O I,eV (n:=n) Q];exact .same _
     .refine .of_refs U ?_
      have l1:=O.length;have l2:=I.length;have J:∀j (E:j<Ys.toArray.size)(F:j<its'.toArray.size),TC A.in1 s Ys.toArray[j] its'.toArray[j] (match xs[j]?,ys[j]? with|some x,ap y=>aR x y|_,_=>eC):=λj E F=>by
       have z:j<xs.length:=by rw[l1];simpa using E
       have C:j<ys.length:=by rw[l2];simpa using F
       rw[PV z,PV C];exact ih (O.get j z<|by simpa using E) (I.get j C<|by simpa using F) (dM fd j z) (dM Q j C) T
      have:=Vl (e:=λj=>match xs[j]?,ys[j]? with|some x,ap y=>aR x y|_,_=>eC) o G f J
      by_cases S:xs.length=ys.length
      .have L:Ys.toArray.size=its'.toArray.size:=by simp;lia
       rw[L]at this;simp only[VN,beq_self_eq_true,T7]at this;have P:its'.toArray.size=xs.length:=by simp;lia
       rw[P,iC xs ys _ S (λj E F=>by rw[PV E,PV F])]at this
       exact this
      .have L:(Ys.toArray.size==its'.toArray.size)=false:=by simp;lia
       rw[L,Sy]at this;rw[dF S];exact this
    |lst ys=>obtain⟨p',its',rfl,G,I⟩:=h;simp only[aR];exact .tuple_list o G f
    |_=>exact(show False from h).elim
   |lst xs=>
    obtain⟨p,Ys,rfl,o,O⟩:=m;cases e with
    |non=>cases h;simp only[aR];exact .list_none o f
    |bl b=>cases h;simp only[aR];exact .list_bool b o f
    |int b=>obtain⟨q,rfl⟩:=h;simp only[aR];exact .list_int b q o f
    |str b=>obtain⟨q,rfl⟩:=h;simp only[aR];exact .list_str b q o f
    |lst ys=>
     obtain⟨p',its',rfl,G,I⟩:=h;rw[aR]
     by_cases U:p=p'
     .subst U
      have e':Ys=its':=by simpa using congrArg S3 (yk o G)
      subst e';rw[iD O I,eV (n:=n) Q];exact .same _
     .refine .of_refs U ?_
      have l1:=O.length;have l2:=I.length
      by_cases S:xs.length=ys.length
      .have J:∀j (E:j<Ys.toArray.size)(F:j<its'.toArray.size),TC A.in1 s Ys.toArray[j] its'.toArray[j] (match xs[j]?,ys[j]? with|some x,ap y=>aR x y|_,_=>eC):=λj E F=>by
        have z:j<xs.length:=by rw[l1];simpa using E
        have C:j<ys.length:=by rw[l2];simpa using F
        rw[PV z,PV C];exact ih (O.get j z<|by simpa using E) (I.get j C<|by simpa using F) (dM fd j z) (dM Q j C) T
       have:=Vu (e:=λj=>match xs[j]?,ys[j]? with|some x,ap y=>aR x y|_,_=>eC) o G (by simp;lia) f J
       have P:Ys.toArray.size=xs.length:=by simp;lia
       rw[P,iC xs ys _ S (λj E F=>by rw[PV E,PV F])]at this
       exact this
      .rw[dF S]
       exact Ux o G (by simp;lia) f
    |tup ys=>obtain⟨p',its',rfl,G,I⟩:=h;simp only[aR];exact .list_tuple o G f
    |_=>exact(show False from h).elim
   |ty _=>exact(show False from m).elim
   |ref _=>exact(show False from m).elim
   |mt _=>exact(show False from m).elim
   |ml _=>exact(show False from m).elim
   |fd _ _=>exact(show False from m).elim
   |_=>exact absurd ⟨_,rfl⟩ Y
theorem kS{xs ys:List D}(o:Hrs s.heap xs Ys)(m:Hrs s.heap ys its')(fd:bv n xs=true)(q:bv n ys=true)(v:A.units+n<rc):
  ∀j (h1:j<Ys.toArray.size)(h2:j<its'.toArray.size),TC A s Ys.toArray[j] its'.toArray[j] (match xs[j]?,ys[j]? with|some x,ap y=>aR x y|_,_=>eC):=λj h1 h2=>by
 have h:j<xs.length:=by rw[o.length];simpa using h1
 have f:j<ys.length:=by rw[m.length];simpa using h2
 rw[PV h,PV f];exact J8 n (o.get j h<|by simpa using h1) (m.get j f<|by simpa using h2) (dM fd j h) (dM q j f) v
theorem m9{xs ys:List D}(m:xs.length=ys.length):(QG xs.length).all (λj=>match xs[j]?,ys[j]? with|some x,ap y=>aR x y|_,_=>eC)=fJ xs ys:=
 iC xs ys _ m (λj f h=>by rw[PV f,PV h])
theorem KH{xs ys:List D}(q:s.heap.IsTuple p Ys.toArray)(v:s.heap.IsTuple p' its'.toArray)(o:Hrs s.heap xs Ys)(m:Hrs s.heap ys its')(fd:bn n (.tup xs)=true)(w:bn n (.tup ys)=true)(C:A.units+n<rc):
  VY A s (.ref p) (.ref p') (aR (.tup xs)<|.tup ys):=by
 cases n with
 |zero=>simp[bn]at fd
 |succ n=>
  have y:=o.length;have z:=m.length;have:=Vl (A:=A) q v (by lia) (kS (n:=n) o m fd w<|by show A.units+1+n<rc;lia)
  rw[aR]
  by_cases j:xs.length=ys.length
  .have f:Ys.toArray.size=its'.toArray.size:=by simp;lia
   rw[f]at this;simp only[VN,beq_self_eq_true,T7]at this;have h:its'.toArray.size=xs.length:=by simp;lia
   rw[h,m9 j]at this;exact this
  .have f:(Ys.toArray.size==its'.toArray.size)=false:=by simp;lia
   rw[f,Sy]at this;rw[dF j];exact this
theorem MD{xs ys:List D}(m:s.heap.IsList p Ys.toArray)(q:s.heap.IsList p' its'.toArray)(o:Hrs s.heap xs Ys)(j:Hrs s.heap ys its')(fd:bn n (.lst xs)=true)(v:bn n (.lst ys)=true)(z:A.units+n<rc):
  VY A s (.ref p) (.ref p') (aR (.lst xs)<|.lst ys):=by
 cases n with
 |zero=>simp[bn]at fd
 |succ n=>
  have w:=o.length;have y:=j.length;rw[aR]
  by_cases h:xs.length=ys.length
  .have:=Vu (A:=A) m q (by simp;lia) (by lia) (kS (n:=n) o j fd v<|by show A.units+1+n<rc;lia)
   have f:Ys.toArray.size=xs.length:=by simp;lia
   rw[f,m9 h]at this;exact this
  .rw[dF h]
   exact Ux m q (by simp;lia) (by lia)
theorem Ea{xs ys:List D}(q:s.heap.IsTuple p Ys.toArray)(v:s.heap.IsTuple p' its'.toArray)(o:Hrs s.heap xs Ys)(m:Hrs s.heap ys its')(fd:bn n (.tup xs)=true)(w:bn n (.tup ys)=true)(C:A.units+n<rc):
  Vk A s (.ref p) (.ref p') (!aR (.tup xs) (.tup ys)):=by
 cases n with
 |zero=>simp[bn]at fd
 |succ n=>
  have y:=o.length;have z:=m.length;have:=SeqAt.RcNeAt.tuples (A:=A) q v (by lia) (kS (n:=n) o m fd w<|by show A.units+1+n<rc;lia)
  rw[aR]
  by_cases j:xs.length=ys.length
  .have f:Ys.toArray.size=its'.toArray.size:=by simp;lia
   rw[f]at this;simp only[VN,beq_self_eq_true,T7]at this;have h:its'.toArray.size=xs.length:=by simp;lia
   rw[h,m9 j]at this;exact this
  .have f:(Ys.toArray.size==its'.toArray.size)=false:=by simp;lia
   rw[f,Sy]at this;rw[dF j];exact this
theorem Eh{xs ys:List D}(m:s.heap.IsList p Ys.toArray)(q:s.heap.IsList p' its'.toArray)(o:Hrs s.heap xs Ys)(j:Hrs s.heap ys its')(fd:bn n (.lst xs)=true)(v:bn n (.lst ys)=true)(z:A.units+n<rc):
  Vk A s (.ref p) (.ref p') (!aR (.lst xs) (.lst ys)):=by
 cases n with
 |zero=>simp[bn]at fd
 |succ n=>
  have w:=o.length;have y:=j.length;rw[aR]
  by_cases h:xs.length=ys.length
  .have:=SeqAt.RcNeAt.lists (A:=A) m q (by simp;lia) (by lia) (kS (n:=n) o j fd v<|by show A.units+1+n<rc;lia)
   have f:Ys.toArray.size=xs.length:=by simp;lia
   rw[f,m9 h]at this;exact this
  .rw[dF h]
   exact SeqAt.RcNeAt.lists_lengths m q (by simp;lia) (by lia)
theorem OV{d e:D}{w:ay}(C:Hr s.heap d u)(h:Hr s.heap e w)(fd:bn n d=true)(I:bn n e=true)(G:A.units+n<rc):VY A s u w (aR d e):=by
 have j:A.units<cLine:=by lia
 cases d with
 |non=>
  cases C;cases e with
  |non=>
   cases h;simpa [aR,QE] using SeqAt.RcAt.none_none
  |bl y=>
   cases h;simpa [aR] using SeqAt.RcAt.none_bool y
  |int y=>
   obtain⟨f,rfl⟩:=h;simpa [aR] using SeqAt.RcAt.none_int y f
  |str y=>
   obtain⟨f,rfl⟩:=h;simpa [aR] using SeqAt.RcAt.none_str y f
  |tup y=>
   obtain⟨z,m,rfl,ty,v⟩:=h;simpa [aR] using SeqAt.RcAt.none_tuple ty j
  |lst y=>
   obtain⟨z,m,rfl,ty,v⟩:=h;simpa [aR] using SeqAt.RcAt.none_list ty j
  |_=>exact(show False from h).elim
 |bl x=>
  cases C;cases e with
  |non=>
   cases h;simpa [aR] using SeqAt.RcAt.bool_none x
  |bl y=>
   cases h;simpa [aR,QE] using SeqAt.RcAt.bool_bool x y
  |int y=>
   obtain⟨f,rfl⟩:=h;simpa [aR,QE] using SeqAt.RcAt.bool_int x y f
  |str y=>
   obtain⟨f,rfl⟩:=h;simpa [aR] using SeqAt.RcAt.bool_str x y f
  |tup y=>
   obtain⟨z,m,rfl,ty,v⟩:=h;simpa [aR] using SeqAt.RcAt.bool_tuple x ty j
  |lst y=>
   obtain⟨z,m,rfl,ty,v⟩:=h;simpa [aR] using SeqAt.RcAt.bool_list x ty j
  |_=>exact(show False from h).elim
 |int x=>
  obtain⟨o,rfl⟩:=C;cases e with
  |non=>
   cases h;simpa [aR] using SeqAt.RcAt.int_none x o
  |bl y=>
   cases h;simpa [aR,QE] using SeqAt.RcAt.int_bool x o y
  |int y=>
   obtain⟨f,rfl⟩:=h;simpa [aR,QE] using SeqAt.RcAt.int_int x o y f
  |str y=>
   obtain⟨f,rfl⟩:=h;simpa [aR] using SeqAt.RcAt.int_str x o y f
  |tup y=>
   obtain⟨z,m,rfl,ty,v⟩:=h;simpa [aR] using SeqAt.RcAt.int_tuple x o ty j
  |lst y=>
   obtain⟨z,m,rfl,ty,v⟩:=h;simpa [aR] using SeqAt.RcAt.int_list x o ty j
  |_=>exact(show False from h).elim
 |str x=>
  obtain⟨o,rfl⟩:=C;cases e with
  |non=>
   cases h;simpa [aR] using SeqAt.RcAt.str_none x o
  |bl y=>
   cases h;simpa [aR] using SeqAt.RcAt.str_bool x o y
  |int y=>
   obtain⟨f,rfl⟩:=h;simpa [aR] using SeqAt.RcAt.str_int x o y f
  |str y=>
   obtain⟨f,rfl⟩:=h;simpa [aR,QE] using SeqAt.RcAt.str_str x o y f
  |tup y=>
   obtain⟨z,m,rfl,ty,v⟩:=h;simpa [aR] using SeqAt.RcAt.str_tuple x o ty j
  |lst y=>
   obtain⟨z,m,rfl,ty,v⟩:=h;simpa [aR] using SeqAt.RcAt.str_list x o ty j
  |_=>exact(show False from h).elim
 |tup x=>
  obtain⟨J,E,rfl,q,F⟩:=C;cases e with
  |non=>
   cases h;simpa [aR] using SeqAt.RcAt.tuple_none q j
  |bl y=>
   cases h;simpa [aR] using SeqAt.RcAt.tuple_bool y q j
  |int y=>
   obtain⟨f,rfl⟩:=h;simpa [aR] using SeqAt.RcAt.tuple_int y f q j
  |str y=>
   obtain⟨f,rfl⟩:=h;simpa [aR] using SeqAt.RcAt.tuple_str y f q j
  |tup y=>
   obtain⟨z,m,rfl,ty,v⟩:=h;exact KH q ty F v fd I G
  |lst y=>
   obtain⟨z,m,rfl,ty,v⟩:=h;simpa [aR] using SeqAt.RcAt.tuple_list q ty j
  |_=>exact(show False from h).elim
 |lst x=>
  obtain⟨J,E,rfl,q,F⟩:=C;cases e with
  |non=>
   cases h;simpa [aR] using SeqAt.RcAt.list_none q j
  |bl y=>
   cases h;simpa [aR] using SeqAt.RcAt.list_bool y q j
  |int y=>
   obtain⟨f,rfl⟩:=h;simpa [aR] using SeqAt.RcAt.list_int y f q j
  |str y=>
   obtain⟨f,rfl⟩:=h;simpa [aR] using SeqAt.RcAt.list_str y f q j
  |tup y=>
   obtain⟨z,m,rfl,ty,v⟩:=h;simpa [aR] using SeqAt.RcAt.list_tuple q ty j
  |lst y=>
   obtain⟨z,m,rfl,ty,v⟩:=h;exact MD q ty F v fd I G
  |_=>exact(show False from h).elim
 |_=>exact(show False from C).elim
theorem Fy{d e:D}{w:ay}(C:Hr s.heap d u)(h:Hr s.heap e w)(fd:bn n d=true)(I:bn n e=true)(G:A.units+n<rc):Vk A s u w (!aR d e):=by
 have j:A.units<cLine:=by lia
 cases d with
 |non=>
  cases C;cases e with
  |non=>
   cases h;simpa [aR,QE] using SeqAt.RcNeAt.none_none
  |bl y=>
   cases h;simpa [aR] using SeqAt.RcNeAt.none_bool y
  |int y=>
   obtain⟨f,rfl⟩:=h;simpa [aR] using SeqAt.RcNeAt.none_int y f
  |str y=>
   obtain⟨f,rfl⟩:=h;simpa [aR] using SeqAt.RcNeAt.none_str y f
  |tup y=>
   obtain⟨z,m,rfl,ty,v⟩:=h;simpa [aR] using SeqAt.RcNeAt.none_tuple ty j
  |lst y=>
   obtain⟨z,m,rfl,ty,v⟩:=h;simpa [aR] using SeqAt.RcNeAt.none_list ty j
  |_=>exact(show False from h).elim
 |bl x=>
  cases C;cases e with
  |non=>
   cases h;simpa [aR] using SeqAt.RcNeAt.bool_none x
  |bl y=>
   cases h;simpa [aR,QE] using SeqAt.RcNeAt.bool_bool x y
  |int y=>
   obtain⟨f,rfl⟩:=h;simpa [aR,QE] using SeqAt.RcNeAt.bool_int x y f
  |str y=>
   obtain⟨f,rfl⟩:=h;simpa [aR] using SeqAt.RcNeAt.bool_str x y f
  |tup y=>
   obtain⟨z,m,rfl,ty,v⟩:=h;simpa [aR] using SeqAt.RcNeAt.bool_tuple x ty j
  |lst y=>
   obtain⟨z,m,rfl,ty,v⟩:=h;simpa [aR] using SeqAt.RcNeAt.bool_list x ty j
  |_=>exact(show False from h).elim
 |int x=>
  obtain⟨o,rfl⟩:=C;cases e with
  |non=>
   cases h;simpa [aR] using SeqAt.RcNeAt.int_none x o
  |bl y=>
   cases h;simpa [aR,QE] using SeqAt.RcNeAt.int_bool x o y
  |int y=>
   obtain⟨f,rfl⟩:=h;simpa [aR,QE] using SeqAt.RcNeAt.int_int x o y f
  |str y=>
   obtain⟨f,rfl⟩:=h;simpa [aR] using SeqAt.RcNeAt.int_str x o y f
  |tup y=>
   obtain⟨z,m,rfl,ty,v⟩:=h;simpa [aR] using SeqAt.RcNeAt.int_tuple x o ty j
  |lst y=>
   obtain⟨z,m,rfl,ty,v⟩:=h;simpa [aR] using SeqAt.RcNeAt.int_list x o ty j
  |_=>exact(show False from h).elim
 |str x=>
  obtain⟨o,rfl⟩:=C;cases e with
  |non=>
   cases h;simpa [aR] using SeqAt.RcNeAt.str_none x o
  |bl y=>
   cases h;simpa [aR] using SeqAt.RcNeAt.str_bool x o y
  |int y=>
   obtain⟨f,rfl⟩:=h;simpa [aR] using SeqAt.RcNeAt.str_int x o y f
  |str y=>
   obtain⟨f,rfl⟩:=h;simpa [aR,QE] using SeqAt.RcNeAt.str_str x o y f
  |tup y=>
   obtain⟨z,m,rfl,ty,v⟩:=h;simpa [aR] using SeqAt.RcNeAt.str_tuple x o ty j
  |lst y=>
   obtain⟨z,m,rfl,ty,v⟩:=h;simpa [aR] using SeqAt.RcNeAt.str_list x o ty j
  |_=>exact(show False from h).elim
 |tup x=>
  obtain⟨J,E,rfl,q,F⟩:=C;cases e with
  |non=>
   cases h;simpa [aR] using SeqAt.RcNeAt.tuple_none q j
  |bl y=>
   cases h;simpa [aR] using SeqAt.RcNeAt.tuple_bool y q j
  |int y=>
   obtain⟨f,rfl⟩:=h;simpa [aR] using SeqAt.RcNeAt.tuple_int y f q j
  |str y=>
   obtain⟨f,rfl⟩:=h;simpa [aR] using SeqAt.RcNeAt.tuple_str y f q j
  |tup y=>
   obtain⟨z,m,rfl,ty,v⟩:=h;exact Ea q ty F v fd I G
  |lst y=>
   obtain⟨z,m,rfl,ty,v⟩:=h;simpa [aR] using SeqAt.RcNeAt.tuple_list q ty j
  |_=>exact(show False from h).elim
 |lst x=>
  obtain⟨J,E,rfl,q,F⟩:=C;cases e with
  |non=>
   cases h;simpa [aR] using SeqAt.RcNeAt.list_none q j
  |bl y=>
   cases h;simpa [aR] using SeqAt.RcNeAt.list_bool y q j
  |int y=>
   obtain⟨f,rfl⟩:=h;simpa [aR] using SeqAt.RcNeAt.list_int y f q j
  |str y=>
   obtain⟨f,rfl⟩:=h;simpa [aR] using SeqAt.RcNeAt.list_str y f q j
  |tup y=>
   obtain⟨z,m,rfl,ty,v⟩:=h;simpa [aR] using SeqAt.RcNeAt.list_tuple q ty j
  |lst y=>
   obtain⟨z,m,rfl,ty,v⟩:=h;exact Eh q ty F v fd I G
  |_=>exact(show False from h).elim
 |_=>exact(show False from C).elim
section
variable{Ym:YB}
mutual
theorem BE(I:Inv X Ym Z H s):∀{n:Nat}{d:D}{v:V}{u:ay},bn n d=true->Rp X.K H d v->RelV v u->Hr s.heap d u
 |_,.non,v,u,_,r,q=>by cases r;exact q
 |_,.bl _,v,u,_,r,q=>by cases r;exact q
 |_,.int _,v,u,_,r,q=>by cases r;exact q
 |_,.str _,v,u,_,r,q=>by cases r;exact q
 |n+1,.tup xs,v,u,f,r,q=>by
  obtain⟨p,m,rfl,t,r⟩:=r;cases q;obtain⟨Ys,h,j,_⟩:=I.tuple t.sq;exact⟨p,Ys,rfl,j,fK I (n:=n) f r h⟩
 |n+1,.lst xs,v,u,f,r,q=>by
  obtain⟨p,m,rfl,t,r⟩:=r;cases q;obtain⟨Ys,h,j,_⟩:=I.list t.sq;exact⟨p,Ys,rfl,j.isList,fK I (n:=n) f r h⟩
 |0,.tup _,_,_,f,_,_=>by simp[bn]at f
 |0,.lst _,_,_,f,_,_=>by simp[bn]at f
 |_,.ty _,_,_,f,_,_=>by simp[bn]at f
 |_,.ref _,_,_,f,_,_=>by simp[bn]at f
 |_,.mt _,_,_,f,_,_=>by simp[bn]at f
 |_,.ml _,_,_,f,_,_=>by simp[bn]at f
 |_,.fd _ _,_,_,f,_,_=>by simp[bn]at f
theorem fK(I:Inv X Ym Z H s):∀{n:Nat}{ds:List D}{vs:List V}{us:Yw},bv n ds=true->Rps X.K H ds vs->Vals vs us->Hrs s.heap ds us
 |_,[],vs,us,_,r,q=>by cases r;cases q;rfl
 |n,d::ds,vs,us,f,r,q=>by
  obtain⟨v,h,rfl,a,b⟩:=r;rw[bv,Q9]at f;cases q with
  |cons q1 q2=>exact⟨_,_,rfl,BE I f.1 a q1,fK I f.2 b q2⟩
end
def dv(M:Mem):D->D
 |.ref a=>match M a with
  |some (.lst xs)=>.lst xs
  |_=>.ref a
 |d=>d
theorem oH(I:Inv X Ym Z H s){d:D}{v:V}(w:RepH X.K H M)(f:bn n (dv M d)=true)(r:Rp X.K H d v)(q:RelV v u):Hr s.heap (dv M d) u:=by
 cases d with
 |ref a=>
  cases r;simp only[dv]at f ⊢
  split at f
  .rename_i z e
   obtain⟨y,h,m⟩:=w _ _ e;obtain⟨Ys,j,o,_⟩:=I.list (SqL.of h);cases q;cases n with
   |zero=>simp[bn]at f
   |succ n=>exact⟨a,Ys,rfl,o.isList,fK I (n:=n) f m j⟩
  .simp[bn]at f
 |_=>exact BE I f r q
def cB:fg:=λx y M Q=>bn 60 (dv M x)=true/\bn 60 (dv M y)=true/\Q (.bl<|aR (dv M x)<|dv M y) M
def jW:fg:=λx y M Q=>bn 60 (dv M x)=true/\bn 60 (dv M y)=true/\Q (.bl<|!aR (dv M x) (dv M y)) M
theorem CO(G:X.A.units+64<rc):cF X (mu .Eq) (liftR2 X cB):=by
 intro Ym s Z H x y v u Q I q C h;obtain⟨E,F,M,QQ,f,o,w,⟨j,m,h⟩,z⟩:=h;exact OV (oH I f j o q) (oH I f m w C) j m (by lia) _ _ _ _ ⟨.bl _,H,I,rfl,z _ M h _ H f Frm.refl rfl⟩
theorem N0(G:X.A.units+64<rc):cF X (mu .NotEq) (liftR2 X jW):=by
 intro Ym s Z H x y v u Q I q C h;obtain⟨E,F,M,QQ,f,o,w,⟨j,m,h⟩,z⟩:=h;exact Fy (oH I f j o q) (oH I f m w C) j m (by lia) _ _ _ _ ⟨.bl _,H,I,rfl,z _ M h _ H f Frm.refl rfl⟩
open Classical in
noncomputable def uq(h:hI)(x:D)(u:ay):Bool:=if q:∃d,Hr h d u then aR q.choose x else eC
theorem DQ{h:hI}{x d:D}(r:Hr h d u):uq h x u=aR d x:=by
 have q:∃d,Hr h d u:=⟨d,r⟩;unfold uq;rw[dif_pos q,EQ q.choose_spec r]
theorem i_{h:hI}{x:D}:∀{ds:List D}{us:Yw},Hrs h ds us->us.any (uq h x)=ds.any λd=>aR d x
 |[],_,r=>by cases r;rfl
 |d::ds,_,r=>by
  obtain⟨v,f,rfl,a,b⟩:=r;rw[RE,RE,DQ a,i_ b]
theorem jb{A:kc}{n:Nat}{x:D}{w:ay}(o:Hr s.heap x w)(m:bn n x=true)(j:A.units+n<rc):∀{ds:List D}{us:Yw},Hrs s.heap ds us->bv n ds=true->∀u∈us,TC A s u w (uq s.heap x u)
 |[],_,r,_,u,j=>by cases r;cases j
 |d::ds,_,r,f,u,h=>by
  obtain⟨v,q,rfl,a,b⟩:=r;rw[bv,Q9]at f;rcases Ql.mp h with rfl|h
  .rw[DQ a];exact J8 n a o f.1 m j
  .exact jb o m j b f.2 u h
def qM(M:Mem)(x y:D):Option Bool:=match aO M y with
 |some xs=>if bn 60 (dv M x)=true/\bv 60 xs=true then ap (xs.any λd=>aR d (dv M x)) else cm
 |none=>match y with
  |.ref a=>match pU M a x with
   |some o=>ap o.isSome
   |none=>cm
  |_=>cm
def Ck:fg:=λx y M Q=>match qM M x y with
 |some k=>Q (.bl k) M
 |none=>False
def uW:fg:=λx y M Q=>match qM M x y with
 |some k=>Q (.bl<|!k) M
 |none=>False
theorem BF(W:X.A.units+64<rc):cF X (mu .In) (liftR2 X Ck):=by
 intro Ym s Z H x y v u Q I C L h;obtain⟨j,T,M,QQ,q,J,G,h,R⟩:=h;unfold Ck at h
 split at h
 .rename_i k e
  have fin:=R _ M h _ H q Frm.refl rfl;unfold qM at e
  split at e
  .rename_i U O
   split at e
   .rename_i f
    cases e;obtain⟨p,S,rfl,hq,r⟩:=jd q G O;cases L;have F:=oH I q f.1 J C;rcases hq with hq|hq
    .obtain⟨Ys,z,pl,_⟩:=I.list hq
     have m:=fK I f.2 r z;refine SeqAt.in_listAt (uq s.heap<|dv M j) pl.isList (λw E=>jb F f.1 (by show X.A.units+1+60<rc;lia) m f.2 w (by simpa using E)) ⟨.bl _,H,I,rfl,?_⟩
     rw[show Ys.toArray.any (uq s.heap<|dv M j)=Ys.any (uq s.heap<|dv M j) by simp,i_ m]
     exact fin
    .obtain⟨Ys,z,pl,_⟩:=I.tuple hq
     have m:=fK I f.2 r z;refine SeqAt.in_tupleAt (uq s.heap<|dv M j) pl (λw E=>jb F f.1 (by show X.A.units+1+60<rc;lia) m f.2 w (by simpa using E)) ⟨.bl _,H,I,rfl,?_⟩
     rw[show Ys.toArray.any (uq s.heap<|dv M j)=Ys.any (uq s.heap<|dv M j) by simp,i_ m]
     exact fin
   .cases e
  .split at e
   .split at e
    .rename_i o N
     cases e;cases G;cases L;rcases mh q J N with⟨rfl,g⟩|⟨d,w,rfl,g,_⟩
     .exact Pc (by lia) I g C λP I'=>⟨.bl _,H,I',rfl,fin⟩
     .exact Pc (by lia) I g C λP I'=>⟨.bl _,H,I',rfl,fin⟩
    .cases e
   .cases e
 .exact h.elim
theorem Bo(W:X.A.units+64<rc):cF X (mu .NotIn) (liftR2 X uW):=by
 intro Ym s Z H x y v u Q I C L h;obtain⟨j,T,M,QQ,q,J,G,h,R⟩:=h;unfold uW at h
 split at h
 .rename_i k e
  have fin:=R _ M h _ H q Frm.refl rfl;unfold qM at e
  split at e
  .rename_i U O
   split at e
   .rename_i f
    cases e;obtain⟨p,S,rfl,hq,r⟩:=jd q G O;cases L;have F:=oH I q f.1 J C;rcases hq with hq|hq
    .obtain⟨Ys,z,pl,_⟩:=I.list hq
     have m:=fK I f.2 r z;refine SeqAt.notIn_listAt (uq s.heap<|dv M j) pl.isList (λw E=>jb F f.1 (by show X.A.units+1+60<rc;lia) m f.2 w (by simpa using E)) ⟨.bl _,H,I,rfl,?_⟩
     rw[show Ys.toArray.any (uq s.heap<|dv M j)=Ys.any (uq s.heap<|dv M j) by simp,i_ m]
     exact fin
    .obtain⟨Ys,z,pl,_⟩:=I.tuple hq
     have m:=fK I f.2 r z;refine SeqAt.notIn_tupleAt (uq s.heap<|dv M j) pl (λw E=>jb F f.1 (by show X.A.units+1+60<rc;lia) m f.2 w (by simpa using E)) ⟨.bl _,H,I,rfl,?_⟩
     rw[show Ys.toArray.any (uq s.heap<|dv M j)=Ys.any (uq s.heap<|dv M j) by simp,i_ m]
     exact fin
   .cases e
  .split at e
   .split at e
    .rename_i o N
     cases e;cases G;cases L;rcases mh q J N with⟨rfl,g⟩|⟨d,w,rfl,g,_⟩
     .exact wj (by lia) I g C λP I'=>⟨.bl _,H,I',rfl,fin⟩
     .exact wj (by lia) I g C λP I'=>⟨.bl _,H,I',rfl,fin⟩
    .cases e
   .cases e
 .exact h.elim
end
structure DEnds where
 nx:Dl->Mem->Prop
 rt:DK
 bk:Dl->Mem->Prop:=λ_ _=>False
 ct:Dl->Mem->Prop:=λ_ _=>False
abbrev av:=DEnds->Dl->Mem->Prop
def UpN(X:Cx)(B:Bd)(M:Mem)(H:Hp)(QQ:Dl->Mem->Prop)(Q:L2.St->Hp->Prop):Prop:=∀U M',QQ U M'->∀Z H',Frm M H M' H'->SR X B U M' Z H'->Q Z H'
theorem UpN.go{M1:Mem}{H1:Hp}{QQ:Dl->Mem->Prop}{Q:L2.St->Hp->Prop}(u:UpN X B M H QQ Q)(i:Frm M H M1 H1):UpN X B M1 H1 QQ Q:=λU M q Z H' a b=>u U M q Z H' (i.trans a) b
structure UpD(X:Cx)(B:Bd)(M:Mem)(H:Hp)(DD:DEnds)(D:Ends):Prop where
 nx:UpN X B M H DD.nx D.nx
 rt:Up X.K M H DD.rt D.rt
 bk:UpN X B M H DD.bk D.bk
 ct:UpN X B M H DD.ct D.ct
theorem UpD.go{M1:Mem}{H1:Hp}{DD:DEnds}{D:Ends}(u:UpD X B M H DD D)(i:Frm M H M1 H1):UpD X B M1 H1 DD D:=⟨u.nx.go i,u.rt.go i,u.bk.go i,u.ct.go i⟩
inductive liftS(X:Cx)(B:Bd)(T:av)(D:Ends)(Z:St)(H:Hp):Prop
 |mk (U:Dl) (M:Mem) (DD:DEnds) (s:SR X B U M Z H) (h:T DD U M) (u:UpD X B M H DD D):liftS X B T D Z H
def DS(X:Cx)(B:Bd)(st:rz)(T:av):Prop:=PS X st (liftS X B T)
def yd(X:Cx)(B:Bd)(st:Yz)(T:av):Prop:=yi X st (liftS X B T)
section
variable{st:rz}{rest:Yz}{t u:av}
def aH:av:=λD U M=>D.nx U M
def ai(t u:av):av:=λD U M=>t { D with nx:=u D } U M
theorem HS:yd X B [] aH:=mM HG λD Z H ⟨U,M,DD,s,h,f⟩=>f.nx U M h Z H Frm.refl s
theorem eZ(v:DS X B st t)(w:yd X B rest u):yd X B (st::rest) (ai t u):=by
 refine mM (ED v w) ?_
 rintro D Z H ⟨U,M,DD,s,h,f⟩
 exact⟨U,M,{ DD with nx:=u DD },s,h,⟨λj M' q m H' i o=>⟨j,M',DD,o,q,f.go i⟩,f.rt,f.bk,f.ct⟩⟩
theorem gO(f:DS X B st t):yd X B [st] t:=Gm f
def bo(te:bu):av:=λD U M=>te U M λ_ M1=>D.nx U M1
theorem HA(m:DE X B e te)(o:vr e cm pos.line X.env=pure false:=by rfl):DS X B (.Expr e pos) (bo te):=by
 refine bL (Hx m o) ?_
 rintro D Z H ⟨U,M,DD,s,h,f⟩
 exact⟨U,M,_,s,h,λd M' q v H' j i r=>f.nx U M' q Z H' i (s.go j i)⟩
def aF(te:bu):av:=λD U M=>te U M D.rt
theorem KD(j:DE X B e te):DS X B (.Return (ap e) pos) (aF te):=by
 refine bL (Mr j) ?_
 rintro D Z H ⟨U,M,DD,s,h,f⟩
 exact⟨U,M,_,s,h,f.rt⟩
def aN(c:fG)(t u:av):av:=λD U M=>c U M λb M1=>if b=true then t D U M1 else u D U M1
theorem Oh{a b:Yz}{m:fG}(w:DT X B c m)(o:yd X B a t)(v:yd X B b u):DS X B (.If c a b pos) (aN m t u):=by
 refine bL (Pz w o v) ?_
 rintro D Z H ⟨U,M,DD,s,h,j⟩
 refine⟨U,M,_,s,h,λc M' q H' f i=>?_⟩;cases c with
 |true=>rw[if_pos rfl]at q ⊢;exact⟨U,M',DD,s.go f i,q,j.go i⟩
 |false=>rw[if_neg Qq]at q ⊢;exact⟨U,M',DD,s.go f i,q,j.go i⟩
abbrev jB:=D->Dl->Mem->(Dl->Mem->Prop)->Prop
abbrev nX:=List D->Dl->Mem->(Dl->Mem->Prop)->Prop
inductive liftG(X:Cx)(B:Bd)(g:jB)(v:V)(Z:St)(H:Hp)(Q:St->Hp->Prop):Prop
 |mk (d:L3.D) (U:Dl) (M:Mem) (QQ:Dl->Mem->Prop) (s:SR X B U M Z H) (r:Rp X.K H d v) (h:g d U M QQ) (u:UpN X B M H QQ Q):liftG X B g v Z H Q
inductive liftGs(X:Cx)(B:Bd)(g:nX)(vs:List V)(Z:St)(H:Hp)(Q:St->Hp->Prop):Prop
 |mk (ds:List L3.D) (U:Dl) (M:Mem) (QQ:Dl->Mem->Prop) (s:SR X B U M Z H) (r:Rps X.K H ds vs) (h:g ds U M QQ) (u:UpN X B M H QQ Q):liftGs X B g vs Z H Q
def DG(X:Cx)(B:Bd)(tg:gl)(g:jB):Prop:=PG X tg (liftG X B g)
def Nv(X:Cx)(B:Bd)(tgs:Yy)(g:nX):Prop:=Lp X tgs (liftGs X B g)
theorem lg{t t':TG}(h:PG X tg t)(w:∀v Z H Q,t' v Z H Q->t v Z H Q):PG X tg t':=λf s Z H v u Q I r q=>h f s Z H v u Q I r (w v Z H Q q)
theorem sY{tg:Yy}{t t':Ip}(h:Lp X tg t)(w:∀v Z H Q,t' v Z H Q->t v Z H Q):Lp X tg t':=λf s Z H v u Q I r q=>h f s Z H v u Q I r (w v Z H Q q)
theorem SR.set{U:Dl}{d:D}{v:V}(s:SR X B U M Z H)(r:Rp X.K H d v):SR X B (U.set i<|some d) M (Z.set i<|some v) H:=⟨s.i0,s.rh,s.rs.set r⟩
def ag(i:Nat):jB:=λd U M Q=>Q (U.set i<|some d) M
theorem FM(m:X.N.Nodup)(f:X.N[i]?=ap x)(j:Bz X.env.scope x)(o:X.fn x=true\/X.env.scope.names.lookup x=ap .local:=by first|exact .inl rfl|exact .inr rfl|assumption):DG X B (.Name x pos) (ag i):=by
 refine lg (Fw m f j o) ?_
 rintro v Z H Q ⟨d,U,M,QQ,s,r,h,u⟩
 exact u _ M h _ H Frm.refl (s.set r)
def gr:nX:=λf U M Q=>match f with
 |[]=>Q U M
 |_=>False
def bh(t:jB)(u:nX):nX:=λh U M Q=>match h with
 |d::r=>t d U M λf M'=>u r f M' Q
 |[]=>False
theorem Gc:Nv X B [] gr:=by
 refine sY Hy ?_
 rintro v Z H Q ⟨f,U,M,QQ,s,r,h,u⟩
 cases f with
 |nil=>exact⟨r,u U M h Z H Frm.refl s⟩
 |cons _ _=>exact(show False from h).elim
theorem CQ{t:jB}{u:nX}(E:DG X B e t)(G:Nv X B es u)(F:(ra (e::es) X.env).map (·.2)=Xo e X.env::(ra es X.env).map (·.2):=by rfl):Nv X B (e::es) (bh t u):=by
 refine sY (Dy E G F) ?_
 rintro v Z H Q ⟨j,U,M,QQ,s,r,h,C⟩
 cases j with
 |nil=>exact(show False from h).elim
 |cons d j=>
  obtain⟨v1,z,rfl,m,y⟩:=r;refine⟨v1,z,rfl,d,U,M,_,s,m,h,λf M' q o H' i w=>?_⟩;exact⟨j,f,M',QQ,w,y.mf s.rh i,q,C.go i⟩
def gZ(n:Nat)(t:nX):jB:=λd U M Q=>match d with
 |.tup xs=>xs.length=n/\t xs U M Q
 |_=>False
theorem JK{k:Nat}{t:nX}(q:X.calm=true)(h:Nv X B es t)(o:(ra es X.env).length=n:=by rfl)(hst:(ra es X.env).findIdx? (·.1)=none:=by rfl):DG X B (.Tuple es k pos) (gZ n t):=by
 refine lg (Mx q h o hst) ?_
 rintro v Z H Q ⟨d,U,M,QQ,s,r,h,j⟩
 cases d with
 |tup xs=>
  obtain⟨p,f,rfl,m,r⟩:=r;exact⟨p,f,rfl,m.sq,by rw[<- r.length];exact h.1,xs,U,M,QQ,s,r,h.2,j⟩
 |_=>exact(show False from h).elim
def au(te:bu)(g:jB):av:=λD U M=>te U M λx M1=>g x U M1 D.nx
theorem Ly(m:DE X B e te)(o:DG X B tg g)(w:Xs [tg] e pos.line X.env=pure false:=by rfl)(hw:Xt [tg] e X.env=pure none:=by rfl)(h1:(ra [tg] X.env).map (·.2)=[Xo tg X.env]:=by rfl):DS X B (.Assign [tg] e pos) (au te g):=by
 refine bL (KG m o w hw h1) ?_
 rintro D Z H ⟨U,M,DD,s,h,f⟩
 refine⟨U,M,_,s,h,λd M' q v H' j i r=>?_⟩;exact⟨d,U,M',DD.nx,s.go j i,r,q,f.nx.go i⟩
theorem MY(w:X.N.Nodup)(m:X.N[i]?=ap x)(o:Bz X.env.scope x)(z:DE X B e te)(y:vr e (ap<|.Name x pos') pos.line X.env=pure false:=by rfl)(hf:X.fn x=true\/X.env.scope.names.lookup x=ap .local:=by first|exact .inl rfl|exact .inr rfl|assumption):
  DS X B (.Assign [.Name x pos'] e pos) (au te<|ag i):=by
 refine bL (Ms w m o z y hf) ?_
 rintro D Z H ⟨U,M,DD,s,h,f⟩
 refine⟨U,M,_,s,h,λd M' q v H' j i r=>?_⟩;exact f.nx _ M' q _ H' i ((s.go j i).set r)
def D5(i:Nat)(te:bu)(r:fg):av:=λD U M=>match U[i]? with
 |some (ap x)=>te U M λy M1=>r x y M1 λz M2=>D.nx (U.set i<|some z) M2
 |_=>False
theorem Kr{q:Xe}{r:fg}(R:X.N.Nodup)(P:X.N[i]?=ap x)(Q:Bz X.env.scope x)(W:DE X B e te)(T:ES X q (liftR2 X r))(S:X.fn x=true\/X.env.scope.names.lookup x=ap .local:=by first|exact .inl rfl|exact .inr rfl|assumption):
  DS X B (.AugAssign (.Name x pos') q e pos) (D5 i te r):=by
 refine bL (Ll R P Q W T S) ?_
 rintro D Z H ⟨U,M,DD,s,h,O⟩
 unfold D5 at h
 split at h
 .rename_i o E
  obtain⟨v,L,F⟩:=s.rs.get i o E;refine⟨v,L,U,M,_,s,h,λy M1 C w H1 f i1 G=>?_⟩;refine⟨o,y,M1,_,f,F.mf s.rh i1,G,C,λz M2 I Y H2 j m J=>?_⟩;exact O.nx _ M2 I _ H2 (i1.trans m) ((s.go j<|i1.trans m).set J)
 .exact h.elim
theorem J4{o:Xe}{g:Int->Int->Int}(h:ES X o (ipI g)):ES X o (liftR2 X (jq λi j=>.int (g i j))):=by
 intro m s Z H x y v u Q I z F f;obtain⟨G,J,M,QQ,q,w,C,f,E⟩:=f;unfold jq at f
 split at f
 .cases w;cases C
  exact h m s Z H _ _ v u Q I z F ⟨_,_,rfl,rfl,E _ M f _ H q Frm.refl rfl⟩
 .exact f.elim
abbrev oi:fg:=jq λi j=>.int (i+j)
theorem yH:ES X .Add (liftR2 X oi):=J4 JQ
theorem Fm:ES X .Sub (liftR2 X gu):=J4 My
def my(o i v:D)(M:Mem)(Q:Mem->Prop):Prop:=match o with
 |.ref a=>match M a,i with
  |some (.lst xs),.int k=>match rA xs.length k with
   |some j=>Q (M.upd a<|.lst<|xs.set j v)
   |none=>False
  |some (.dK Yo),y=>match cO y with
   |some k=>Yo.length<sizeLine/\Q (M.upd a<|.dK<|eG Yo k v)
   |none=>False
  |some (.dT Yo),y=>match KY y with
   |some k=>Yo.length<sizeLine/\Q (M.upd a<|.dT<|eG Yo k v)
   |none=>False
  |_,_=>False
 |_=>False
inductive liftSet(X:Cx)(o i v:V)(H:Hp)(Q:Hp->Prop):Prop
 |mk (d1 d2 d3:L3.D) (M:Mem) (QQ:Mem->Prop) (rh:RepH X.K H M) (r1:Rp X.K H d1 o) (r2:Rp X.K H d2 i) (r3:Rp X.K H d3 v) (h:my d1 d2 d3 M QQ) (u:∀M',QQ M'->∀H',RepH X.K H' M'->Frm M H M' H'->Q H'):liftSet X o i v H Q
theorem zG(hu:X.A.units+1<rc):FN X (liftSet X):=by
 intro Ym s Z H o i v ov iv u Q I ro ri rv h;obtain⟨d1,d2,d3,M,QQ,rh,r1,r2,r3,h,up⟩:=h;unfold my at h
 split at h
 .rename_i a
  cases r1;cases ro
  split at h
  .rename_i xs k hM
   cases r2;obtain⟨vs,h1,h2⟩:=rh _ _ hM
   split at h
   .rename_i j ej
    refine CP Ym s Z H (.ref a) _ v _ iv u Q I rfl ri rv ⟨a,vs,k,j,rfl,rfl,h1,by rw[<- h2.length];exact ej,?_⟩
    have i2:Imm H (upd H a<|.lst<|vs.set j v):=Imm.upd (by rw[h1];trivial)
    exact up _ h _ (rh.put (by rw[h1];trivial) ⟨_,upd_same,(h2.set r3 j).mono i2⟩) (Frm.put<|.inr ⟨_,hM⟩)
   .exact h.elim
  .rename_i Yo hM
   obtain⟨ws,h1,h2⟩:=rh _ _ hM
   split at h
   .rename_i k ek
    have ev:=gI r2 ek;subst ev;have i2:Imm H (upd H a<|.dK<|cW ws k v):=Imm.upd (by rw[h1];trivial)
    refine oN hu I (DPut.k h1<|by rw[<- h2.length];exact h.1) ri rv λs' I'=>⟨_,I',?_⟩
    exact up _ h.2 _ (rh.put (by rw[h1];trivial) ⟨_,upd_same,(h2.put k r3).mono i2⟩) (Frm.put<|.inr ⟨_,hM⟩)
   .exact h.elim
  .rename_i Yo hM
   obtain⟨ws,h1,h2⟩:=rh _ _ hM
   split at h
   .rename_i k ek
    obtain⟨b,rfl,hb⟩:=rS r2 ek;have i2:Imm H (upd H a<|.dT<|cW ws k v):=Imm.upd (by rw[h1];trivial)
    refine oN hu I (DPut.t h1 hb<|by rw[<- h2.length];exact h.1) ri rv λs' I'=>⟨_,I',?_⟩
    exact up _ h.2 _ (rh.put (by rw[h1];trivial) ⟨_,upd_same,(h2.put k r3).mono i2⟩) (Frm.put<|.inr ⟨_,hM⟩)
   .exact h.elim
  .exact h.elim
 .exact h.elim
def dq(to ti:bu):jB:=λv U M Q=>to U M λo M1=>ti U M1 λi M2=>my o i v M2 λM3=>Q U M3
theorem Mh{o i:gl}{to ti:bu}(P:X.A.units+1<rc)(N:DE X B o to)(L:DE X B i ti)(O:∀v,Xo (.Subscript o i pos) X.env v=(do
   let ov <- va [v] (g3 o X.env)
   let iv <- va [v,ov] (g3 i X.env)
   W7 pos
   va [v,ov,iv] (XF ov iv v)
   release [v,ov,iv] []):=by intro _;rfl):DG X B (.Subscript o i pos) (dq to ti):=by
 refine lg (Lm N L (zG P) O) ?_
 rintro v Z H Q ⟨d,U,M,QQ,s,r,h,J⟩
 refine⟨U,M,_,s,h,λx M1 C v1 H1 f j E=>?_⟩;refine⟨U,M1,_,s.go f j,C,λy M2 F v2 H2 q m I=>?_⟩;exact⟨x,y,d,M2,_,q,E.mf f m,I,r.mf s.rh (j.trans m),F,λM3 G H3 w z=>J U M3 G Z H3 ((j.trans m).trans z) (s.go w<|(j.trans m).trans z)⟩
end
section
variable{o value:gl}{f:Str}{tpos:Pos}{ta tv:bu}{C:eg}
def bJ(f:Str)(v:D):List (Str×D)->List (Str×D)
 |[]=>[(f,v)]
 |(g,w)::r=>if g=f then (g,v)::r else (g,w)::bJ f v r
theorem Rkv.lookup{fs:List (Str×D)}{j:List (Str×V)}(h:Rkv K H fs j)(f:Str):(fs.lookup f=cm/\j.lookup f=cm)\/∃d v,fs.lookup f=ap d/\j.lookup f=ap v/\Rp K H d v:=by
 induction h with
 |nil=>exact .inl ⟨rfl,rfl⟩
 |@cons p q ps qs r t ih=>
  obtain⟨m,d⟩:=p;obtain⟨y,v⟩:=q;obtain⟨e,r⟩:=r;dsimp only at e r;subst e;rw[Sb,Sb];cases w:f==m with
  |true=>exact .inr ⟨d,v,rfl,rfl,r⟩
  |false=>exact ih
theorem Gn(f:Str)(v:V):∀h:List (Str×V),de f v h=(match h with|[]=>[(f,v)]|(g,w)::r=>if g=f then (g,v)::r else (g,w)::de f v r)
 |[]=>rfl
 |(g,w)::r=>by rw[de]
theorem jp{K:PY}{H:Hp}{f:Str}{d:D}{v:V}(h:Rp K H d v):∀{fs:List (Str×D)}{ws:List (Str×V)},Rkv K H fs ws->Rkv K H (bJ f d fs) (L2.de f v ws)
 |_,_,.nil=>.cons ⟨rfl,h⟩ .nil
 |(k1,d1)::fs,(k2,v1)::ws,.cons r t=>by
  obtain⟨e,r⟩:=r;dsimp only at e r;subst e;rw[Gn];show Rkv K H (if k1=f then (k1,d)::fs else (k1,d1)::bJ f d fs) (if k1=f then (k1,v)::ws else (k1,v1)::L2.de f v ws)
  split
  .exact .cons ⟨rfl,h⟩ t
  .exact .cons ⟨rfl,r⟩ (jp h t)
def b6(C:eg)(ta:bu)(f:Str):bu:=λU M Q=>ta U M λx M1=>match x with
 |.ref a=>match M1 a with
  |some (.ins C' fs)=>C'=C/\match fs.lookup f with
   |some d=>Q d M1
   |none=>False
  |_=>False
 |_=>False
theorem Kb(c:Cls X.K C)(n:NoAttr X.K C f)(N:DE X B e ta)(L:ol e f X.env (g3 e X.env)=g3 e X.env:=by rfl):DE X B (.Attribute e f pos) (b6 C ta f):=by
 refine a_ (LL N L) ?_
 rintro Z H Q ⟨U,M,QQ,s,h,u⟩
 refine⟨U,M,_,s,h,λx M1 j v1 H1 m F G=>?_⟩
 split at j
 .rename_i a
  cases G
  split at j
  .rename_i C' fs y
   obtain⟨rfl,j⟩:=j;obtain⟨E,J,I,w⟩:=m _ _ y
   split at j
   .rename_i d q
    rcases w.lookup f with⟨z,_⟩|⟨d',v,z1,z2,z3⟩
    .rw[q]at z;cases z
    .rw[q]at z1;cases z1
     exact⟨a,_,E,J,v,rfl,I,c,n,z2,u _ M1 j _ H1 m F z3⟩
   .exact j.elim
  .exact j.elim
 .exact j.elim
def cy(C:eg)(ta tv:bu)(f:Str):av:=λD U M=>tv U M λy M1=>ta U M1 λx M2=>match x with
 |.ref a=>match M2 a with
  |some (.ins C' fs)=>C'=C/\fs.length<1000/\D.nx U (M2.upd a<|.ins C<|bJ f y fs)
  |_=>False
 |_=>False
theorem Km(c:Cls X.K C)(n:NoAttr X.K C f)(ha:DE X B o ta)(hv:DE X B value tv)(hs:vr value (ap<|.Attribute o f pos') pos.line X.env=pure false:=by rfl):DS X B (.Assign [.Attribute o f pos'] value pos) (cy C ta tv f):=by
 refine bL (MM ha hv hs) ?_
 rintro D Z H ⟨U,M,DD,s,h,up⟩
 refine⟨U,M,_,s,h,λy M1 h1 v1 H1 rh1 i1 r1=>?_⟩;refine⟨U,M1,_,s.go rh1 i1,h1,λx M2 h2 v2 H2 rh2 i2 r2=>?_⟩
 split at h2
 .rename_i a
  cases r2
  split at h2
  .rename_i C' fs hM
   obtain⟨rfl,hl,h2⟩:=h2;obtain⟨dx,ws,e1,e2⟩:=rh2 _ _ hM;have i3:Frm M2 H2 (M2.upd a<|.ins C'<|bJ f y fs) (upd H2 a<|.ins C' dx<|L2.de f v1 ws):=Frm.put (.inr ⟨_,hM⟩);refine⟨a,C',dx,ws,rfl,e1,c,n,by rw[<- e2.length];exact hl,up.nx _ _ h2 Z _ ((i1.trans i2).trans i3)<|s.go (rh2.put (by rw[e1];trivial) ⟨dx,_,upd_same,?_⟩)<|(i1.trans i2).trans i3⟩
   exact(jp (r1.mf rh1 i2) e2).mono (i3.imm rh2)
  .exact h2.elim
 .exact h2.elim
structure BxW(c:fG)(tb:av)(D:DEnds):Type
structure BxF(g:jB)(tb:av)(D:DEnds)(ok:Mem->Prop):Type
def b_(c:fG)(tb:av)(D:DEnds)(bx:BxW c tb D):Nat->Dl->Mem->Prop
 |0,_,_=>False
 |n+1,U,M=>c U M λb M1=>if b=true then tb { D with nx:=b_ c tb D bx n,ct:=b_ c tb D bx n,bk:=D.nx } U M1 else D.nx U M1
def dD(c:fG)(tb:av):av:=λD U M=>∃n,b_ c tb D ⟨⟩ n U M
theorem DM{v:Yz}{I:fG}(T:X1 (fv X.prog X.w) X.A X.env X.xe)(Y:DT X B c I)(W:yd X B v tb):DS X B (.While c v [] pos) (dD I tb):=by
 refine bL (EF T Y W) ?_
 rintro D Z H ⟨U,M,DD,s,⟨n,h⟩,Q⟩
 refine⟨λm j H'=>∃δ' M',SR X B δ' M' j H'/\Frm M H M' H'/\b_ I tb DD ⟨⟩ m δ' M',⟨n,U,M,s,Frm.refl,h⟩,?_⟩
 rintro m P H1 ⟨F,M1,L,i1,S⟩
 cases m with
 |zero=>exact(show False from S).elim
 |succ m=>
  refine⟨F,M1,_,L,S,λb M2 q H2 G E=>?_⟩;cases b with
  |false=>rw[if_neg Qq]at q ⊢;exact Q.nx _ _ q P H2 (i1.trans E) (L.go G E)
  |true=>
   rw[if_pos rfl]at q ⊢;refine⟨λj H'=>∃δ' M',SR X B δ' M' j H'/\Frm M H M' H'/\b_ I tb DD ⟨⟩ m δ' M',λj H' z=>⟨m,SH _,z⟩,?_⟩;refine⟨F,M2,_,L.go G E,q,⟨?_,(Q.go<|i1.trans E).rt,(Q.go<|i1.trans E).nx,?_⟩⟩
   .exact λy M3 N R H3 J O=>⟨y,M3,O,(i1.trans E).trans J,N⟩
   .exact λy M3 N R H3 J O=>⟨y,M3,O,(i1.trans E).trans J,N⟩
structure DIt where
 items:List D
 src:List (eg×List D)
def DIt.ok(I:DIt)(M:Mem):Prop:=∀p∈I.src,M p.1=ap (.lst p.2)
abbrev Bx:=Dl->Mem->(DIt->Mem->Prop)->Prop
def On(K:PY)(H0:Hp)(it:DIt)(J:It):Prop:=∀(i:Nat)(H:Hp)(M:Mem),Imm H0 H->RepH K H M->it.ok M->
 (∀d,it.items[i]?=ap d->J.go i H/\∀x H',J.yld i H x H'->Frm M H M H'/\RepH K H' M/\Rp K H' d x)/\(it.items.length<=i->J.stop i H)
inductive liftI(X:Cx)(B:Bd)(T:Bx)(Z:St)(H:Hp)(R:It->Hp->Prop):Prop
 |mk (U:Dl) (M:Mem) (RR:DIt->Mem->Prop) (s:SR X B U M Z H) (h:T U M RR) (u:∀it M',RR it M'->∀J H',RepH X.K H' M'->Frm M H M' H'->On X.K H' it J->R J H'):liftI X B T Z H R
def DI(X:Cx)(B:Bd)(tg iter:gl)(T:Bx):Prop:=PI X tg iter (liftI X B T)
theorem lZ{j:gl}{t t':TI}(h:PI X tg j t)(w:∀Z H Q,t' Z H Q->t Z H Q):PI X tg j t':=λm s Z H Q I q=>h m s Z H Q I (w Z H Q q)
def gY(g:jB)(tb:av)(DD:DEnds)(ok:Mem->Prop)(b:BxF g tb DD ok):List D->Dl->Mem->Prop
 |[],U,M=>ok M/\DD.nx U M
 |x::xs,U,M=>ok M/\g x U M λh M2=>tb { DD with nx:=gY g tb DD ok b xs,ct:=gY g tb DD ok b xs,bk:=DD.nx } h M2
def cL(wi:Bx)(g:jB)(tb:av):av:=λD U M=>wi U M λh M1=>gY g tb D h.ok ⟨⟩ h.items U M1
theorem FI{DD:DEnds}{ok:Mem->Prop}{b:BxF g tb DD ok}{xs:List D}{U:Dl}(h:gY g tb DD ok b xs U M):ok M:=by
 cases xs with
 |nil=>exact h.1
 |cons _ _=>exact h.1
theorem L8{j:gl}{E:Yz}{wi:Bx}(hp:X1 (fv X.prog X.w) X.A X.env X.xe)(hc:X.calm=true)(hi:DI X B tg j wi)(hg:DG X B tg g)(hb:yd X B E tb)(hs:∀x,o4 j X.env x=pure x:=by intro _;rfl):DS X B (.For tg j E [] pos) (cL wi g tb):=by
 refine bL (LY hp hc hi hg hb hs) ?_
 rintro D Z H ⟨U,M,DD,s,h,up⟩
 refine⟨U,M,_,s,h,λy M1 h1 J H1 L i1 hJ=>?_⟩;refine⟨λi m v H'=>m=y.items.length-i/\i<=y.items.length/\∃δ' M',SR X B δ' M' v H'/\Frm M1 H1 M' H'/\gY g tb DD y.ok ⟨⟩ (y.items.drop i) δ' M',⟨_,rfl,Rq _,U,M1,s.go L i1,Frm.refl,h1⟩,?_⟩
 rintro i m W H2 ⟨rfl,hi',T,M2,P,S,N⟩
 have hok:=FI N;obtain⟨hgo,G⟩:=hJ i H2 M2 (S.imm L) P.rh hok
 by_cases I:i<y.items.length
 .rw[Sg I]at N
  obtain⟨go,hy⟩:=hgo _ (PV I);refine .inr ⟨go,λv H'=>∃δ' M',SR X B δ' M' v H'/\Frm M1 H1 M' H'/\gY g tb DD y.ok ⟨⟩ (y.items.drop (i+1)) δ' M',λv H' z=>⟨y.items.length-(i+1),by omega,rfl,I,z⟩,λx H3 hx=>?_⟩
  obtain⟨i3,Q,rx⟩:=hy x H3 hx;refine⟨_,T,M2,_,P.go Q i3,rx,N.2,λδ4 M4 h4 σ4 H4 i4 s4=>?_⟩;have q:=(S.trans i3).trans i4;refine⟨δ4,M4,_,s4,h4,⟨?_,(up.go<|i1.trans q).rt,(up.go<|i1.trans q).nx,?_⟩⟩
  .exact λF M5 O R H5 i5 Y=>⟨F,M5,Y,q.trans i5,O⟩
  .exact λF M5 O R H5 i5 Y=>⟨F,M5,Y,q.trans i5,O⟩
 .rw[TH (by omega)]at N
  exact .inl ⟨G (by omega),up.nx _ _ N.2 W H2 (i1.trans S) P⟩
end
end L3
namespace L2
open PySem PySem.Spec PyProof.Rows
section
variable {X:Cx}{B:Bd}{tg:gl}
def Nz(K:PY)(tl:TE):TI:=λZ H R=>tl Z H λx H1=>∃a b xs,x=.ref a/\BB K b H1 a xs/\R (if b=true then Itl K a else Itt K a) H1
theorem GE{l:gl}{n:TE}(A:PE X l n):PI X tg l (Nz X.K n):=by
 intro f s Z H R I h;refine bp (A f s Z H _ I h) λv c ⟨x,H1,I1,y,z⟩=>?_;obtain⟨a,b,j,e,m,q⟩:=z;subst e;cases y;cases b with
 |true=>
  obtain⟨g,w,p,u⟩:=I1.list (show SqL X.K H1 a j from m);refine Xx p.isList ?_;refine⟨c.heap.objs.size,[c.heap.objs.size],_,_,H1,rfl,I1.kept (t':=c.toks) λb o e=>PR _ e,At a _,⟨_,Qg _ rfl,rfl,rfl⟩,λb i=>?_,q⟩;have e:b=c.heap.objs.size:=by simpa using i
  subst e;exact I1.fpOk (PZ _) (I1.hok.fresh<|PZ _)
 |false=>
  obtain⟨g,w,p,u⟩:=I1.tuple (show ie X.K H1 a j from m);refine wpAny_pyIter_tuple (show c.heap.IsTuple a g.toArray from p) ?_;refine⟨c.heap.objs.size,[c.heap.objs.size],_,_,H1,rfl,I1.kept (t':=c.toks) λb o e=>PR _ e,vF a _,⟨_,Qg _ rfl,rfl,rfl⟩,λb i=>?_,q⟩;have e:b=c.heap.objs.size:=by simpa using i
  subst e;exact I1.fpOk (PZ _) (I1.hok.fresh<|PZ _)
def JM(K:PY)(t:TA):TI:=λZ H R=>t Z H λa H1=>∃b l xs,a=[.ref l]/\BB K b H1 l xs/\R (Ite K b l) H1
theorem Cn{a:gl}{j:Yy}{M:Nat}{tp:Pos}{w:TA}{p pos:Pos}(J:Gl X "enumerate")(G:X.mg "enumerate"=cm)(N:PA X [a] w)(L:ff [a] X.env=[(eC,g3 a X.env)]:=by rfl):
  PI X (.Tuple j M tp) (.Call (.Name "enumerate" p) [a] [] pos) (JM X.K w):=by
 intro g s Z H R I h;refine Call_ (eJ I J G (by decide +kernel:gp "enumerate"=ap (.type "enumerate"))<|QL (bp (N pos g s Z H _ I h) λS f ⟨T,H1,I1,y,n⟩=>?_) L rfl)
 obtain⟨b,l,O,e,n,q⟩:=n;subst e;obtain⟨Q,rfl,o⟩:=y.one;cases o;obtain⟨E,P,sq,z⟩:=I1.src n;refine AR sq λu v x C A=>?_;have I2:Inv X g Z H1 { f with heap:=u }:=I1.kept (t':=f.toks) A;refine wpAny_pyIter_enum (s:={ f with heap:=u }) v ?_;refine⟨f.heap.objs.size+1,[f.heap.objs.size+1,f.heap.objs.size],_,_,H1,rfl,I2,B3 b l _ _ (show (_:Nat)≠(_:Nat) by lia),⟨⟨_,v⟩,x⟩,λc F=>?_,q⟩
 have i:f.heap.objs.size<=c:=by
  have m:c=f.heap.objs.size+1\/c=f.heap.objs.size:=by simpa using F
  rcases m with e|e<;>rw[e]<;>first|exact Rg _ _|exact PZ _
 exact I1.fpOk (H':=H1) i (I1.hok.fresh i)
end
end L2
namespace L3
open PySem L2
variable{C f:eg}{B:Bd}{X:Cx}{Q:DK}{EE:DX}{U:Dl}{a e:gl}{fd:g5}{base:hI}{H H':Hp}{Z:L2.St}{es:Yy}{N ps:Yv}{M M':Mem}{n:Nat}{K:PY}{Yr p pos:Pos}{P:fy}{scope:SB}{T:Sd}{st:rz}{Yn x:Str}{mg:YC}{w:g4}{E:XK}{ta:fC}{g:jB}
section
variable{tg:gl}
def bN(d:D)(xs:List D):List (eg×List D):=match d with
 |.ref a=>[(a,xs)]
 |_=>[]
theorem F9{d:D}{v:V}{xs:List D}(s:RepH K H M)(r:Rp K H d v)(e:aO M d=ap xs):∃p b,v=.ref p/\∀H' M',Imm H H'->RepH K H' M'->(∀q∈bN d xs,M' q.1=ap (.lst q.2))->∃vs,BB K b H' p vs/\Rps K H' xs vs:=by
 cases d with
 |tup ys=>
  cases e;obtain⟨p,vs,rfl,h,r⟩:=r;exact⟨p,eC,rfl,λH' M' i _ _=>⟨vs,(h.mono i).sq,r.mono i⟩⟩
 |lst ys=>
  cases e;obtain⟨p,vs,rfl,h,r⟩:=r;exact⟨p,true,rfl,λH' M' i _ _=>⟨vs,(h.mono i).sq,r.mono i⟩⟩
 |mt ys=>
  cases e;obtain⟨p,vs,rfl,h,r⟩:=r;exact⟨p,eC,rfl,λH' M' i _ _=>⟨vs,h.sq,r.mono i⟩⟩
 |ml ys=>
  cases e;obtain⟨p,vs,rfl,h,r⟩:=r;exact⟨p,true,rfl,λH' M' i _ _=>⟨vs,(h.mono i).sq,r.mono i⟩⟩
 |ref a=>
  refine⟨a,true,r,λH' M' i c m=>?_⟩;obtain⟨vs,j,o⟩:=c _ _ (m (a,xs)<|by simp[bN])
  exact⟨vs,SqL.of j,o⟩
 |_=>cases e
theorem DZ{d:D}{xs:List D}(e:aO M d=ap xs):∀q∈bN d xs,M q.1=ap (.lst q.2):=by
 cases d with
 |ref a=>
  intro q b;have:q=(a,xs):=by simpa [bN] using b
  subst this;simp only[aO]at e
  split at e
  .rename_i c h;cases e;exact h
  .cases e
 |_=>intro q b;simp[bN]at b
def bK(te:bu):Bx:=λU M R=>te U M λd M1=>match aO M1 d with
 |some xs=>R ⟨xs,bN d xs⟩ M1
 |none=>False
theorem Kk{l:gl}{O:bu}(A:DE X B l O):DI X B tg l (bK O):=by
 refine lZ (GE A) ?_
 rintro Z H R ⟨U,M,RR,s,h,up⟩
 refine⟨U,M,_,s,h,λd M1 I v H1 o Y r1=>?_⟩
 split at I
 .rename_i xs e
  obtain⟨p,b,rfl,m⟩:=F9 o r1 e;obtain⟨S,hq,_⟩:=m H1 M1 Imm.refl o (DZ e);refine⟨p,b,S,rfl,hq,up _ M1 I _ H1 o Y λi H2 M2 W y J=>?_⟩;obtain⟨c,j,G⟩:=m H2 M2 W y J;have A:=G.length;cases b with
  |true=>
   refine⟨λd L=>?_,λu=>⟨c,j,by rw[<- A];exact u⟩⟩
   obtain⟨w,z,q⟩:=G.get L;refine⟨⟨c,w,j,z⟩,?_⟩
   rintro x H3 ⟨rfl,F⟩
   have:=F c j;rw[z]at this;cases this;exact⟨Frm.refl,y,q⟩
  |false=>
   refine⟨λd L=>?_,λu=>⟨c,j,by rw[<- A];exact u⟩⟩
   obtain⟨w,z,q⟩:=G.get L;refine⟨⟨c,w,j,z⟩,?_⟩
   rintro x H3 ⟨rfl,F⟩
   have:=F c j;rw[z]at this;cases this;exact⟨Frm.refl,y,q⟩
 .exact I.elim
def dU(lo:Int)(n:Nat):List D:=(QG n).map λ(i:Nat)=>D.int (lo+i)
def gs(t:fC):Bx:=λU M R=>t U M λb M1=>match b with
 |[.int j]=>-(2 ^ 62)<=j/\j<2 ^ 62/\R ⟨dU 0 j.toNat,[]⟩ M1
 |_=>False
theorem Ma{m:Int}:On K H ⟨dU m n,[]⟩ (Itr m n):=λi H2 M2 u o _=>by
 have b:(dU m n).length=n:=by simp[dU]
 refine⟨λd j=>?_,λc=>by rw[b]at c;exact c⟩
 have q:i<n:=by
  rcases RC i n with h|h
  .exact h
  .rw[QU (by rw[b];exact h)]at j;cases j
 have s:d=.int (m+i):=by
  simp only[dU,Qj,RG q]at j;exact(QX j).symm
 subst s;refine⟨q,?_⟩
 rintro x H3 ⟨rfl,rfl⟩
 exact⟨Frm.refl,o,rfl⟩
theorem Bi(u:Gl X "range")(z:X.mg "range"=cm)(q:DA X B [a] ta)(y:ff [a] X.env=[(eC,g3 a X.env)]:=by rfl):DI X B tg (.Call (.Name "range" p) [a] [] pos) (gs ta):=by
 refine lZ (AI u z q y) ?_
 rintro Z H R ⟨U,M,RR,s,h,o⟩
 refine⟨U,M,_,s,h,λds M1 b A H1 c j m=>?_⟩
 split at b
 .obtain⟨v,rfl,i⟩:=gP (ds:=[]) m
  cases i;exact⟨_,rfl,b.1,b.2.1,o _ M1 b.2.2 _ H1 c j Ma⟩
 .exact b.elim
def uf(xs:List D):List D:=(xs.zipIdx).map λp=>D.tup [.int (p.2:Nat),p.1]
theorem Aw{xs:List D}{i:Nat}:(uf xs)[i]?=(xs[i]?).map λd=>D.tup [.int (i:Nat),d]:=by
 simp[uf,Qj,List.getElem?_zipIdx];cases xs[i]?<;>simp
def nC(t:fC):Bx:=λU M R=>t U M λb M1=>match b with
 |[d]=>match aO M1 d with
  |some xs=>R ⟨uf xs,bN d xs⟩ M1
  |none=>False
 |_=>False
theorem HB{y:Yy}{x1:Nat}{tp:Pos}(hg:Gl X "enumerate")(hm:X.mg "enumerate"=cm)(ha:DA X B [a] ta)(hs:ff [a] X.env=[(eC,g3 a X.env)]:=by rfl):
  DI X B (.Tuple y x1 tp) (.Call (.Name "enumerate" p) [a] [] pos) (nC ta):=by
 refine lZ (Cn hg hm ha hs) ?_
 rintro Z H R ⟨U,M,RR,s,h,up⟩
 refine⟨U,M,_,s,h,λds M1 q L H1 j i1 r1=>?_⟩
 split at q
 .obtain⟨v,rfl,rv⟩:=gP (ds:=[]) r1
  split at q
  .rename_i xs e
   obtain⟨p,b,rfl,c⟩:=F9 j rv e;obtain⟨L,hq,_⟩:=c H1 M1 Imm.refl j (DZ e);refine⟨b,p,L,rfl,hq,up _ M1 q _ H1 j i1 λi H2 M2 i2 u I=>?_⟩;obtain⟨m,o,J⟩:=c H2 M2 i2 u I;have hl:=J.length;refine⟨λd O=>?_,λF=>⟨m,o,by rw[<- hl];simpa [uf] using F⟩⟩
   rw[Aw]at O;obtain⟨d0,z,rfl⟩:=Tz.mp O;obtain⟨w,S,A⟩:=J.get z;refine⟨⟨m,w,o,S⟩,?_⟩
   rintro x H3 ⟨T,x',G,rfl,rfl,Y⟩
   have:=Y m o;rw[S]at this;cases this;have W:Imm H2 (upd H2 T<|.tup [.int i,w]):=Imm.new G;exact⟨Frm.new G,u.new G,T,_,rfl,upd_same,.cons rfl<|.cons (A.mono W) .nil⟩
  .exact q.elim
 .exact q.elim
end
def rq:Bd:=⟨λ_ _=>True,λ_ _=>trivial⟩
section
inductive liftE0(K:PY)(T:bu)(Z:L2.St)(H:Hp)(Q:VK):Prop
 |mk (U:Dl) (M:Mem) (QQ:DK) (rh:RepH K H M) (rs:RepS K H U Z) (h:T U M QQ) (u:Up K M H QQ Q):liftE0 K T Z H Q
inductive liftT0(K:PY)(T:fG)(Z:L2.St)(H:Hp)(Q:Bool->Hp->Prop):Prop
 |mk (U:Dl) (M:Mem) (QQ:Bool->Mem->Prop) (rh:RepH K H M) (rs:RepS K H U Z) (h:T U M QQ) (u:UpT K M H QQ Q):liftT0 K T Z H Q
inductive liftG0(K:PY)(g:jB)(v:V)(Z:L2.St)(H:Hp)(Q:L2.St->Hp->Prop):Prop
 |mk (d:D) (U:Dl) (M:Mem) (QQ:Dl->Mem->Prop) (rh:RepH K H M) (rs:RepS K H U Z) (r:Rp K H d v) (h:g d U M QQ) (u:∀δ' M',QQ δ' M'->∀σ' H',Frm M H M' H'->RepH K H' M'->RepS K H' δ' σ'->Q σ' H'):liftG0 K g v Z H Q
theorem vD{T:bu}(h:DE X rq e T):PE X e (liftE0 X.K T):=a_ h λZ H Q ⟨U,M,QQ,c,b,h,u⟩=>⟨U,M,QQ,⟨trivial,c,b⟩,h,u⟩
theorem vE(h:DG X rq e g):PG X e (liftG0 X.K g):=lg h λv Z H Q ⟨d,U,M,QQ,rh,rs,r,h,u⟩=>⟨d,U,M,QQ,⟨trivial,rh,rs⟩,r,h,λb M' q c H' f s=>u b M' q c H' f s.rh s.rs⟩
theorem RepH.add{a:eg}{o:MO}(r:RepH K H M)(n:RepO K H a o):RepH K H (M.upd a o):=λb p e=>by
 by_cases c:b=a
 .subst c;rw[Mem.upd_same]at e;cases e;exact n
 .rw[ae c]at e;exact r b p e
def bw(ls:Yv)(js:List Nat)(U:Dl):Dl:=ls.map (λ_=>cm)++js.map λj=>(U[j]?).join
theorem RepS.start(r:RepS K H U Z)(ls:Yv)(c:List Nat):RepS K H (bw ls c U) (bP ls c Z):=by
 refine⟨by simp[bw,bP],λi d e=>?_⟩
 unfold bw at e;unfold bP
 by_cases b:i<ls.length
 .rw[QY (by simpa using b),Qj,PV b]at e
  cases e
 .rw[QD (by simpa using b),PQ,Qj]at e
  rw[QD (by simpa using b),PQ,Qj]
  cases h:c[i-ls.length]? with
  |none=>rw[h]at e;cases e
  |some j=>
   rw[h]at e;have q:(U[j]?).join=ap d:=by simpa using e
   have y:U[j]?=ap (ap d):=by
    cases z:U[j]? with
    |none=>rw[z]at q;cases q
    |some o=>rw[z]at q;have s:o=ap d:=q;rw[s]
   obtain⟨v,m,u⟩:=r.get j d y;exact⟨v,by simp[m],u⟩
structure BxC(g:jB)(tt:fG)(te:bu)(ok:Mem->Prop)(Q:List D->Mem->Prop):Type
def cw(g:jB)(tt:fG)(te:bu)(ok:Mem->Prop)(Q:List D->Mem->Prop)(b:BxC g tt te ok Q):List D->List D->Dl->Mem->Prop
 |[],Yp,_,M=>ok M/\Q Yp M
 |x::xs,Yp,U,M=>ok M/\g x U M λh M2=>tt h M2 λc M3=>if c=true then te h M3 λy M4=>Yp.length<sizeLine/\cw g tt te ok Q b xs (Yp++[y]) h M4 else cw g tt te ok Q b xs Yp h M3
def aY(wi:Bx)(ls:Yv)(js:List Nat)(g:jB)(tt:fG)(te:bu):bu:=λU M Q=>wi U M λc M1=>cw g tt te c.ok (λb M'=>∀p,M' p=cm->Q (.ref p) (M'.upd p<|.lst b)) ⟨⟩ c.items [] (bw ls js U) M1
theorem Dw{tt:fG}{te:bu}{ok:Mem->Prop}{xs c:List D}{Q:List D->Mem->Prop}{b:BxC g tt te ok Q}(h:cw g tt te ok Q b xs c U M):ok M:=by
 cases xs with
 |nil=>exact h.1
 |cons _ _=>exact h.1
variable{tg iter elt:gl}{ifs:Yy}{cl:List (Str×eg)}{ls fs:Yv}{js:List Nat}{wi:Bx}{tt:fG}{te:bu}
theorem jK{Q:VK}(h:liftE X B (aY wi ls js g tt te) Z H Q):yf (liftI X B wi) ls js (liftG0 X.K g) (liftT0 X.K tt) (liftE0 X.K te) Z H Q:=by
 obtain⟨U,M,QQ,s,h,u⟩:=h;refine⟨U,M,_,s,h,λit M1 h1 J H1 rh1 f1 hJ p hp=>?_⟩;have hMp:M1 p=none:=rh1.fresh hp
 refine⟨λi m σ' H'=>m=it.items.length-i/\i<=it.items.length/\∃δ' M' Yp ys,RepH X.K H' M'/\RepS X.K H' δ' σ'/\H' p=ap (.lst ys)/\Rps X.K H' Yp ys/\M' p=cm/\Frm M1 H1 M' H'/\
   cw g tt te it.ok (λYp M'=>∀p,M' p=cm->QQ (.ref p) (M'.upd p<|.lst Yp)) ⟨⟩ (it.items.drop i) Yp δ' M',
  ⟨_,rfl,Rq _,bw ls js U,M1,[],[],rh1.new hp,((s.rs.mono<|f1.imm s.rh).mono<|Imm.new hp).start ls js,upd_same,.nil,hMp,Frm.new hp,h1⟩,?_⟩
 rintro i m σ2 H2 ⟨rfl,hi,δ2,M2,Yp,ys,rh2,rs2,hp2,ra2,hm2,f2,h2⟩
 have hok:=Dw h2;obtain⟨hgo,hstop⟩:=hJ i H2 M2 (f2.imm rh1) rh2 hok
 by_cases hlt:i<it.items.length
 .rw[Sg hlt]at h2
  obtain⟨go,hy⟩:=hgo _ (PV hlt)
  refine .inr ⟨go,λσ' H'=>∃δ' M' Yp ys,RepH X.K H' M'/\RepS X.K H' δ' σ'/\H' p=ap (.lst ys)/\Rps X.K H' Yp ys/\M' p=cm/\Frm M1 H1 M' H'/\
   cw g tt te it.ok (λYp M'=>∀p,M' p=cm->QQ (.ref p) (M'.upd p<|.lst Yp)) ⟨⟩ (it.items.drop (i+1)) Yp δ' M',λσ' H' z=>⟨it.items.length-(i+1),by omega,rfl,hlt,z⟩,λx H3 hx=>?_⟩
  obtain⟨f3,rh3,rx⟩:=hy x H3 hx;refine⟨_,δ2,M2,_,rh3,rs2.mono (f3.imm rh2),rx,h2.2,λδ4 M4 h4 σ4 H4 f4 rh4 rs4=>?_⟩;refine⟨δ4,M4,_,rh4,rs4,h4,λc M5 h5 H5 rh5 f5=>?_⟩;have f35:=(f3.trans f4).trans f5;obtain⟨hp5,hm5⟩:=f35.keep p _ hp2 hm2;cases c with
  |false=>
   try dsimp only
   rw[if_neg Qq]at h5 ⊢;exact⟨δ4,M5,Yp,ys,rh5,rs4.mono (f5.imm rh4),hp5,ra2.mf rh2 f35,hm5,f2.trans f35,h5⟩
  |true=>
   try dsimp only
   rw[if_pos rfl]at h5 ⊢;refine⟨δ4,M5,_,rh5,rs4.mono (f5.imm rh4),h5,λy M6 h6 v6 H6 rh6 f6 r6=>?_⟩;obtain⟨hp6,hm6⟩:=f6.keep p _ hp5 hm5;have f26:=f35.trans f6;have ra6:=ra2.mf rh2 f26;refine⟨ys,hp6,by rw[<- ra6.length];exact h6.1,?_⟩
   have im:Imm H6 (upd H6 p<|.lst (ys++[v6])):=Imm.upd (by rw[hp6];trivial)
   refine⟨δ4,M6,Yp++[y],ys++[v6],rh6.keep im λb o hb=>aK (Mem.ne hb hm6),((rs4.mono<|f5.imm rh4).mono<|f6.imm rh5).mono im,upd_same,(ra6.append<|.cons r6 .nil).mono im,hm6,?_,h6.2⟩;refine⟨λb w e n=>?_⟩;obtain⟨e2,n2⟩:=(f2.trans f26).keep b w e n;exact⟨by rw[aK (bc e hp)];exact e2,n2⟩
 .rw[TH (by omega)]at h2
  refine .inl ⟨hstop (by omega),u _ _ (h2.2 p hm2) _ H2 (rh2.add ⟨ys,hp2,ra2⟩) ?_ rfl⟩
  refine⟨λb w e n=>?_⟩;obtain⟨e1,n1⟩:=f1.keep b w e n;obtain⟨e2,n2⟩:=f2.keep b w e1 n1;exact⟨e2,by rw[ae (bc e1 hp)];exact n2⟩
def IV(X:Cx)(B:Bd)(ifs:Yy)(T:fG):Prop:=HV X ifs (liftT X B T)
def dG:fG:=λ_ M Q=>Q true M
theorem GX:IV X B [] dG:=λb s Z H Q I c=>by obtain⟨U,M,QQ,i,h,u⟩:=c;exact HZ b s Z H Q I (u true M h H i.rh Frm.refl)
theorem Ft{c:gl}{t:fG}(h:DT X B c t):IV X B [c] t:=G0 h
theorem qu{T:fG}(h:IV X rq es T):HV X es (liftT0 X.K T):=λb s Z H Q I c=>by obtain⟨U,M,QQ,j,i,m,u⟩:=c;exact h b s Z H Q I ⟨U,M,QQ,⟨trivial,j,i⟩,m,u⟩
theorem Hm(o:X.calm=true)(co:CompOk X scope cl ls fs js)(j:DI X B tg iter wi)(i:∀(C:eg)(b:el)(H₀:Hp)(c:Yx)(pl:YB),DG (bb X (ls++fs) scope cl C b H₀ c pl) rq tg g/\IV (bb X (ls++fs) scope cl C b H₀ c pl) rq ifs tt/\DE (bb X (ls++fs) scope cl C b H₀ c pl) rq elt te)(m:∀x,o4 iter X.env x=pure x:=by intro _;rfl):DE X B (.ListComp elt [⟨tg,iter,ifs,0⟩] scope pos) (aY wi ls js g tt te):=
 a_ (Fj (g:=liftG0 X.K g) (tt:=liftT0 X.K tt) (te:=liftE0 X.K te) o co j (λC b H₀ c pl=>⟨vE (i C b H₀ c pl).1,qu (i C b H₀ c pl).2.1,vD (i C b H₀ c pl).2.2⟩) m) λ_ _ _ h=>jK h
def df(i:Nat)(t:bu):av:=λD U M=>t U M λd M1=>D.nx (U.set i<|some d) M1
theorem FP{i:Nat}{y c:Pos}(I:X.N.Nodup)(m:X.N[i]?=ap x)(G:Bz X.env.scope x)(J:X.calm=true)(co:CompOk X scope cl ls fs js)(F:DI X B tg iter wi)(o:∀(C:eg)(b:el)(H₀:Hp)(j:Yx)(pl:YB),DG (bb X (ls++fs) scope cl C b H₀ j pl) rq tg g/\IV (bb X (ls++fs) scope cl C b H₀ j pl) rq ifs tt/\DE (bb X (ls++fs) scope cl C b H₀ j pl) rq elt te)(u:vr (.ListComp elt [⟨tg,iter,ifs,0⟩] scope pos) (ap<|.Name x y) c.line X.env=pure true:=by rfl)(hs:∀x,o4 iter X.env x=pure x:=by intro _;rfl)(hf:X.fn x=true\/X.env.scope.names.lookup x=ap .local:=by first|exact .inl rfl|exact .inr rfl|assumption):
  DS X B (.Assign [.Name x y] (.ListComp elt [⟨tg,iter,ifs,0⟩] scope pos) c) (df i<|aY wi ls js g tt te):=by
 refine bL (Ia (g:=liftG0 X.K g) (tt:=liftT0 X.K tt) (te:=liftE0 X.K te) I m G J co F (λC b H₀ j pl=>⟨vE (o C b H₀ j pl).1,qu (o C b H₀ j pl).2.1,vD (o C b H₀ j pl).2.2⟩) u hs hf) ?_
 rintro D Z H ⟨U,M,DD,s,h,A⟩
 refine jK ⟨U,M,_,s,h,λd M' q v H' z f r=>?_⟩;exact A.nx _ M' q _ H' f ((s.go z f).set r)
def fE(i:Nat)(U:Dl)(M:Mem)(Q:Dl->Mem->Prop):Prop:=match U[i]? with
 |some (ap<|.ref a)=>match M a with
  |some (.lst xs)=>Q (U.set i<|some<|.lst xs) (M.del a)
  |_=>Q U M
 |_=>Q U M
def cE(t:av)(i:Nat):av:=λD U M=>t { D with nx:=λb M'=>fE i b M' D.nx } U M
theorem su{α:Type}:∀{l:List α}{i:Nat}{x:α},l[i]?=ap x->l.set i x=l
 |[],_,_,h=>by simp at h
 |_::_,0,_,h=>by simp at h;subst h;rfl
 |_::_,i+1,_,h=>by rw[List.set_cons_succ,su (by simpa using h)]
theorem Lj{t:av}(i:Nat)(h:DS X B st t):DS X B st (cE t i):=by
 intro Ym s Z H D I ⟨U,M,DD,sr,hT,up⟩;refine bp (h Ym s Z H { D with nx:=λσ' H'=>∃δ' M',fE i δ' M' DD.nx/\Frm M H M' H'/\SR X B δ' M' σ' H' } I ⟨U,M,_,sr,hT,⟨λδ' M' q σ' H' f s'=>⟨δ',M',q,f,s'⟩,up.rt,up.bk,up.ct⟩⟩) λf s' q=>?_;cases f with
 |next=>
  obtain⟨σ',H',I',δ',M',q,f,s'⟩:=q;unfold fE at q
  split at q
  .rename_i a ea
   split at q
   .rename_i xs e
    obtain⟨vs,h1,h2⟩:=s'.rh _ _ e;obtain⟨o,I2⟩:=Inv.freeze I' h1;have im:Imm H' (upd H' a<|.frz o<|.lst vs):=Imm.upd (by rw[h1];trivial)
    obtain⟨v,hv,rv⟩:=s'.rs.get i _ ea;cases rv;refine⟨σ',_,I2,up.nx _ _ q σ' _ (f.trans<|Frm.del ⟨_,e⟩) ⟨B.go s'.i0 (Frm.del ⟨_,e⟩),s'.rh.freeze h1,?_⟩⟩;have:=(s'.rs.mono im).set (i:=i) (d:=.lst xs) (v:=.ref a) ⟨a,vs,rfl,⟨o,upd_same⟩,h2.mono im⟩
    rwa [su hv]at this
   .exact⟨σ',H',I',up.nx _ _ q σ' H' f s'⟩
  .exact⟨σ',H',I',up.nx _ _ q σ' H' f s'⟩
 |brk=>exact q
 |cont=>exact q
 |ret u=>exact q
end
abbrev DX:=eg->Mem->Prop
abbrev Sd:=List D->Mem->DK->DX->Prop
def oq(P:fy)(w:g4):oh:=λb H s E e c=>∃C,ut P w C b H s E e c
def UpX(K:PY)(M:Mem)(H:Hp)(EE:DX)(E:XK):Prop:=∀C M',EE C M'->∀H',RepH K H' M'->Frm M H M' H'->E (.ref C) cm H'
def um(K:PY)(B:Bd)(EE:DX)(E:XK):Prop:=∀C M',EE C M'->∀H',RepH K H' M'->B.p M' H'->E (.ref C) cm H'
theorem UpX.go{M1:Mem}{H1:Hp}(u:UpX K M H EE E)(i:Frm M H M1 H1):UpX K M1 H1 EE E:=λC M' q H' a b=>u C M' q H' a (i.trans b)
def bO(K:PY)(n:Nat)(T:Sd):Sp:=λb H Q E=>b.length=n/\∃ds M QQ EE,RepH K H M/\Rps K H ds b/\T ds M QQ EE/\Up K M H QQ Q/\UpX K M H EE E
def startN(N:Yv)(ds:List D):Dl:=ds.map ap++Qz (N.length-ds.length) cm
theorem RepS.startN{ds:List D}{vs:List V}(N:Yv)(r:Rps K H ds vs):RepS K H (L3.startN N ds) (L2.start N vs):=by
 have m:=r.length;refine⟨by simp[L3.startN,L2.start,m],λi d e=>?_⟩
 unfold L3.startN at e;unfold L2.start
 by_cases b:i<ds.length
 .rw[QY (by simpa using b),Qj,PV b]at e
  have c:ds[i]=d:=by simpa using e
  obtain⟨v,h,j⟩:=r.get (i:=i) (d:=d) (by rw[PV b,c])
  refine⟨v,?_,j⟩;rw[QY (by simp;lia),Qj,h]
  rfl
 .rw[QD (by simpa using b),Vn]at e
  split at e<;>cases e
section
def drp(Q:DK)(d:D)(M':Mem):Prop:=∃M'',(∀b o,M'' b=ap o->M' b=ap o)/\Q d M''
def aB(EE:DX)(C:eg)(M':Mem):Prop:=∃M'',(∀b o,M'' b=ap o->M' b=ap o)/\EE C M''
theorem ak{d:D}(h:Q d M'):drp Q d M':=⟨M',λ_ _ e=>e,h⟩
theorem dX(h:EE C M'):aB EE C M':=⟨M',λ_ _ e=>e,h⟩
theorem Frm.less{M'':Mem}(f:Frm M H M' H')(s:∀b o,M'' b=ap o->M' b=ap o):Frm M H M'' H':=⟨λb u e n=>by
 obtain⟨h,c⟩:=f.keep b u e n;refine⟨h,?_⟩;cases q:M'' b with
 |none=>rfl
 |some o=>rw[s b o q]at c;cases c⟩
theorem Up.drp{QV:VK}(u:Up K M H Q QV):Up K M H (L3.drp Q) QV:=λd M' ⟨M'',s,q⟩ v H' c f r=>u d M'' q v H' (λb o e=>c b o (s b o e)) (f.less s) r
theorem UpX.drp(u:UpX K M H EE E):UpX K M H (aB EE) E:=λC M' ⟨M'',s,q⟩ H' c f=>u C M'' q H' (λb o e=>c b o (s b o e)) (f.less s)
def aJ(N:Yv)(T:DX->av):Sd:=λb M Q EE=>T (aB EE) { nx:=λ_ M'=>drp Q .non M',rt:=drp Q } (startN N b) M
theorem fnD{k:Nat}{T:DX->av}(F:Fun K x Yn st f fd)(S:FnScope N ps (aQ st))(J:∀(c:ay)(A:kc)(b:List Env)(s:el)(H:Hp)(E:XK)(B:Bd)(EE:DX),Room k (A.deeper<|SD Yn (aQ st) s.heap.objs.size f c)->um K B EE E->
   yd (dN (oq P w) P w K mg base N Yn (aQ st) f c A b s H E) B (bB st) (T EE)):
  FnOk P w K mg base (oq P w) (k+1) f fd ps (bO K ps.length<|aJ N T):=by
 obtain⟨Y,O,kV,I,L,R,c,ct,v,rfl,lk,i⟩:=F.ex;refine IH lk i S (λo H Q E h=>h.1) λA b s H o Q E G j=>?_;obtain⟨W,y,M,QQ,EE,rh,r,z,u,ux⟩:=j;refine⟨_,J c A b s H E (Bd.of M H) (aB EE) G ux.drp,startN N y,M,{ nx:=λ_ M'=>drp QQ .non M',rt:=drp QQ },⟨Frm.refl,rh,.startN N r⟩,z,⟨?_,u.drp,?_,?_⟩⟩
 .exact λU M' q Z H' f m=>u.drp _ M' q _ H' m.rh f rfl
 .exact λU M' q=>(show False from q).elim
 .exact λU M' q=>(show False from q).elim
theorem fB{k:Nat}{CX:oh}:FnOk P w K mg base CX k f fd ps (bO K n λ_ _ _ _=>False):=
 ⟨λi H Q E h=>(by obtain⟨_,_,_,_,_,_,_,h,_⟩:=h;exact h.elim),λA b s H c j i Q E _ _ _ _ h=>(by obtain⟨_,_,_,_,_,_,_,h,_⟩:=h;exact h.elim)⟩
theorem JG{i:ay}{A:kc}{b:List Env}{h:el}{H0:Hp}:bW (oq P w) (dN (oq P w) P w K mg base N Yn scope f i A b h H0 E) E:=by
 intro c Z H s e m I ⟨C,j⟩;have I':Inv (dN (ut P w C) P w K mg base N Yn scope f i A b h H0 E) c Z H s:=I.wish _;have:=Oz c Z H s e m I' j;exact n7 this (λ_ _ z=>⟨C,z⟩) λ_ _ z=>⟨C,z⟩
theorem Ei:bW (oq P w) X E0:=λb Z H s e i I ⟨C,c⟩=>by
 obtain⟨_,_,_,_,_,_,_,_,_,_,_,_,h⟩:=c;exact(show False from h).elim
end
def Sub(M1 M:Mem):Prop:=∀b o,M1 b=ap o->M b=ap o
def Dis(M1 M M':Mem):Prop:=∀b o,M b=ap o->M1 b=cm->M' b=cm
def plus(M' M1 M:Mem):Mem:=λb=>match M' b with
 |some o=>ap o
 |none=>match M1 b with
  |some _=>cm
  |none=>M b
theorem p9:plus M' M M=M':=by
 funext b;simp only[plus];cases h:M' b with
 |some o=>rfl
 |none=>cases c:M b<;>rfl
structure BxQ(EE:DX)(Q:DK):Type
structure calls(T:Sd)(EE:DX)(ds:List D)(M:Mem)(Q:DK)(_:BxQ EE Q):Prop where
 go:∃M1,Sub M1 M/\T ds M1 (λd M'=>Dis M1 M M'->Q d (plus M' M1 M)) (λC M'=>Dis M1 M M'->EE C (plus M' M1 M))
section
variable{M1:Mem}
theorem RepH.sub(r:RepH K H M)(s:Sub M1 M):RepH K H M1:=λb o e=>r b o (s b o e)
theorem RepH.dis(r:RepH K H M)(f:Frm M1 H M' H'):Dis M1 M M':=λb o e n=>by
 obtain⟨u,q⟩:=(r b o e).obj;exact(f.keep b u q n).2
theorem RepH.plus(r:RepH K H M)(s:Sub M1 M)(h:RepH K H' M')(f:Frm M1 H M' H'):RepH K H' (plus M' M1 M):=λb o e=>by
 simp only[L3.plus]at e
 split at e
 .rename_i i q;cases e;exact h b _ q
 .split at e
  .cases e
  .rename_i q n
   obtain⟨u,c⟩:=(r b o e).obj;exact(r b o e).keep (f.imm<|r.sub s) ((f.keep b u c n).1.trans c.symm)
theorem Frm.plus(s:Sub M1 M)(f:Frm M1 H M' H'):Frm M H (plus M' M1 M) H':=⟨λb u e n=>by
 have c:M1 b=none:=by
  cases q:M1 b with
  |none=>rfl
  |some o=>rw[s b o q]at n;cases n
 obtain⟨h,i⟩:=f.keep b u e c;exact⟨h,by simp only[L3.plus,i,c,n]⟩⟩
theorem dQ{ds:List D}{vs:List V}{QV:VK}{b:BxQ EE Q}(h:calls T EE ds M Q b)(rh:RepH K H M)(r:Rps K H ds vs)(j:vs.length=n)(u:Up K M H Q QV)(ux:UpX K M H EE E):bO K n T vs H QV E:=by
 obtain⟨M1,s,h⟩:=h.go;refine⟨j,ds,M1,_,_,rh.sub s,r,h,λd M' q v H' c f i=>?_,λC M' q H' c f=>?_⟩
 .exact u d _ (q<|rh.dis f) v H' (rh.plus s c f) (f.plus s) i
 .exact ux C _ (q<|rh.dis f) H' (rh.plus s c f) (f.plus s)
theorem ar{ds:List D}{b:BxQ EE Q}(c:∀Q' E',(∀d M,Q d M->Q' d M)->(∀C M,EE C M->E' C M)->T ds M Q' E'):calls T EE ds M Q b:=
 ⟨M,λ_ _ e=>e,c _ _ (λd M' q _=>by rw[p9];exact q) λC M' q _=>by rw[p9];exact q⟩
variable{CX:oh}{k:Nat}{m:Str}{o:gl}{ta:bu}{t:fC}
def aj(T:Sd)(EE:DX)(n:Nat)(t:fC):bu:=λU M Q=>t U M λb M1=>b.length=n/\calls T EE b M1 Q ⟨⟩
theorem SR.ux{U:Dl}{Z:L2.St}(s:SR X B U M Z H)(ux:um X.K B EE E):UpX X.K M H EE E:=λC M' q H' a b=>ux C M' q H' a (B.go s.i0 b)
theorem qz(F:FnOk X.prog X.w X.K X.mg X.base CX k f fd ps (bO X.K n T))(v:Room k X.A)(I:Gl X x)(y:X.mg x=ap (.ref f))(J:Rj X.K (.ref f)=true)(G:Binds X.K fd ps [])(z:bW CX X E)(ux:um X.K B EE E)(L:DA X B (e::es) t)(c:(x==("__debug__":Str))=false:=by decide)(he:ff (e::es) X.env=(eC,g3 e X.env)::ff es X.env:=by rfl)(hpl:(j0 pos<|starEach es X.env).any (·.1)=false:=by rfl):
  DE X B (.Call (.Name x p) (e::es) [] pos) (aj T EE n t):=by
 refine a_ (Gh F v I y J G .nil z L c he hpl) ?_
 rintro Z H Q ⟨U,M,QQ,s,h,u⟩
 refine⟨U,M,_,s,h,λR M1 i O H1 b j q=>?_⟩
 try dsimp only
 rw[QO];exact dQ i.2 b q (by rw[<- q.length];exact i.1) (u.go j) ((s.ux ux).go j)
def cY(C:eg)(m:Str)(T:Sd)(EE:DX)(n:Nat)(ta:bu)(t:fC):bu:=λU M Q=>ta U M λx M1=>match x with
 |.ref a=>match M1 a with
  |some (.ins C' fs)=>C'=C/\fs.lookup m=cm/\t U M1 λb M2=>b.length+1=n/\calls T EE (.ref a::b) M2 Q ⟨⟩
  |_=>False
 |_=>False
theorem GR{pl:Sem Bool}(he:DE X B o ta)(c:Cls X.K C)(hm:Meth X.K C m f)(F:FnOk X.prog X.w X.K X.mg X.base CX k f fd ps (bO X.K n T))(hr:Room k X.A)(hb:Binds X.K fd ps [])(hx:bW CX X E)(ux:um X.K B EE E)(ha:DA X B (e::es) t)(y:ff (e::es) X.env=(eC,g3 e X.env)::ff es X.env:=by rfl)(hpl:(j0 pos<|starEach es X.env).any (·.1)=false:=by rfl)(ht:g3 (.Call (.Attribute o m Yr) (e::es) [] pos) X.env=(do
   let ov <- g3 o X.env
   W7 Yr.atName
   let (f,first) <- va [ov] (WP ov m pl)
   Xz pos f first (j0 pos<|starEach (e::es) X.env) (z5 pos<|keywordEach [] X.env)):=by rfl):
  DE X B (.Call (.Attribute o m Yr) (e::es) [] pos) (cY C m T EE n ta t):=by
 refine a_ (Hc he c hm F hr hb .nil hx ha y hpl ht) ?_
 rintro Z H Q ⟨U,M,QQ,s,h,u⟩
 refine⟨U,M,_,s,h,λx M1 b v H1 i i1 r1=>?_⟩
 split at b
 .rename_i a
  cases r1
  split at b
  .rename_i C' fs R
   obtain⟨rfl,S,b⟩:=b;obtain⟨Y,L,W,O⟩:=i _ _ R;have j:L.lookup m=none:=by
    rcases O.lookup m with⟨_,z⟩|⟨d,v,z,_⟩
    .exact z
    .rw[S]at z;cases z
   refine⟨a,Y,L,rfl,W,j,U,M1,_,s.go i i1,b,λds M2 J vs H2 q I G=>?_⟩
   try dsimp only
   rw[QO];exact dQ (ds:=.ref a::ds) J.2 q (.cons rfl G) (by rw[Qe,<- G.length];exact J.1) (u.go<|i1.trans I) ((s.ux ux).go<|i1.trans I)
  .exact b.elim
 .exact b.elim
theorem CN{pl:Sem Bool}(he:DE X B o ta)(c:Cls X.K C)(W:Meth X.K C m f)(F:FnOk X.prog X.w X.K X.mg X.base CX k f fd ps (bO X.K n T))(S:Room k X.A)(hb:Binds X.K fd ps [])(Y:bW CX X E)(ux:um X.K B EE E)(ht:g3 (.Call (.Attribute o m Yr) [] [] pos) X.env=(do
   let ov <- g3 o X.env
   W7 Yr.atName
   let (f,first) <- va [ov] (WP ov m pl)
   Xz pos f first (j0 pos<|starEach [] X.env) (z5 pos<|keywordEach [] X.env)):=by rfl):
  DE X B (.Call (.Attribute o m Yr) [] [] pos) (cY C m T EE n ta af):=by
 refine a_ (B_ he c W F S hb .nil Y ht) ?_
 rintro Z H Q ⟨U,M,QQ,s,h,u⟩
 refine⟨U,M,_,s,h,λx M1 b v H1 i q L=>?_⟩
 split at b
 .rename_i a
  cases L
  split at b
  .rename_i C' fs I
   obtain⟨rfl,O,b⟩:=b;obtain⟨J,y,R,G⟩:=i _ _ I;have j:y.lookup m=none:=by
    rcases G.lookup m with⟨_,z⟩|⟨d,v,z,_⟩
    .exact z
    .rw[O]at z;cases z
   refine⟨a,J,y,rfl,R,j,?_⟩;exact dQ (ds:=[.ref a]) b.2 i (.cons rfl .nil) b.1 (u.go q) ((s.ux ux).go q)
  .exact b.elim
 .exact b.elim
def gb(C:eg)(T:Sd)(EE:DX)(n:Nat)(t:fC):bu:=λU M Q=>t U M λb M1=>b.length+1=n/\∀a,M1 a=cm->calls T EE (.ref a::b) (M1.upd a<|.ins C []) (λd M2=>match d with
 |.non=>Q (.ref a) M2
 |_=>False) ⟨⟩
theorem GL(Mk':Mk X.K C f)(F:FnOk X.prog X.w X.K X.mg X.base CX k f fd ps (bO X.K n T))(hr:Room (k+1) X.A)(hg:Gl X x)(hm:X.mg x=ap (.ref C))(hb:Binds X.K fd ps [])(hx:bW CX X E)(ux:um X.K B EE E)(ha:DA X B (e::es) t)(hdb:(x==("__debug__":Str))=false:=by decide)(he:ff (e::es) X.env=(eC,g3 e X.env)::ff es X.env:=by rfl)(hpl:(j0 pos<|starEach es X.env).any (·.1)=false:=by rfl):
  DE X B (.Call (.Name x p) (e::es) [] pos) (gb C T EE n t):=by
 refine a_ (Gy Mk' F hr hg hm hb .nil hx ha hdb he hpl) ?_
 rintro Z H Q ⟨U,M,QQ,s,h,u⟩
 refine⟨U,M,_,s,h,λds M1 h1 vs H1 rh1 i1 r1 a dx na ndx nex=>?_⟩;rw[QO];have nx1:upd H1 dx (.own a) a=none:=by rw[aK (Qu nex)];exact na
 have im1:Imm H1 (upd H1 dx<|.own a):=Imm.new ndx;have im2:Imm (upd H1 dx<|.own a) (upd (upd H1 dx<|.own a) a<|.ins C dx []):=Imm.new nx1;have rh2:RepH X.K (upd (upd H1 dx<|.own a) a<|.ins C dx []) (M1.upd a<|.ins C []):=(rh1.new ndx).put (by rw[nx1];trivial) ⟨dx,[],upd_same,.nil⟩
 have f2:Frm M1 H1 (M1.upd a<|.ins C []) (upd (upd H1 dx<|.own a) a<|.ins C dx []):=(Frm.new ndx).trans (Frm.put<|.inl nx1);refine dQ (h1.2 a<|rh1.fresh na) rh2 (.cons rfl<|(r1.mono im1).mono im2) (by rw[Qe,<- r1.length];exact h1.1) (λd M2 h2 v H2 rh f r=>?_) ((s.ux ux).go<|i1.trans f2)
 cases d with
 |non=>exact⟨r,u _ M2 h2 _ H2 rh ((i1.trans f2).trans f) rfl⟩
 |_=>exact(show False from h2).elim
end
section
variable{M1:Mem}{o:gl}{to:bu}{t:fC}{name:Str}{Yq:Pos}{Ty id:String}
abbrev Bh:=D->List D->Mem->DK->Prop
inductive liftM(X:Cx)(r:Bh)(x:V)(xs:List V)(H:Hp)(Q:VK):Prop
 |mk (d:D) (ds:List D) (M:Mem) (QQ:DK) (rh:RepH X.K H M) (rx:Rp X.K H d x) (rs:Rps X.K H ds xs) (h:r d ds M QQ) (u:Up X.K M H QQ Q):liftM X r x xs H Q
def nN(Ty:String)(r:Bh)(to:bu)(t:fC):bu:=λU M Q=>to U M λx M1=>eI M1 x=ap Ty/\t U M1 λb M2=>r x b M2 Q
theorem Di{d:D}{v:V}(m:RepH K H M)(r:Rp K H d v)(e:eI M d=ap Ty)(h:Ty="list"\/Ty="str"\/Ty="int"\/Ty="dict"):tyV K Ty v H:=by
 cases d with
 |non=>cases e;rcases h with h|h|h|h<;>exact absurd h (by decide)
 |bl b=>cases e;rcases h with h|h|h|h<;>exact absurd h (by decide)
 |int i=>cases r;cases e;rfl
 |str x=>cases r;cases e;rfl
 |tup xs=>cases e;rcases h with h|h|h|h<;>exact absurd h (by decide)
 |lst xs=>
  cases e;obtain⟨p,u,rfl,y,r⟩:=r;exact .inl ⟨rfl,u,y.sq⟩
 |ref a=>
  cases r;simp only[eI]at e
  split at e
  .rename_i q;cases e;obtain⟨c,j,s⟩:=m _ _ q;exact .inl ⟨rfl,c,SqL.of j⟩
  .rename_i q;cases e;obtain⟨c,j,s⟩:=m _ _ q;exact .inr (.inr<|.inl ⟨rfl,.inl ⟨c,j⟩⟩)
  .rename_i q;cases e;obtain⟨c,j,s⟩:=m _ _ q;exact .inr (.inr<|.inl ⟨rfl,.inr ⟨c,j⟩⟩)
  .cases e
 |_=>cases e
theorem OM{r:Bh}(R:Ty="list"\/Ty="str"\/Ty="int"\/Ty="dict")(J:Xh Ty)(i:XV Ty name id)(m:Xv (.builtin id)=pure (.type "method_descriptor"))(I:wc X id (liftM X r))(L:DE X B o to)(O:DA X B (e::es) t)(c:ol o name X.env (g3 o X.env)=g3 o X.env:=by rfl)(hfew:((j0 Yq<|starEach (e::es) X.env).all (λx=>!x.1)&&(z5 Yq<|keywordEach [] X.env).all (λx=>x.1.isSome)
   && decide ((e::es).length+([]:List z0).length+(if ([]:List z0).isEmpty then 0 else 1)<30))=true:=by rfl)(hline:(Yr.endLine==Yq.line)=true:=by rfl)(hs:ff (e::es) X.env=(eC,g3 e X.env)::ff es X.env:=by rfl)(hplain:(j0 Yq<|starEach es X.env).any (·.1)=false:=by rfl):
  DE X B (.Call (.Attribute o name Yr) (e::es) [] Yq) (nN Ty r to t):=by
 refine a_ (Op J i m I L O c hfew hline hs hplain) ?_
 rintro Z H Q ⟨U,M,QQ,s,h,u⟩
 refine⟨U,M,_,s,h,λx M1 q v H1 b i1 y=>⟨Di b y q.1 R,U,M1,_,s.go b i1,q.2,λG M2 A S H2 j z F=>?_⟩⟩;exact⟨x,G,M2,QQ,j,y.mf b z,F,A,u.go<|i1.trans z⟩
theorem LV{r:Bh}(G:Ty="list"\/Ty="str"\/Ty="int"\/Ty="dict")(A:Xh Ty)(i:XV Ty name id)(j:Xv (.builtin id)=pure (.type "method_descriptor"))(z:wc X id (liftM X r))(F:DE X B o to)(b:ol o name X.env (g3 o X.env)=g3 o X.env:=by rfl)(hline:(Yr.endLine==Yq.line)=true:=by rfl):DE X B (.Call (.Attribute o name Yr) [] [] Yq) (nN Ty r to af):=by
 refine a_ (KS A i j z F b hline) ?_
 rintro Z H Q ⟨U,M,QQ,s,h,u⟩
 refine⟨U,M,_,s,h,λx M1 m v H1 c y q=>⟨Di c q m.1 G,?_⟩⟩;exact⟨x,[],M1,QQ,c,q,.nil,m.2,u.go y⟩
def ca:Bh:=λx b M Q=>match x,b with
 |.ref a,[y]=>match M a with
  |some (.lst xs)=>xs.length<sizeLine/\Q .non (M.upd a<|.lst (xs++[y]))
  |_=>False
 |_,_=>False
theorem vc:wc X "list.append" (liftM X ca):=by
 intro Ym s Z H x vs v us Q I rx rv h;obtain⟨d,ds,M,QQ,rh,r,rs,h,up⟩:=h;unfold ca at h
 split at h
 .rename_i a y
  cases r;obtain⟨w,rfl,rw'⟩:=gP (ds:=[]) rs
  split at h
  .rename_i xs hM
   obtain⟨ws,h1,h2⟩:=rh _ _ hM;have im:Imm H (upd H a<|.lst (ws++[w])):=Imm.upd (by rw[h1];trivial)
   exact Av Ym s Z H _ _ v us Q I rx rv ⟨a,ws,w,rfl,rfl,h1,by rw[<- h2.length];exact h.1,up _ _ h.2 _ _ (rh.put (by rw[h1];trivial) ⟨_,upd_same,(h2.append<|.cons rw' .nil).mono im⟩) (Frm.put<|.inr ⟨_,hM⟩) rfl⟩
  .exact h.elim
 .exact h.elim
def A_:Bh:=λx b M Q=>match x,b with
 |.ref a,[]=>match M a with
  |some (.lst xs)=>match xs[xs.length-1]? with
   |some y=>Q y (M.upd a<|.lst xs.dropLast)
   |none=>False
  |_=>False
 |.ref a,[.int i]=>match M a with
  |some (.lst xs)=>match rA xs.length i with
   |some k=>match xs[k]? with
    |some y=>Q y (M.upd a<|.lst<|xs.eraseIdx k)
    |none=>False
   |none=>False
  |_=>False
 |_,_=>False
theorem Aj:wc X "list.pop" (liftM X A_):=by
 intro Ym s Z H x vs v us Q I rx rv h;obtain⟨d,ds,M,QQ,rh,r,rs,h,up⟩:=h;unfold A_ at h
 split at h
 .rename_i a
  cases r;cases rs
  split at h
  .rename_i xs hM
   split at h
   .rename_i y ey
    obtain⟨ws,h1,h2⟩:=rh _ _ hM;obtain⟨w,hw,rw'⟩:=h2.get ey;have im:Imm H (upd H a<|.lst ws.dropLast):=Imm.upd (by rw[h1];trivial)
    exact Lz Ym s Z H _ _ v us Q I rx rv ⟨a,ws,w,rfl,rfl,h1,by rw[<- h2.length];exact hw,up _ _ h _ _ (rh.put (by rw[h1];trivial) ⟨_,upd_same,h2.dropLast.mono im⟩) (Frm.put<|.inr ⟨_,hM⟩)<|rw'.mono im⟩
   .exact h.elim
  .exact h.elim
 .rename_i a i
  cases r;obtain⟨w0,rfl,rw0⟩:=gP (ds:=[]) rs;cases rw0
  split at h
  .rename_i xs hM
   split at h
   .rename_i k ek
    split at h
    .rename_i y ey
     obtain⟨ws,h1,h2⟩:=rh _ _ hM;obtain⟨w,hw,rw'⟩:=h2.get ey;obtain⟨j1,j2,j3,j4⟩:=qI ek;have hz:ws.length<=sizeLine:=(I.lstM h1).1;have hs:sizeLine=16777216:=rfl;have hl:=h2.length;have im:Imm H (upd H a<|.lst<|ws.eraseIdx k):=Imm.upd (by rw[h1];trivial)
     exact F2 Ym s Z H _ _ v us Q I rx rv ⟨a,ws,i,k,w,rfl,rfl,h1,by lia,by lia,by rw[<- hl];exact j1,hw,up _ _ h _ _ (rh.put (by rw[h1];trivial) ⟨_,upd_same,(h2.eraseIdx k).mono im⟩) (Frm.put<|.inr ⟨_,hM⟩)<|rw'.mono im⟩
    .exact h.elim
   .exact h.elim
  .exact h.elim
 .exact h.elim
def jJ:List D->Option (List Str)
 |[]=>ap []
 |.str x::ds=>match jJ ds with
  |some xs=>ap (x::xs)
  |none=>cm
 |_=>cm
theorem r_:∀{ds:List D}{vs:List V}{xs:Yv},Rps K H ds vs->jJ ds=ap xs->vs=xs.map V.str
 |[],vs,xs,r,e=>by cases e;exact r
 |d::ds,vs,xs,r,e=>by
  obtain⟨v,j,rfl,a,b⟩:=r;cases d with
  |str c=>
   simp only[jJ]at e
   split at e
   .rename_i i h
    cases e;cases a;rw[r_ b h];rfl
   .cases e
  |_=>cases e
def mi:Bh:=λx b M Q=>match x,b with
 |.tup xs,[.str z]=>match jJ xs with
  |some names=>names.length<=1000/\match names.findIdx? (λy=>decide (y=z)) with
   |some j=>Q (.int (j:Nat)) M
   |none=>False
  |none=>False
 |_,_=>False
theorem vY:wc X "tuple.index" (liftM X mi):=by
 intro c s Z H x vs v W Q I S y h;obtain⟨d,ds,M,QQ,R,r,Y,h,L⟩:=h;unfold mi at h
 split at h
 .rename_i xs z
  obtain⟨p,ws,rfl,O,r⟩:=r;obtain⟨w,rfl,i⟩:=gP (ds:=[]) Y;cases i
  split at h
  .rename_i b en
   obtain⟨A,h⟩:=h
   split at h
   .rename_i j q
    have:=r_ r en;subst this;rw[List.findIdx?_eq_some_iff_getElem]at q;obtain⟨F,G,u⟩:=q;refine Bb c s Z H _ _ v W Q I S y ⟨p,b,z,j,rfl,rfl,O,A,?_,λm J=>?_,L _ M h _ H R Frm.refl rfl⟩
    .rw[PV F];simpa using G
    .have:=u m J
     rw[PV (by lia)]
     simpa using this
   .exact h.elim
  .exact h.elim
 .exact h.elim
def Nw(r:Bh)(to:bu)(t:fC):bu:=λU M Q=>to U M λx M1=>match x with
 |.tup xs=>t U M1 λb M2=>r (.tup xs) b M2 Q
 |_=>False
theorem Ov{r:Bh}(i:XV "tuple" name id)(q:Xv (.builtin id)=pure (.type "method_descriptor"))(O:wc X id (liftM X r))(R:DE X B o to)(S:DA X B (e::es) t)(b:ol o name X.env (g3 o X.env)=g3 o X.env:=by rfl)(hfew:((j0 Yq<|starEach (e::es) X.env).all (λx=>!x.1)&&(z5 Yq<|keywordEach [] X.env).all (λx=>x.1.isSome)
   && decide ((e::es).length+([]:List z0).length+(if ([]:List z0).isEmpty then 0 else 1)<30))=true:=by rfl)(hline:(Yr.endLine==Yq.line)=true:=by rfl)(hs:ff (e::es) X.env=(eC,g3 e X.env)::ff es X.env:=by rfl)(hplain:(j0 Yq<|starEach es X.env).any (·.1)=false:=by rfl):
  DE X B (.Call (.Attribute o name Yr) (e::es) [] Yq) (Nw r to t):=by
 refine a_ (Nx i q O R S b hfew hline hs hplain) ?_
 rintro Z H Q ⟨U,M,QQ,s,h,u⟩
 refine⟨U,M,_,s,h,λx M1 y v H1 c i1 z=>?_⟩;cases x with
 |tup xs=>
  have m:=z;obtain⟨p,A,rfl,L,W⟩:=m;refine⟨⟨p,A,rfl,L⟩,U,M1,_,s.go c i1,y,λJ M2 G A H2 j F I=>?_⟩;exact⟨_,J,M2,QQ,j,z.mf c F,I,G,u.go<|i1.trans F⟩
 |_=>exact(show False from y).elim
def CB(ks:List aG)(ys:List D):List (aG×D):=(ks.zip ys).foldl (λa p=>eG a p.1 p.2) []
theorem uk:∀{ks:List aG}{ds:List D}{vs:List V}{a:List (aG×D)}{b:List (aG×V)},Rps K H ds vs->Rkv K H a b->
  Rkv K H ((ks.zip ds).foldl (λa p=>eG a p.1 p.2) a) ((ks.zip vs).foldl (λa p=>cW a p.1 p.2) b)
 |[],_,_,_,_,_,r=>r
 |_::_,[],_,_,_,h,r=>by cases h;exact r
 |k::ks,d::ds,_,_,_,h,r=>by
  obtain⟨v,vs,rfl,a,b⟩:=h;exact uk (ks:=ks) b (r.put k a)
def f_(t:fC):bu:=λU M Q=>t U M λb M1=>match b with
 |[.tup xs,.tup ys]=>match ia xs with
  |some ks=>ks.length=ys.length/\0<ks.length/\ks.length<=1000/\∀p,M1 p=cm->Q (.ref p) (M1.upd p<|.dK<|CB ks ys)
  |none=>False
 |_=>False
theorem vG{b:gl}{p2 pos2:Pos}(hc:X.calm=true)(hg:Gl X "zip")(hm:X.mg "zip"=cm)(hg2:Gl X "dict")(hm2:X.mg "dict"=cm)(ha:DA X B [a,b] ta)(hs:ff [a,b] X.env=[(eC,g3 a X.env),(eC,g3 b X.env)]:=by rfl)(hs2:ff [b] X.env=[(eC,g3 b X.env)]:=by rfl)(hs3:ff [Vm (.Name "zip" p2) [a,b] [] pos2] X.env=[(eC,g3 (.Call (.Name "zip" p2) [a,b] [] pos2) X.env)]:=by rfl):
  DE X B (.Call (.Name "dict" p) [.Call (.Name "zip" p2) [a,b] [] pos2] [] pos) (f_ ta):=by
 refine a_ (vT eC eC hc hg hm hg2 hm2 ha hs hs2 hs3) ?_
 rintro Z H Q ⟨U,M,QQ,s,h,u⟩
 refine⟨U,M,_,s,h,λds M1 h1 vs H1 rh1 i1 r1=>?_⟩
 split at h1
 .obtain⟨v,w,rfl,rv,rw'⟩:=Fq r1
  obtain⟨l1,us,rfl,t1,ru⟩:=rv;obtain⟨l2,ws,rfl,t2,rw2⟩:=rw'
  split at h1
  .rename_i ks ek
   obtain⟨e1,e2,e3,h1⟩:=h1;have hk:=nj ru ek;subst hk;refine⟨l1,l2,ks,ws,rfl,t1.sq,t2.sq,by rw[<- rw2.length];exact e1,e2,e3,λd hd=>?_⟩
   have im:Imm H1 (upd H1 d<|.dK<|(ks.zip ws).foldl (λa p=>cW a p.1 p.2) []):=Imm.new hd;exact u _ _ (h1 d<|rh1.fresh hd) _ _ (rh1.put (by rw[hd];trivial) ⟨_,upd_same,(uk rw2 .nil).mono im⟩) (i1.trans<|Frm.put<|.inl hd) rfl
  .exact h1.elim
 .exact h1.elim
end
section
variable{cd:ay}{A:kc}{outer:List Env}{s0:el}{H0:Hp}
theorem HQ{t:TS}{E':YA}(h:PS X st t)(k:∀e s,X.xe e s->E' e s):PS (X.wish E') st t:=λc s Z H D I q=>
 n7 (h c s Z H D (I.unwish) q) (λf i z=>by
  cases f with
  |next=>obtain⟨b,H',I,q⟩:=z;exact⟨b,H',I.wish _,q⟩
  |brk=>obtain⟨b,H',I,q⟩:=z;exact⟨b,H',I.wish _,q⟩
  |cont=>obtain⟨b,H',I,q⟩:=z;exact⟨b,H',I.wish _,q⟩
  |ret u=>obtain⟨v,b,H',I,r,q⟩:=z;exact⟨v,b,H',I.wish _,r,q⟩) k
def jw(C:eg)(EE:DX):av:=λ_ _ M=>EE C M
theorem Dx{b:Str}{c Yq:Pos}{jj}(X:ExcAt K C)(m:mg x=ap (.ref C))(ux:um K B EE E)(o:Gl (dN (oq P w) P w K mg base N Yn scope f cd A outer s0 H0 E) x)(q:(x==("__debug__":Str))=false:=by decide)(hs:ff [.Constant (.str b) jj Yr] (dN (oq P w) P w K mg base N Yn scope f cd A outer s0 H0 E).env=[(eC,g3 (.Constant (.str b) jj Yr) (dN (oq P w) P w K mg base N Yn scope f cd A outer s0 H0 E).env)]:=by rfl):
  DS (dN (oq P w) P w K mg base N Yn scope f cd A outer s0 H0 E) B (.Raise (ap<|.Call (.Name x c) [.Constant (.str b) jj Yr] [] Yq) cm pos) (jw C EE):=by
 have i:PS (dN (ut P w C) P w K mg base N Yn scope f cd A outer s0 H0 E) (.Raise (ap<|.Call (.Name x c) [.Constant (.str b) jj Yr] [] Yq) cm pos) (uH E C):=EW X m o q hs;have j:PS (dN (oq P w) P w K mg base N Yn scope f cd A outer s0 H0 E) (.Raise (ap<|.Call (.Name x c) [.Constant (.str b) jj Yr] [] Yq) cm pos) (uH E C):=
  HQ i λe s h=>n7 h (λ_ _ z=>⟨C,z⟩) λ_ _ z=>⟨C,z⟩
 refine bL j ?_
 rintro D Z H ⟨U,M,DD,s,h,u⟩
 exact ux C M h H s.rh s.i0
end
section
def LD(C:eg)(T:Sd)(n:Nat)(ta:fC)(ts:av):av:=λD U M=>ta U M λb M1=>b.length=n/\calls T (λC' M2=>C'=C/\ts D U M2) b M1 (λ_ M2=>D.nx U M2) ⟨⟩
theorem SR.mark{e:ay}(s:SR X B U M Z H):SR (X.marked e) B U M Z H:=⟨s.i0,s.rh,s.rs⟩
theorem SR.unmark{e:ay}(s:SR (X.marked e) B U M Z H):SR X B U M Z H:=⟨s.i0,s.rh,s.rs⟩
theorem UpD.mark{DD:DEnds}{D:Ends}{e:ay}(u:UpD X B M H DD D):UpD (X.marked e) B M H DD D:=
 ⟨λU M q Z H' f s=>u.nx U M q Z H' f s.unmark,u.rt,λU M q Z H' f s=>u.bk U M q Z H' f s.unmark,λU M q Z H' f s=>u.ct U M q Z H' f s.unmark⟩
theorem FY{k:Nat}{sp:Sp}(F:FnOk P w K mg base (oq P w) k f fd ps sp):
  FnOk P w K mg base (ut P w C) k f fd ps (λvs H Q E=>sp vs H Q λCv a H'=>Cv=.ref C/\E Cv a H'):=
 ⟨λvs H Q E h=>F.len _ _ _ _ h,λA b s H c z vs Q E o Y O L v=>TW (F.run A b s H c z vs Q _ o Y O L v) λr s' h=>by
  cases r with
  |ok fl=>cases fl<;>exact h
  |error e=>
   obtain⟨C',G,H',B,a0,I,j,u,W,R,y,m,S,q,i⟩:=h;have J:C'=C:=by injection q
   subst J;exact⟨G,H',B,a0,I,j,u,W,R,y,m,S,i⟩⟩
theorem uu{k:Nat}{z:Str}{R ep np q:Pos}{c:rz}{b:Yz}{O:av}(S:X.stack=X.env::X.outer)(Y:X.env.frame=ap X.env.locals)(F:FnOk X.prog X.w X.K X.mg X.base (oq X.prog X.w) k f fd ps (bO X.K n T))(hr:Room k X.A)(hg:Gl X x)(hm:X.mg x=ap (.ref f))(hk:Rj X.K (.ref f)=true)(hb:Binds X.K fd ps [])(ha:DA X.nox B (e::es) ta)(EX:ExcAt X.K C)(L:Gl X z)(W:X.mg z=ap (.ref C))(I:∀y:eg,yd (X.marked<|.ref y) B (c::b) O)(J:(x==("__debug__":Str))=false:=by decide)(hdC:(z==("__debug__":Str))=false:=by decide)(he:ff (e::es) X.env=(eC,g3 e X.env)::ff es X.env:=by rfl)(hpl:(j0 R<|starEach es X.env).any (·.1)=false:=by rfl)(hsw:vr (.Call (.Name x p) (e::es) [] R) cm ep.line X.env=pure false:=by rfl):
  DS X B (.Try [.Expr (.Call (.Name x p) (e::es) [] R) ep] [.ExceptHandler (ap<|.Name z np) cm (c::b) q] [] [] pos) (LD C T n ta O):=by
 have j:∀y:eg,yi (X.marked<|.ref y) (c::b) (liftS X B O):=λy=>mM (I y) λD Z H ⟨U,M,DD,s,h,u⟩=>⟨U,M,DD,s.mark,h,u.mark⟩;refine bL (vf (C:=C) S Y (FY F) hr hg hm hk hb .nil ha EX L W j J hdC he hpl hsw) ?_
 rintro D Z H ⟨U,M,DD,s,h,up⟩
 refine⟨U,M,_,⟨s.i0,s.rh,s.rs⟩,h,λds M1 h1 vs H1 G i1 r1=>?_⟩
 try dsimp only
 rw[QO];refine dQ h1.2 G r1 (by rw[<- r1.length];exact h1.1) (λd M2 m v H2 i o r2=>?_) λC' M2 m H2 i o=>?_
 .exact up.nx _ _ m Z H2 (i1.trans o) (s.go i<|i1.trans o)
 .obtain⟨rfl,m⟩:=m
  exact⟨rfl,U,M2,DD,s.go i (i1.trans o),m,up.go<|i1.trans o⟩
end
end L3
namespace L2
open PySem PySem.Spec PyProof.Rows
theorem cJ{scope:SB}{env:Env}{x:Str}{k:Xp}(h:(TD scope env).names.lookup x=ap k):∃e,(x,e)∈scope.names/\(k=e\/(e=.free/\k=.cell)):=by
 have i:=QS h;obtain⟨⟨n,b⟩,f,g⟩:=Qv.mp i
 by_cases c:(b==NameKind.free&&env.scope.kind==.function&&env.kindOf n==ap .cell)=true
 .have a:(n,Sz)=(x,k):=by rw[<- g];show _=(if _ then _ else _);rw[if_pos c]
  cases a;have j:b=.free:=by
   simp only[Q9]at c;exact beq_iff_eq.mp c.1.1
  exact⟨b,f,.inr ⟨j,rfl⟩⟩
 .have a:(n,b)=(x,k):=by rw[<- g];show _=(if _ then _ else _);rw[if_neg c]
  cases a;exact⟨_,f,.inl rfl⟩
theorem fM{x:Str}:∀{fs:Yv}{a:Yx},fs.length=a.length->x∈fs->∃c,(fs.zip a).lookup x=ap c
 |[],_,_,h=>by cases h
 |_::_,[],h,_=>by simp at h
 |y::fs,c::a,hl,h=>by
  rw[V6,Sb];cases e:x==y with
  |true=>exact⟨c,rfl⟩
  |false=>
   have ne:¬x=y:=λz=>by rw[z]at e;simp at e
   rcases Ql.mp h with z|z
   .exact absurd z ne
   .exact fM (by simpa using hl) z
theorem G1{X:Cx}{a:SB}{ls fs:Yv}{g:Yx}{m:List Nat}(q:a.kind=.function)(f:∀y∈a.names,y.2≠.cell/\(y.2=.free->y.1∈fs))(s:∀x∈a.names,x.2=.local->a.names.lookup x.1=ap .local)
  (e:fs.length=g.length) (j:T0 a X.env=pure (fs.zip g)) (u:∀p∈fs.zip g,X.env.cells.lookup p.1=ap p.2) (o:Frees X a fs m):CompOk X a (fs.zip g) ls fs m where
 kind:=q
 nocell:=λy i=>(f y i).1
 locs:=s
 clos:=j
 cells:=λy d h=>u (y,d) (QS h)
 has:=λy h=>by
  have i:y∈fs:=by
   rcases h with h|h
   .obtain⟨n,c,b|⟨b,_⟩⟩:=cJ h
    .exact absurd b.symm (f _ c).1
    .exact(f _ c).2 b
   .obtain⟨n,c,b|⟨b,_⟩⟩:=cJ h
    .exact(f _ c).2 b.symm
    .exact(f _ c).2 b
  exact fM e i
 frees:=o
theorem memZ{α:Type}{C:α->Prop}:∀p∈([]:List α),C p:=λ_ h=>by cases h
theorem memC{α:Type}{C:α->Prop}{a:α}{l:List α}(c:C a)(e:∀p∈l,C p):∀p∈a::l,C p:=λp b=>by
 rcases Ql.mp b with rfl|z
 .exact c
 .exact e p z
end L2
namespace L3
open PySem L2
variable{K:PY}
section
variable{X:Cx}{B:Bd}{pos:Pos}
theorem dnm(i:Nat){x:Str}{pos:Pos}(a:X.N[i]?=ap x:=by rfl)(hv:Kt X.env.scope x:=by first|exact Or.inl rfl|exact Or.inr (Or.inl rfl)|exact Or.inr (Or.inr rfl))(hd:(x==("__debug__":Str))=false:=by decide)(hcd:(x==("__classdict__":Str))=false:=by decide):DE X B (.Name x pos) (ac i):=LA a hv hd hcd
def jf:DX:=λ_ _=>False
theorem uxN{E:XK}:um K B jf E:=λ_ _ z=>z.elim
theorem tD:gp "list"=ap (.type "list"):=by decide +kernel
theorem Aq:gp "tuple"=ap (.type "tuple"):=by decide +kernel
theorem mG:gp "isinstance"=ap (.builtin "isinstance"):=by decide +kernel
theorem Ib:gp "str"=ap (.type "str"):=by decide +kernel
theorem tT:gp "dict"=ap (.type "dict"):=by decide +kernel
theorem Gg:gp "min"=ap (.builtin "min"):=by decide +kernel
theorem Gx:gp "max"=ap (.builtin "max"):=by decide +kernel
theorem HK:gp "len"=ap (.builtin "len"):=by decide +kernel
theorem Pq{x:Str}{T:String}(b:Gl X x)(e:X.mg x=cm)(a:gp x=ap (.type T))(c:x≠"__name__":=by decide)(hd:(x==("__debug__":Str))=false:=by decide):DE X B (.Name x pos) (dC<|.ty T):=
 E1 (HN (v:=.ty T) b e a rfl c hd) λ_=>rfl
def uK(t:bu):bu:=λU M Q=>t U M λx M1=>match x with
 |.int i=>Q (.int (-i)) M1
 |_=>False
theorem Mc{a:gl}{b:bu}(e:DE X B a b):DE X B (.UnaryOp .USub a pos) (uK b):=by
 refine a_ (Ox Mn e) ?_
 rintro Z H Q ⟨U,M,QQ,s,h,u⟩
 refine⟨U,M,_,s,h,λd M' q v H' c i r=>?_⟩;cases d with
 |int j=>exact⟨j,r,u _ M' q _ H' c i rfl⟩
 |_=>exact(show False from q).elim
def frzs:List D->Mem->(List D->Mem->Prop)->Prop
 |[],M,Q=>Q [] M
 |d::ds,M,Q=>match d with
  |.ref a=>match M a with
   |some (.lst xs)=>frzs ds (M.del a) λb M'=>Q (.lst xs::b) M'
   |_=>frzs ds M λb M'=>Q (d::b) M'
  |_=>frzs ds M λb M'=>Q (d::b) M'
theorem io{Ym:YB}{Z:L2.St}{s:el}:∀{ds:List D}{vs:List V}{M:Mem}{H:Hp}{Q:List D->Mem->Prop},Inv X Ym Z H s->RepH X.K H M->Rps X.K H ds vs->frzs ds M Q->
  ∃H' es M',Inv X Ym Z H' s/\RepH X.K H' M'/\Frm M H M' H'/\Rps X.K H' es vs/\Q es M'
 |[],vs,M,H,Q,I,rh,r,h=>⟨H,[],M,I,rh,Frm.refl,r,h⟩
 |d::ds,vs,M,H,Q,I,rh,r,h=>by
  obtain⟨v,vs',rfl,a,b⟩:=r;unfold frzs at h
  split at h
  .rename_i a'
   cases a
   split at h
   .rename_i xs e
    obtain⟨ws,h1,h2⟩:=rh _ _ e;obtain⟨o,I2⟩:=Inv.freeze I h1;have im:Imm H (upd H a'<|.frz o<|.lst ws):=Imm.upd (by rw[h1];trivial)
    obtain⟨H',es,M',I',rh',f,r',q⟩:=io I2 (rh.freeze h1) (b.mono im) h;refine⟨H',_,M',I',rh',(Frm.del ⟨_,e⟩).trans f,.cons ?_ r',q⟩;have z:Rp X.K (upd H a'<|.frz o<|.lst ws) (.lst xs) (.ref a'):=⟨a',ws,rfl,⟨o,upd_same⟩,h2.mono im⟩;exact z.mf (rh.freeze h1) f
   .obtain⟨H',es,M',I',rh',f,r',q⟩:=io I rh b h
    exact⟨H',_,M',I',rh',f,.cons (d:=.ref a') rfl r',q⟩
  .obtain⟨H',es,M',I',rh',f,r',q⟩:=io I rh b h
   exact⟨H',_,M',I',rh',f,.cons (a.mf rh f) r',q⟩
def vd(d:D)(M:Mem)(Q:DK):Prop:=match d with
 |.tup ds=>frzs ds M λa M'=>Q (.tup a) M'
 |d=>Q d M
def oa(t:bu):bu:=λU M Q=>t U M λd M'=>vd d M' Q
theorem FW{e:gl}{te:bu}(h:DE X B e te):DE X B e (oa te):=by
 intro a s Z H Q I x;obtain⟨U,M,QQ,j,y,u⟩:=x;refine bp (h a s Z H (λv H'=>∃d M',RepH X.K H' M'/\Frm M H M' H'/\Rp X.K H' d v/\vd d M' QQ) I ⟨U,M,_,j,y,λd M' q v H' b i r=>⟨d,M',b,i,r,q⟩⟩) ?_
 rintro w A ⟨v,H',I',f,d,M',b,i,r,q⟩
 unfold vd at q
 split at q
 .obtain⟨p,n,rfl,z,r⟩:=r
  obtain⟨H2,C,M2,I2,c,g,o,m⟩:=io I' b r q;exact⟨.ref p,H2,I2,f,u _ _ m _ H2 c (i.trans g) ⟨p,n,rfl,z.mono (g.imm b),o⟩⟩
 .exact⟨v,H',I',f,u _ _ q v H' b i r⟩
theorem Lw{P:fy}{w:g4}{g:YC}{a:hI}{k n:Nat}{f:eg}{fd:g5}{ps:Yv}{T:Sd}(F:FnOk P w K g a (oq P w) k f fd ps (bO K n T)):
  FnOk P w K g a CX0 k f fd ps (λvs H Q _=>bO K n T vs H Q E0):=
 ⟨λvs H Q E h=>F.len _ _ _ _ h,λA b s H c o vs Q E i u q p m=>TW (F.run A b s H c o vs Q E0 i u q p m) λr C h=>by
  cases r with
  |ok fl=>cases fl<;>exact h
  |error e=>
   obtain⟨C',G,H',B,N,I,v,y,M,J,z,x,L,j⟩:=h;exact(show False from j).elim⟩
theorem G2{T:Sd}{H:Hp}{a:eg}{c:Yu}{Q:VK}(g:EC H)(i:SqL K H a (c.map V.int))(h:T [.ml (c.map D.int)] (λ_=>cm) (λd _=>d=.bl true) jf)(k:∀H',Q (.bl true) H'):bO K 1 T [.ref a] H Q E0:=by
 refine⟨rfl,[.ml (c.map D.int)],λ_=>cm,_,_,λb o e=>(by cases e),.cons ⟨a,_,rfl,?_,uj rfl⟩ .nil,h,λd M' q v H' j f r=>?_,λ_ _ z=>z.elim⟩
 .rcases i with (z|z)|z
  .rcases g a with e|⟨o,xs,e⟩
   .rw[e]at z;cases z
   .rw[e]at z;cases z
  .exact .inl z
  .exact .inr z
 .subst q;cases r;exact k H'
end
theorem k9{h h':hI}{N:eg}(X:K.In h)(X':K.In h')(e:W.nsOkIn K N=true):h'.nsMap N=h.nsMap N:=by
 unfold W.nsOkIn at e
 split at e
 .rename_i a
  funext x;unfold Heap.nsMap;rw[X _ _ a,X' _ _ a]
 .cases e
theorem ib{h:hI}{C:eg}(X:K.In h)(q:VX K C [.type "ValueError",.type "Exception",.type "BaseException",.type "object"] "ValueError.__new__"=true):ExcAt K C:=by
 unfold VX at q
 split at q
 .rename_i I G g y
  split at q
  .rename_i C' z o w p i n s u m
   simp only[Q9,beq_iff_eq,Bool.not_eq_true']at q;obtain⟨⟨⟨⟨⟨rfl,rfl⟩,b⟩,v⟩,a⟩,c⟩:=q;obtain⟨nm,bs,B,j,H,E,x,sub,A,e,del⟩:=G;dsimp only at u b a c;subst u b;have f:g=#[o,w,p,i,ap (.builtin "ValueError.__new__"),s]:=by
    obtain⟨l⟩:=g;simp only at m;rw[m]
   subst f;refine⟨⟨nm,H,j,bs,z,_,E,x,sub,A,e,I,o,w,p,i,s,"ValueError.__new__","ValueError.__init__","ValueError",h.nsMap j,λJ X'=>⟨X' _ _ y,?_,W.tail_of_in X' v⟩,W.nsMap_none_of_in X a c,PySem.F.excBase_ValueError,by decide,(W.tail_of_in X v).hasType<|by decide⟩⟩
   rw[<- k9 X X' a];exact .of_isNs (W.isNs_of_in X' a)
  .cases q
 .cases q
end L3
namespace L2
open PySem
theorem Gf{b:gl}{a:List Comprehension}{scope:SB}{pos f:Pos}{x:Str}{line:Nat}{env:Env}(g:env.blockKind=.function)(i:env.scope.names.lookup x=ap .local)(j:f.line=pos.line)
  (h:(scope.names.any λ(n,k)=>n==x&&(k==.local||k==.cell))=eC):vr (.ListComp b a scope pos) (ap<|.Name x f) line env=pure true:=by
 have e:(Expr.ListComp b a scope pos).pos=pos:=rfl;have c:env.kindOf x=ap .local:=i;unfold vr
 try dsimp only
 rw[g,c,e,j,h];simp
end L2
namespace L3
open PySem L2
variable{B:Bd}{X:Cx}{es:Yy}
def EO:gl->Bool
 |.Starred ..=>eC
 |_=>true
theorem Bn{e:gl}{env:Env}(h:EO e=true):ff (e::es) env=(eC,g3 e env)::ff es env:=by
 cases e<;>first|rfl|exact Bool.noConfusion h
section
theorem da_c{e:gl}{te:bu}{t:fC}(a:DE X B e te)(c:DA X B es t)(b:EO e=true:=by rfl):DA X B (e::es) (aa te t):=G7 a c (Bn b)
end
section
end
section
def uS(n:Nat)(t:nX):jB:=λd U M Q=>match d with
 |.lst xs=>xs.length=n/\t xs U M Q
 |.ref a=>match M a with
  |some (.lst xs)=>xs.length=n/\t xs U M Q
  |_=>False
 |_=>False
theorem MP{k:Nat}{t:nX}{n:Nat}{pos:Pos}(C:X.calm=true)(h:Nv X B es t)(A:(ra es X.env).length=n:=by rfl)(hst:(ra es X.env).findIdx? (·.1)=none:=by rfl):DG X B (.Tuple es k pos) (uS n t):=by
 intro a s Z H v u Q I r K;obtain⟨d,U,M,QQ,m,y,hd,z⟩:=K;cases d with
 |lst w=>
  obtain⟨p,q,rfl,F,i⟩:=y;obtain⟨E,hd⟩:=hd;cases r;obtain⟨g,c,pl,G⟩:=I.list F.sq;have f:(ra es X.env).length=g.toArray.size:=by have:=c.length;have:=i.length;simp[A];lia
  rw[Ug];refine ax (Uf ?_);unfold unpack;rw[f,hst];refine ax (pa (W.kun_itemsOf (I.ok.hd C) pl.isList λx j=>?_));have I1:Inv X a Z H { s with heap:=x }:=I.kept (t':=s.toks) λb o e=>j b o (Qk<|Qb e) e;exact h a _ Z H q _ Q I1 (by simpa using c) ⟨w,U,M,QQ,m,i,hd,z⟩
 |ref p=>
  cases y;simp only[uS]at hd
  split at hd
  .rename_i w e
   obtain⟨q,J,i⟩:=m.rh _ _ e;obtain⟨E,hd⟩:=hd;cases r;obtain⟨g,c,pl,G⟩:=I.list (SqL.of J);have f:(ra es X.env).length=g.toArray.size:=by have:=c.length;have:=i.length;simp[A];lia
   rw[Ug];refine ax (Uf ?_);unfold unpack;rw[f,hst];refine ax (pa (W.kun_itemsOf (I.ok.hd C) pl.isList λx j=>?_));have I1:Inv X a Z H { s with heap:=x }:=I.kept (t':=s.toks) λb o e=>j b o (Qk<|Qb e) e;exact h a _ Z H q _ Q I1 (by simpa using c) ⟨w,U,M,QQ,m,i,hd,z⟩
  .exact hd.elim
 |_=>exact(show False from hd).elim
end
mutual
def dm:D->PyData
 |.non=>.none
 |.bl b=>.bool b
 |.int i=>.int i
 |.str x=>.str x
 |.tup xs=>.tuple (fD xs)
 |.lst xs=>.list (fD xs)
 |_=>.none
def fD:List D->List PyData
 |[]=>[]
 |x::xs=>dm x::fD xs
end
mutual
theorem uY:∀d:D,(dm d).hasDict=eC
 |.non=>by simp only[dm,Ra]
 |.bl _=>by simp only[dm,Ra]
 |.int _=>by simp only[dm,Ra]
 |.str _=>by simp only[dm,Ra]
 |.tup xs=>by simp only[dm,Ra];exact qE xs
 |.lst xs=>by simp only[dm,Ra];exact qE xs
 |.ty _=>by simp only[dm,Ra]
 |.ref _=>by simp only[dm,Ra]
 |.mt _=>by simp only[dm,Ra]
 |.ml _=>by simp only[dm,Ra]
 |.fd _ _=>by simp only[dm,Ra]
theorem qE:∀xs:List D,T8 (fD xs)=eC
 |[]=>by simp only[fD,T8]
 |x::xs=>by simp only[fD,T8,uY x,qE xs,Bool.or_self]
end
mutual
theorem tG:∀(n:Nat)(d:D),bn n d=true->(dm d).depth<=n
 |_,.non,_=>by simp[dm,SV]
 |_,.bl _,_=>by simp[dm,SV]
 |_,.int _,_=>by simp[dm,SV]
 |_,.str _,_=>by simp[dm,SV]
 |n+1,.tup xs,f=>by have:=jL n xs f;simp only[dm,SV];lia
 |n+1,.lst xs,f=>by have:=jL n xs f;simp only[dm,SV];lia
 |0,.tup _,f=>by simp[bn]at f
 |0,.lst _,f=>by simp[bn]at f
 |_,.ty _,f=>by simp[bn]at f
 |_,.ref _,f=>by simp[bn]at f
 |_,.mt _,f=>by simp[bn]at f
 |_,.ml _,f=>by simp[bn]at f
 |_,.fd _ _,f=>by simp[bn]at f
theorem jL:∀(n:Nat)(xs:List D),bv n xs=true->Uy (fD xs)<=n
 |_,[],_=>by simp[fD,Uy]
 |n,x::xs,f=>by
  rw[bv,Q9]at f;have:=tG n x f.1;have:=jL n xs f.2;simp only[fD,Uy];lia
end
mutual
theorem tM{h:hI}:∀(d:D)(u:ay),Hr h d u->∃g,Reads h u (dm d) g
 |.non,u,q=>by cases q;exact⟨_,.none⟩
 |.bl _,u,q=>by cases q;exact⟨_,.bool _⟩
 |.int _,u,q=>by obtain⟨t,rfl⟩:=q;exact⟨_,.int _ _⟩
 |.str _,u,q=>by obtain⟨t,rfl⟩:=q;exact⟨_,.str _ _⟩
 |.tup xs,u,q=>by
  obtain⟨p,a,rfl,⟨o,b,c,n,e⟩,r⟩:=q;obtain⟨g,f⟩:=jz xs a r;exact⟨_,.tuple b c e f⟩
 |.lst xs,u,q=>by
  obtain⟨p,a,rfl,⟨o,b,c,n,e⟩,r⟩:=q;obtain⟨g,f⟩:=jz xs a r;exact⟨_,.list b c e f⟩
 |.ty _,_,q=>q.elim
 |.ref _,_,q=>q.elim
 |.mt _,_,q=>q.elim
 |.ml _,_,q=>q.elim
 |.fd _ _,_,q=>q.elim
theorem jz{h:hI}:∀(xs:List D)(us:Yw),Hrs h xs us->∃f,ReadsAll h us (fD xs) f
 |[],_,q=>by cases q;exact⟨_,.nil⟩
 |x::xs,_,q=>by
  obtain⟨u,r,rfl,a,b⟩:=q;obtain⟨i,e⟩:=tM x u a;obtain⟨g,c⟩:=jz xs r b;exact⟨_,.cons e c⟩
end
section
end
theorem EY:gp "repr"=ap (.builtin "repr"):=by decide +kernel
end L3
namespace LS
open PySem
variable{A:kc}{prog:fy}{s:el}{E:YA}{w:g4}
section
variable{K:Type}[DecidableEq K]
variable{knd:KeyKind prog w K}
end
section
variable{K:Type}[DecidableEq K]{knd:KeyKind prog w K}
end
section
variable{M:Model}
end
section
variable{I a:eg}{f:ay}{i n ep:Nat}{es:Array (Int×ay)}{t:SetTable}
end
section
variable{I a:eg}{ep:Nat}{es:Array (Int×ay)}{t:SetTable}
end
end LS
namespace LS
open PySem PySem.W PySem.Calls PyProof.Rows PyProof.V PySem.Spec
section
variable {prog:fy}{w:g4}{A:kc}{E:YA}{s:el}{a:eg}{ep:Nat}{es:Array (Int×ay)}{t:SetTable}
end
end LS
namespace LS
open PySem
section
variable {prog:fy}{w:g4}{A:kc}{E:YA}{s:el}{a:eg}
end
section
variable {K:Type}[DecidableEq K](o:Ord K)
end
end LS
namespace L3
open PySem L2 LS
section
variable {X:Cx}{B:Bd}
end
end L3
namespace LS
open PySem
section
variable {prog:fy}{w:g4}{A:kc}{E:YA}{s:el}{a:eg}
end
end LS
namespace L3
open PySem L2 LS
def jx:List D->Option (List Int)
 |[]=>ap []
 |.int i::ds=>match jx ds with
  |some is=>ap (i::is)
  |none=>cm
 |_=>cm
theorem rY{K:PY}{H:Hp}:∀{ds:List D}{vs:List V}{xs:Yu},Rps K H ds vs->jx ds=ap xs->vs=xs.map V.int
 |[],vs,xs,r,e=>by cases e;exact r
 |d::ds,vs,xs,r,e=>by
  obtain⟨v,h,rfl,a,b⟩:=r;cases d with
  |int c=>
   simp only[jx]at e
   split at e
   .rename_i g f
    cases e;cases a;rw[rY b f];rfl
   .cases e
  |_=>simp[jx]at e
section
variable {X:Cx}{B:Bd}
end
end L3
namespace L2
open PySem
section
variable {X:Cx}
end
end L2
namespace L3
open PySem L2 LS
section
variable {X:Cx}{B:Bd}
theorem Bk:gp "range"=ap (.type "range"):=by decide +kernel
def sF(t:fC):bu:=λU M Q=>t U M λa M1=>match a with
 |[.int j]=>(-(2 ^ 62)<=j/\j<=1000)/\∀p,M1 p=cm->Q (.ref p) (M1.upd p<|.lst<|dU 0 j.toNat)
 |_=>False
def vS(n:Nat):List V:=(QG n).map λ(i:Nat)=>V.int (0+(i:Int))
theorem Gp{K:PY}{H:Hp}{n:Nat}:Rps K H (dU 0 n) (vS n):=by
 unfold dU vS;generalize QG n=l
 induction l with
 |nil=>rfl
 |cons i l ih=>exact⟨_,_,rfl,rfl,ih⟩
theorem D_{a:YD}{n:Nat}(h:ItemsOf (λi v=>∃t,v=.int (0+i*1) t) a n):Vals (vS n) a.toList:=by
 obtain⟨c,f⟩:=h;have b:∀(l:Yw)(k m:Nat),l.length=m->(∀(j:Nat)(v:ay),l[j]?=ap v->∃t,v=.int (0+((k+j:Nat):Int)) t)->Vals ((Tj k m).map λ(i:Nat)=>V.int (0+(i:Int))) l:=by
  intro l
  induction l with
  |nil=>intro k m e _;subst e;exact .nil
  |cons x l ih=>
   intro k m e h;subst e;rw[Qe,Sa,PU];refine .cons ?_ (ih (k+1) _ rfl λj v q=>?_)
   .obtain⟨t,rfl⟩:=h 0 x (by simp)
    exact⟨t,rfl⟩
   .obtain⟨t,e⟩:=h (j+1) v (by simpa using q)
    exact⟨t,by rw[e];congr 2;lia⟩
 have:=b a.toList 0 n (by simpa using c) λj v q=>by
  obtain⟨t,e⟩:=f j v (by simpa using q)
  exact⟨t,by rw[e,UO,Ut]⟩
 unfold vS;rw[SK];exact this
def CJ(t:TA):TE:=λZ H Q=>t Z H λa H1=>∃j:Int,a=[.int j]/\(-(2 ^ 62)<=j/\j<=1000)/\∀p,H1 p=cm->Q (.ref p) (upd H1 p<|.lst<|vS j.toNat)
theorem uM{e:gl}{t:TA}{p A pos a:Pos}(U:X.calm=true)(S:Gl X "range")(R:X.mg "range"=cm)(y:Gl X "list")(x:X.mg "list"=cm)(W:PA X [e] t)
  (T:ff [e] X.env=[(eC,g3 e X.env)]:=by rfl) (hs3:ff [Vm (.Name "range" A) [e] [] a] X.env=[(eC,g3 (.Call (.Name "range" A) [e] [] a) X.env)]:=by rfl):
  PE X (.Call (.Name "list" p) [.Call (.Name "range" A) [e] [] a] [] pos) (CJ t):=by
 intro f s Z H Q I h;refine re (eJ I y x tD<|QL ?_ hs3 rfl);rw[hs3];show eH _ _ (spliced ((eC,_)::j0 pos [])) _ _ s;refine RM ?_;refine re (eJ I S R Bk<|QL (bp (W a f s Z H _ I h) λY c ⟨vs,H1,I1,F,J⟩=>?_) T rfl);obtain⟨j,rfl,⟨K,j1⟩,q⟩:=J;obtain⟨u,rfl,G⟩:=iU F;obtain⟨t',rfl⟩:=G;refine call_range_1 ?_;refine Sv ?_;have E:=I1.ok.hd U;refine call_list_range (n:=j.toNat) E (IsRange.new ..) (small_one (by decide) (by decide) K<|by lia) (by rw[rangeSize_one];split<;>lia) (by lia) λN L m C P O i=>?_
 have g:(c.heap.push { cls:=.type "range",data:=.fields #[.int 0 c.toks,.int j t',.int 1 (c.toks+1)] }).objs.size=c.heap.objs.size+1:=QF ..;have M:H1 (c.heap.objs.size+1)=none:=I1.hok.fresh (UL _);have v:N.get? (c.heap.objs.size+1)=ap { cls:=.type "list",dict:=cm,data:=.seq m C,slots:=#[] }:=by rw[<- g];exact O
 refine⟨.ref (c.heap.objs.size+1),_,I1.laid (t':=L) (o:=.lst (vS j.toNat)) (λb o z=>P b o (PR _ z)) (UL _) (show ObjOk X.prog X.w _ _ _ (.lst _) from ⟨?_,m.toList,C,D_ i,by rw[Array.toArray_toList];exact v⟩),?_,q _ M⟩
 .simp only[vS,PQ,Uq]
  exact Qp (by lia:j.toNat<=1000) (by decide)
 .show Qs _=Qs _
  rw[<- g]
theorem uR{e:gl}{t:fC}{p p2 pos pos2:Pos}(hc:X.calm=true)(hg:Gl X "range")(hm:X.mg "range"=cm)(hg2:Gl X "list")(hm2:X.mg "list"=cm)(ha:DA X B [e] t)
  (hs:ff [e] X.env=[(eC,g3 e X.env)]:=by rfl) (hs3:ff [Vm (.Name "range" p2) [e] [] pos2] X.env=[(eC,g3 (.Call (.Name "range" p2) [e] [] pos2) X.env)]:=by rfl):
  DE X B (.Call (.Name "list" p) [.Call (.Name "range" p2) [e] [] pos2] [] pos) (sF t):=by
 refine a_ (uM hc hg hm hg2 hm2 ha hs hs3) ?_
 rintro Z H Q ⟨U,M,QQ,s,h,u⟩
 refine⟨U,M,_,s,h,λds M1 h1 vs H1 rh1 i1 r1=>?_⟩
 split at h1
 .obtain⟨v,rfl,rv⟩:=gP (ds:=[]) r1
  cases rv;refine⟨_,rfl,h1.1,λd hd=>?_⟩;exact u _ _ (h1.2 d<|rh1.fresh hd) _ _ (rh1.put (by rw[hd];trivial) ⟨_,upd_same,Gp⟩) (i1.trans<|Frm.put<|.inl hd) rfl
 .exact h1.elim
end
section
variable {X:Cx}{B:Bd}{name:Str}{a:eg}{tab:List (Str×D)}
end
end L3
namespace LS
open PySem
section
variable {prog:fy}{w:g4}{K:Type}[DecidableEq K]{A:kc}{E:YA}{s:el}{knd:KeyKind prog w K}
end
section
variable {prog:fy}{w:g4}{K:Type}[DecidableEq K]{A:kc}{E:YA}{s:el}{knd:KeyKind prog w K}
end
end LS
namespace L2
open PySem PySem.Spec
section
variable {X:Cx}{tg:gl}
end
end L2
namespace L3
open PySem L2 LS
section
variable {X:Cx}{B:Bd}{tg:gl}{K:PY}{H:Hp}{M:Mem}
end
end L3
namespace L3
open PySem L2
section
variable {X:Cx}{B:Bd}{pos:Pos}
end
section
variable {X:Cx}{B:Bd}
end
end L3
namespace L3
open PySem L2 LS
section
variable {X:Cx}{B:Bd}
end
end L3
namespace LS
open PySem PySem.W PySem.Calls PyProof.Rows PyProof.V PySem.Spec
section
variable {prog:fy}{w:g4}{K:Type}[DecidableEq K]{knd:KeyKind prog w K}{A:kc}{E:YA}{s:el}{v d:eg}{ep:Nat}{Yo:List (K×ay)}
end
end LS
namespace L3
open PySem L2 LS
section
variable {X:Cx}{B:Bd}{pos:Pos}
end
end L3
namespace LX
open PySem PySem.W PySem.Spec PySem.Calls PyProof.Rows Builtin Builtin.ObjectAttr Builtin.Getset_descriptor
section
variable {K:Frag}{prog:fy}{w:g4}{A:kc}{E:YA}{s:el}
end
end LX
namespace LX
open PySem PySem.W PySem.Spec PySem.Calls PyProof.Rows
end LX
namespace L2
open PySem PySem.Spec PyProof.Rows
section
variable {X:Cx}{Ym:YB}{Z:St}{H:Hp}{s:el}{e:ay}
end
end L2
namespace L2
open PySem
end L2
namespace L3
open PySem L2
variable{K:PY}
section
variable{X:Cx}{B:Bd}{H H':Hp}{M M1 M':Mem}
end
section
variable{P:fy}{w:g4}{mg:YC}{base:hI}{f:eg}{fd:g5}
end
section
variable{X:Cx}{B:Bd}{H H':Hp}{M M1 M':Mem}
end
end L3
namespace L3
open PySem L2 LS
section
variable {X:Cx}{B:Bd}
end
end L3
namespace L3
open PySem L2
variable{B:Bd}{X:Cx}{pos:Pos}
section
theorem JH{bs:Yu}{Ys:Yw}(f:Vals (bs.map V.int) Ys){i:Nat}{v:ay}(j:Ys.toArray[i]?=ap v):∃c t,bs[i]?=ap c/\v=.int c t:=by
 have a:Ys[i]?=ap v:=by simpa using j
 have h:=f.length;rw[PQ]at h;have b:i<bs.length:=by
  have:=(Ry.mp a).1;lia
 obtain⟨m,e,g⟩:=f.get (i:=i) (x:=.int bs[i]) (by rw[Qj,PV b];rfl)
 rw[a]at e;cases e;obtain⟨t,rfl⟩:=g;exact⟨bs[i],t,PV b,rfl⟩
theorem fP(bs:Yu):∀n,n<=bs.length->preSum (λi=>bs.getD i 0) n=(bs.take n).sum
 |0,_=>by simp[preSum]
 |n+1,h=>by
  rw[preSum,fP bs n (by lia),Ul (by lia),Ta,PV (by lia),List.sum_append,List.sum_singleton]
  rfl
theorem oJ{b:Int}:∀l:List Int,(∀x∈l,-b<=x/\x<=b)->-(l.length*b)<=l.sum/\l.sum<=l.length*b
 |[],_=>by simp
 |x::l,h=>by
  have c:=h x (Qm ..);have f:=oJ l λy a=>h y (Qf _ a);have e:((x::l).length:Int)*b=b+l.length*b:=by
   rw[Qe];push_cast;rw[Int.add_mul];lia
  rw[QJ,e];lia
def wq:pG:=λa M Q=>match a with
 |[d]=>match gR M d with
  |some xs=>match jx xs with
   |some ss=>(ss.length<=1000/\∀x∈ss,-1000000000000000<=x/\x<=1000000000000000)/\Q (.int ss.sum) M
   |none=>False
  |none=>False
 |_=>False
theorem AB(Y:X.calm=true):bQ X (.builtin "sum") (liftC X wq):=by
 intro z s Z H xs us Q I r h;obtain⟨ds,M,QQ,F,W,h,U⟩:=h;unfold wq at h
 split at h
 .obtain⟨v,rfl,J⟩:=gP (ds:=[]) W
  split at h
  .rename_i ys e
   obtain⟨q,vs,rfl,T,O⟩:=iM F J e
   split at h
   .rename_i a N
    obtain⟨⟨hl,C⟩,h⟩:=h;have:=rY O N;subst this;obtain⟨u,rfl,S⟩:=iU r;cases S;obtain⟨n,E,p,hz⟩:=I.list (.inl T);have f:=E.length;rw[PQ]at f;have m:q<s.heap.objs.size:=by obtain⟨o,e,_⟩:=p.isList;exact Qb e
    have w:q≠s.heap.objs.size:=Qk m;have g:n.toArray.size=a.length:=by rw[Qd,<- f]
    refine call_sum_walk (Xx p.isList ⟨s.heap.objs.size,_,_,_,_,_,λi=>a.getD i 0,rfl,Walks.list (A:=X.A.in1) (I.ok.hd Y) s.heap.objs.size q w n.toArray,⟨⟨_,Qg _ rfl,rfl,rfl⟩,p.isList.push _⟩,?_,λi v K=>?_,λj y=>?_,λh' L t' R=>?_⟩)
    .intro b hb
     simp at hb;rcases hb with hb|hb
     .show _<(s.heap.objs.push _).size;rw[Array.size_push,hb];exact SH _
     .show _<(s.heap.objs.push _).size;rw[Array.size_push,hb];exact SE m
    .obtain⟨c,t,P,rfl⟩:=JH E K
     exact⟨t,by show _=RQ (a.getD i 0) t;rw[Ta,P];rfl⟩
    .rw[g]at y
     have b1:-1000000000000000<=a.getD j 0/\a.getD j 0<=1000000000000000:=by
      rw[Ta,PV y];exact C _ (RJ y)
     have b2:=oJ (b:=1000000000000000) (a.take (j+1)) λx G=>C x (List.mem_of_mem_take G);have b3:((a.take (j+1)).length:Int)<=1000:=by simp;lia
     rw[fP a (j+1) (by lia)]
     show InLong (a.getD j 0)/\_;unfold InLong;lia
    .rw[g,fP a _ (PZ _),List.take_length]
     refine⟨.int a.sum,H,?_,⟨_,rfl⟩,U _ M h _ H F Frm.refl rfl⟩;exact I.kept (t':=L) λb o hb=>R b o (by simp;exact Qk (Qb hb)) (PR _ hb)
   .exact h.elim
  .exact h.elim
 .exact h.elim
def pi:pG:=λa M Q=>match a with
 |[d]=>bn 60 d=true/\(dm d).showable=true/\(dm d).shown.length<=sizeLine/\Q (.str (dm d).shown) M
 |_=>False
theorem uC(C:X.A.guards=ap [])(R:X.A.units+64<rc):bQ X (.builtin "repr") (liftC X pi):=by
 intro f s Z H y O Q I r h;obtain⟨ds,M,QQ,F,K,h,J⟩:=h;unfold pi at h
 split at h
 .rename_i d
  obtain⟨w,j,m,h⟩:=h;obtain⟨v,rfl,E⟩:=gP (ds:=[]) K;obtain⟨u,rfl,G⟩:=iU r;have q:=BE I w E G;have N:=tG 60 _ w;obtain⟨L,z⟩:=tM _ _ q;have fin:∀(t:Tok)(c:Nat)(a:hI),(∀b o,s.heap.get? b=ap o->a.get? b=ap o)->EP X f Z Q (.str (dm d).shown t) { s with heap:=a,toks:=c }:=λt c a g=>
   ⟨.str _,H,I.kept (t':=c) λb o e=>g b o e,⟨_,rfl⟩,J _ M h _ H F Frm.refl rfl⟩
  cases d with
  |non=>cases q;exact PySem.P.repr_of_none (fin _ _ _ λ_ _ e=>e)
  |bl b=>cases q;exact PySem.P.repr_of_bool (fin _ _ _ λ_ _ e=>e)
  |int i=>
   obtain⟨t,rfl⟩:=q;exact PySem.P.repr_of_int (by simpa [dm,SJ] using j) (fin _ _ _ λ_ _ e=>e)
  |str x=>
   obtain⟨t,rfl⟩:=q;exact PySem.P.repr_of_str (fin _ _ _ λ_ _ e=>e) m
  |tup y=>
   obtain⟨p,n,rfl,_⟩:=q;exact repr_of_reads' z j (VZ<|uY _) C (by lia) (λ_ _ e=>e) (λa u c g=>fin u c a g) m
  |lst y=>
   obtain⟨p,n,rfl,_⟩:=q;exact repr_of_reads' z j (VZ<|uY _) C (by lia) (λ_ _ e=>e) (λa u c g=>fin u c a g) m
  |_=>exact q.elim
 .exact h.elim
end
theorem FJ:gp "sum"=ap (.builtin "sum"):=PyProof.Rows.boot_sum
section
variable{C:eg}{f:Str}{o value:gl}{ta tv:bu}{tpos:Pos}
def pQ(C:eg)(ta tv:bu)(f:Str):av:=λD U M=>ta U M λx M1=>match x with
 |.ref a=>match M1 a with
  |some (.ins C' fs)=>C'=C/\fs.length<1000/\match fs.lookup f with
   |some (.int i)=>tv U M1 λy M2=>match y with
    |.int j=>M2 a=ap (.ins C fs)/\D.nx U (M2.upd a<|.ins C<|bJ f (.int (i+j)) fs)
    |_=>False
   |_=>False
  |_=>False
 |_=>False
theorem Bt(c:Cls X.K C)(n:NoAttr X.K C f)(ha:DE X B o ta)(hv:DE X B value tv):DS X B (.AugAssign (.Attribute o f tpos) .Add value pos) (pQ C ta tv f):=by
 refine bL (o6 ha hv JL) ?_
 rintro D Z H ⟨U,M,DD,s,h,up⟩
 refine⟨U,M,_,s,h,λx M1 h1 v1 H1 rh1 i1 r1=>?_⟩
 split at h1
 .rename_i a
  cases r1
  split at h1
  .rename_i C' fs hM
   obtain⟨rfl,hl,h1⟩:=h1
   split at h1
   .rename_i i hf
    obtain⟨dx,ws,e1,e2⟩:=rh1 _ _ hM;obtain⟨z,_⟩|⟨d,w,hd,hw,rw1⟩:=e2.lookup f
    .rw[hf]at z;cases z
    rw[hf]at hd;cases hd;cases rw1;refine⟨a,C',dx,ws,.int i,rfl,e1,c,n,hw,U,M1,_,s.go rh1 i1,h1,λy M2 h2 v2 H2 rh2 i2 r2=>?_⟩
    split at h2
    .rename_i j
     cases r2;obtain⟨hM2,h2⟩:=h2;obtain⟨dx2,ws2,e3,e4⟩:=rh2 _ _ hM2;have i3:Frm M2 H2 (M2.upd a<|.ins C'<|bJ f (.int (i+j)) fs) (upd H2 a<|.ins C' dx2<|L2.de f (.int (i+j)) ws2):=Frm.put (.inr ⟨_,hM2⟩);refine⟨i,j,rfl,rfl,dx2,ws2,e3,by rw[<- e4.length];exact hl,up.nx _ _ h2 Z _ ((i1.trans i2).trans i3)<|s.go (rh2.put (by rw[e3];trivial) ⟨dx2,_,upd_same,?_⟩)<|(i1.trans i2).trans i3⟩
     exact(jp (show Rp X.K H2 (.int (i+j)) (.int (i+j)) from rfl) e4).mono (i3.imm rh2)
    .exact h2.elim
   .exact h1.elim
  .exact h1.elim
 .exact h1.elim
end
section
variable{CX:oh}{k n:Nat}{f C:eg}{fd:g5}{ps:Yv}{T:Sd}{E:XK}{EE:DX}{x:Str}{p:Pos}
end
section
variable{K:PY}{H H':Hp}{M M1 M':Mem}
end
section
end
end L3
namespace LS
open PySem PySem.W PySem.Calls PyProof.Rows PyProof.V PySem.Spec
section
variable {prog:fy}{w:g4}{A:kc}{E:YA}{s:el}{it d:eg}{i n ep:Nat}{ok ov:ay}{od:Obj}{es:Array X2}
end
end LS
namespace L2
open PySem PySem.Spec PyProof.Rows LS
theorem PL{X:Cx}{b:YB}{Z:St}{H:Hp}{s:el}{d:eg}{c:Obj}{a:List (List aG×V)}{es:Array X2}{n:Nat}(I:Inv X b Z H s)(e:H d=ap (.frz c<|.dT a))(p:c.data=.dict es n):
  s.heap.get? d=ap c/\∃xs:List (List aG×eg×ay),KT H a xs/\es.toList=xs.map (entryOfKey<|tupleKind<|aW X.prog X.w):=by
 obtain⟨f,_,_,xs,r,o,j,i,h,_,g,m,_⟩:=(show ObjOk X.prog X.w H s.heap d (.frz c<|.dT a) from I.hok d _ e);rw[f]at h;cases h;rw[p]at g;cases g;exact⟨f,xs,r,m⟩
end L2
namespace L3
open PySem L2 LS
section
variable {X:Cx}{B:Bd}
end
end L3
namespace LS
open PySem PySem.W PySem.Calls PyProof.Rows PyProof.V PySem.Spec L2
variable{A:kc}{prog:fy}{w:g4}
theorem fc:Xn Yg "list.__getattribute__"=ap Builtin.«object.__getattribute__»:=XJ (id':="object.__getattribute__") (by kernel_rfl) (by decide +kernel) (by decide +kernel) (by kernel_rfl)
theorem iy:Re (.type "list") "__getattr__"=pure none:=by rw[py];rw[kr];kernel_rfl
theorem pC:Re (.type "list") "keys"=pure none:=by rw[py];rw[kr];kernel_rfl
abbrev Gj(h:hI)(a:eg)(Ys:YD)(n:Nat):Prop:=h.get? a=ap { cls:=.type "list",dict:=cm,data:=.seq Ys n,slots:=#[] }
theorem km(a:eg)(Ys:YD)(n:Nat)(name:Str)(u:Tok)(e:Re (.type "list") name=pure cm)(b:(["__module__","__name__","__qualname__","__doc__","__annotations__"]:Yv).contains name=eC)(hsz:name.length+100<=sizeLine):
  XS (Builtin.«object.__getattribute__» ⟨[.ref a,.str name u],[]⟩) (λA R s=>Gj s.heap a Ys n/\raisesAttr (.ref a) name A R s):=
 Meets.of_wp λprog w A R s c=>by
  obtain⟨f,g,d,i,j⟩:=s;obtain⟨h,c⟩:=c;have m:(⟨f,g,d,i,j⟩:el).TypeIs (.ref a) "list":=⟨_,h,rfl⟩;unfold Builtin.«object.__getattribute__»
  repeat (any_goals (first|assumption|wp_step))
  simp only[b,QA,if_false]
  repeat (any_goals (first|assumption|wp_step))
  exact Ye c.1 c.2 (attrMsg_fits (by decide +kernel) hsz)
section
variable{E:YA}{s:el}
theorem mO{a:eg}{Ys:YD}{n:Nat}{Q:Option ay->el->Prop}(j:Gj s.heap a Ys n)(v:A.handled=cm)(h:∀h' m,(∀b o,s.heap.get? b=ap o->h'.get? b=ap o)->Q cm { s with heap:=h',toks:=m }):eH (fv prog w) A (Yk (.ref a) "keys") Q E s:=by
 obtain⟨p,g,d,m,u⟩:=s;have i:∀f,(⟨p,g,d,f,u⟩:el).TypeIs (.ref a) "list":=λ_=>⟨_,j,rfl⟩;have q:=sub_AttributeError;have y:=SA.lookup;have z:=SA.bind (.ref a);have x:=iy;unfold Yk getAttrBy? getAttrBy
 repeat (any_goals (first|assumption|exact i _|((with_reducible show eH _ _ (call (U2 "list.__getattribute__") _ _) _ _ _);refine vb SA (i _) fc (PySem.F.args_list_getattribute_2 _ _) (km a Ys n "keys" _ pC (by decide +kernel)<|by decide +kernel) ⟨j,v,λh' f e c=>?_⟩)|wp_step))
 obtain⟨B,C,G⟩:=c.there;show eH _ _ (W6 _ _ _ _ _ _ _) _ _ _;unfold W6
 repeat (any_goals (first|assumption|wp_step))
 exact h _ _ c.keeps
end
def Hd(h:hI)(T:eg)(k v:ay):Prop:=∃o n,h.get? T=ap o/\o.cls=.type "tuple"/\o.data=.seq #[k,v] n
theorem Ba{R:XR->el->Prop}{l it d:eg}{ps:List (ay×ay)}{Ts:Yx}(hh:A.handled=cm)(P:Nat->hI->Prop)(stay:∀i h h',P i h->(∀b o,b≠it->h.get? b=ap o->h'.get? b=ap o)->P i h')(step:∀(i:Nat)(hi:i<ps.length)(s:el)(Q:Unit->el->Prop)(E:YA),P i s.heap->(∀h' v,P (i+1) h'->RO d s.heap h'->Q () { s with heap:=h',toks:=v })->eH (fv prog w) A.in1 (dictSet d ps[i].1 ps[i].2) Q E s)(hl:Ts.length=ps.length)(n1:l≠it)(n2:d≠it)(n3:l≠d)(nT:∀T∈Ts,T≠it/\T≠d):
  ∀(n i:Nat)(s:el),n=ps.length-i->i<=ps.length->s.heap.IsListIter it l i->s.heap.IsList l (Ts.map Qs).toArray->(∀(i:Nat)(O:i<Ts.length)(h2:i<ps.length),Hd s.heap Ts[i] ps[i].1 ps[i].2)->P i s.heap->
   (∀f:el,f.os=s.os->f.gens=s.gens->f.drawn=s.drawn->P ps.length f.heap->(∀c o,c≠it->c≠d->s.heap.get? c=ap o->f.heap.get? c=ap o)->R (.ok<|.ret .none) f)->
   ∀v:Nat,SZ (fv prog w) A (.builtin "dict.update.loop" ⟨[.ref d,.ref it,wh v,.none],[]⟩) R s:=by
 intro n
 induction n with
 |zero=>
  intro i s hn hi p a _ K hR v;have M:i=ps.length:=by lia
  refine Wp bA ?_;rw[R0 aS _];show eH _ A.in1 (Sc (.ref it) >>= _) _ _ s;refine ax (Yc (A:=A.in1) hh p a (by simp;lia) λh' C=>?_)
  refine ax (m:=Uk d []) (fe<|wpAny_pure (hR _ rfl rfl rfl ?_ λc o H c2 e=>C c o H e));rw[<- M];exact stay i _ _ K λb o F e=>C b o F e
 |succ n ih=>
  intro i s hn hi p a G K hR v;have u:i<ps.length:=by lia
  have q:i<Ts.length:=by lia
  refine Wp bA ?_;rw[R0 aS _];show eH _ A.in1 (Sc (.ref it) >>= _) _ _ s;refine ax (X3 (x:=.ref Ts[i]) p a (by simp[q]) λh' z sb=>?_)
  obtain⟨U,nTd⟩:=nT Ts[i] (RJ q);have X:∀b o,b≠it->s.heap.get? b=ap o->h'.get? b=ap o:=λb o F e=>sb.extBut b o F e;obtain⟨oT,m,e1,e2,e3⟩:=G i q u;have y:=X _ _ U e1;have Y:({ s with heap:=h' }:el).TypeIs (.ref Ts[i]) "tuple":=⟨_,y,e2⟩;refine ax (pa<|wpAny_bind<|wpAny_tryCatch ?_);unfold S8;refine ax (Tl Y ?_);rw[if_pos (by decide)]
  refine ax (pt (s:={ s with heap:=h' }) y e3<|wpAny_pure ?_);show eH _ _ (va [ps[i].1,ps[i].2]<|dictSet d ps[i].1 ps[i].2) _ _ _;refine pa (step i u { s with heap:=h' } _ _ (stay i _ _ K X) λB I S g=>?_);have L:∀b o,b≠it->b≠d->s.heap.get? b=ap o->B.get? b=ap o:=λb o F hd e=>g.extBut b o hd (X b o F e);refine fe ⟨Xc aS _,?_⟩;refine ih (i+1) { s with heap:=B,toks:=I } (by lia) u (z.at λo e=>g.extBut _ o n2.symm e) ?_ (λj O h2=>?_) S (λf Z W q3 q4 q5=>hR f Z W q3 q4 λc o H c2 e=>q5 c o H c2 (L c o H c2 e)) (v+1)
  .obtain⟨o,J,N⟩:=a
   exact⟨o,L _ _ n1 n3 J,N⟩
  .obtain⟨o,m,J,N⟩:=G j O h2
   obtain⟨Z,W⟩:=nT Ts[j] (RJ O);exact⟨o,m,L _ _ Z W J,N⟩
theorem B5{E:YA}{s:el}{l:eg}{m:Nat}{ps:List (ay×ay)}{Ts:Yx}{Q:YA}(I:A.handled=cm)(P:Nat->hI->Prop)(Y:∀h',(∀b o,s.heap.get? b=ap o->h'.get? b=ap o)->h'.get? s.heap.objs.size=ap { cls:=.type "dict",data:=.dict #[] }->P 0 h')(stay:∀i h h',P i h->(∀b o,b<=s.heap.objs.size->h.get? b=ap o->h'.get? b=ap o)->P i h')(step:∀(i:Nat)(C:i<ps.length)(f:el)(Q:Unit->el->Prop)(E:YA),P i f.heap->(∀h' tk,P (i+1) h'->RO s.heap.objs.size f.heap h'->Q () { f with heap:=h',toks:=tk })->eH (fv prog w) A.in1.in1 (dictSet s.heap.objs.size ps[i].1 ps[i].2) Q E f)(hl:Ts.length=ps.length)(hls:Gj s.heap l (Ts.map Qs).toArray m)(hpr:∀(i:Nat)(G:i<Ts.length)(H:i<ps.length),Hd s.heap Ts[i] ps[i].1 ps[i].2)(h:∀f:el,f.os=s.os->f.gens=s.gens->f.drawn=s.drawn->P ps.length f.heap->(∀c o,s.heap.get? c=ap o->f.heap.get? c=ap o)->Q (.ref s.heap.objs.size) f):
  eH (fv prog w) A (call (.type "dict") [.ref l]) Q E s:=by
 refine callType_codes (Q₁:=λobj p=>obj=.ref s.heap.objs.size/\p={ s with heap:=s.heap.push { cls:=.type "dict",data:=.dict #[] } }) L2.F.called_dict (L2.F.typeCall_dict_1 _) VS (hZ _ ⟨rfl,rfl⟩) ?_
 rintro obj p ⟨rfl,rfl⟩
 have B:∀c o,s.heap.get? c=ap o->(s.heap.push { cls:=.type "dict",data:=.dict #[] }).get? c=ap o:=λc o e=>PR _ e;have lt:∀{c o},s.heap.get? c=ap o->c<s.heap.objs.size:=λe=>Qb e;have q:(s.heap.push { cls:=.type "dict",data:=.dict #[] }).get? s.heap.objs.size=ap { cls:=.type "dict",data:=.dict #[] }:=Qg _ rfl;have z:({ s with heap:=s.heap.push { cls:=.type "dict",data:=.dict #[] } }:el).TypeIs (.ref s.heap.objs.size) "dict":=⟨_,q,rfl⟩;refine⟨z,VM _ _,?_⟩;unfold Builtin.«dict.__init__» Uj;refine ax (ax<|wpAny_notOrdered_dict z<|wpAny_pure ?_);show eH _ _ (R8 "dict.__init__" s.heap.objs.size (.ref l) [] .none) _ _ _;unfold R8;refine ax (Tl (T:="list") ⟨_,B _ _ hls,rfl⟩ ?_);rw[if_pos (by decide)]
 refine ax (mO (s:={ s with heap:=s.heap.push { cls:=.type "dict",data:=.dict #[] } }) (B _ _ hls) I λa y g=>?_);rw[if_pos (show (none:Option ay).isNone=true from rfl)];have up1:∀c o,s.heap.get? c=ap o->a.get? c=ap o:=λc o e=>g c o (B c o e);have x:a.IsList l (Ts.map Qs).toArray:=⟨_,up1 _ _ hls,rfl,m,rfl⟩;refine ax (PP<|wpAny_bind<|wpAny_pyIter_list (s:={ s with heap:=a,toks:=y }) x<|wpAny_pure ⟨Xc aS _,?_⟩);have v:=g _ _ q;have u:s.heap.objs.size<a.objs.size:=Qb v;have up2:∀c o,a.get? c=ap o->(a.push { cls:=.type "list_iterator",data:=.fields #[.ref l,.int 0 0] }).get? c=ap o:=λc o e=>PR _ e;have j:∀{c o},s.heap.get? c=ap o->c≠a.objs.size/\c≠s.heap.objs.size:=λ{c o} e=>⟨Qk (Uu (lt e) u),Qk<|lt e⟩;refine Ba (A:=A.in1) (l:=l) (it:=a.objs.size) (d:=s.heap.objs.size) (ps:=ps) (Ts:=Ts) I P (λi h h' S N=>stay i h h' S λb o R e=>N b o (Qk<|Te R u) e) step hl (j hls).1 (Qk u) (j hls).2 (λT M=>?_) ps.length 0 { s with heap:=a.push { cls:=.type "list_iterator",data:=.fields #[.ref l,.int 0 0] },toks:=y } (by simp) (Rq _) ⟨_,Qg _ rfl,rfl,rfl⟩ ?_ (λi G H=>?_) (Y _ (λb o e=>up2 b o (up1 b o e))<|up2 _ _ v) (λf W O L U J=>?_) 0
 .obtain⟨i,C,rfl⟩:=List.mem_iff_getElem.mp M
  obtain⟨o,n,e,_⟩:=hpr i C (by lia)
  exact j e
 .obtain⟨o,K,X⟩:=x
  exact⟨o,up2 _ _ K,X⟩
 .obtain⟨o,n,e,r⟩:=hpr i G H
  exact⟨o,n,up2 _ _ (up1 _ _ e),r⟩
 .exact⟨rfl,h f W O L U λc o e=>J c o (j e).1 (j e).2 (up2 _ _<|up1 _ _ e)⟩
end LS
namespace L2
open PySem PySem.Spec PyProof.Rows LS
inductive PrK(H:Hp):List V->List (aG×V)->Prop
 |nil:PrK H [] []
 |cons {T:eg} {k:aG} {x:V} {vs:List V} {Yo:List (aG×V)} (hT:H T=ap (.tup [kV k,x])) (r:PrK H vs Yo):PrK H (.ref T::vs) ((k,x)::Yo)
section
variable {X:Cx}{Ym:YB}{Z:St}{H:Hp}{s:el}
theorem Inv.pair{T:eg}{y x:V}(I:Inv X Ym Z H s)(h:H T=ap (.tup [y,x])):∃k v,RelV y k/\RelV x v/\Hd s.heap T k v:=by
 obtain⟨_,b,r,o,e,⟨c,n,d⟩,_⟩:=(show ObjOk X.prog X.w H s.heap T (.tup [y,x]) from I.hok T _ h);obtain⟨k,v,rfl,f,a⟩:=r.two;exact⟨k,v,f,a,o,n,e,c,d⟩
theorem Inv.prK(I:Inv X Ym Z H s):∀{vs:List V}{Yo:List (aG×V)},PrK H vs Yo->∃(Ts:Yx)(rs:List (aG×ay×ay)),vs=Ts.map V.ref/\KV Yo (rs.map λr=>(r.1,r.2.2))/\Ts.length=rs.length/\(∀r∈rs,(aW X.prog X.w).is r.1 r.2.1=true)/\∀(i:Nat)(a:i<Ts.length)(b:i<rs.length),Hd s.heap Ts[i] rs[i].2.1 rs[i].2.2
 |_,_,.nil=>⟨[],[],rfl,.nil,rfl,by simp,λi h=>absurd h (S1 _)⟩
 |_,_,.cons (T:=T) (k:=k) hT r=>by
  obtain⟨Ts,rs,rfl,q,g,j,e⟩:=I.prK r;obtain⟨f,v,m,c,p⟩:=I.pair hT;refine⟨T::Ts,(k,f,v)::rs,rfl,.cons ⟨rfl,c⟩ q,by simp[g],λr hr=>?_,λi a b=>?_⟩
  .rcases Ql.mp hr with rfl|hr
   .exact iL m
   .exact j r hr
  .cases i with
   |zero=>exact p
   |succ i=>exact e i (by simpa using a) (by simpa using b)
theorem vo{xs:List (aG×ay)}{k:aG}{u:ay}:(Su xs k u).length<=xs.length+1:=by
 unfold Su
 split
 .rw[PQ];lia
 .simp
theorem jy:∀(rs xs:List (aG×ay)),(rs.foldl (λa r=>Su a r.1 r.2) xs).length<=xs.length+rs.length
 |[],xs=>by simp
 |r::rs,xs=>by
  have:=jy rs (Su xs r.1 r.2);have:=vo (xs:=xs) (k:=r.1) (u:=r.2);rw[QW,Qe];lia
theorem An:∀{Yo:List (aG×V)}{rs:List (aG×ay)},KV Yo rs->∀{a:List (aG×V)}{xs:List (aG×ay)},KV a xs->KV (Yo.foldl (λa p=>cW a p.1 p.2) a) (rs.foldl (λa r=>Su a r.1 r.2) xs)
 |_,_,.nil,a,xs,h=>h
 |_,_,.cons (a:=p) (b:=q) h t,a,xs,h0=>by
  rw[QW,QW];refine An t ?_;rw[<- h.1];exact h0.put p.1 h.2
theorem Inv.ls{l:eg}{vs:List V}(I:Inv X Ym Z H s)(e:Rd H l (.lst vs)):∃Ys n,Vals vs Ys/\Gj s.heap l Ys.toArray n:=by
 obtain⟨_,Ys,n,r,q⟩:=(show ObjOk X.prog X.w H s.heap l (.lst vs) from e.ok I.hok);exact⟨Ys,n,r,q⟩
theorem n_:∀{Ts:Yx}{Ys:Yw},Vals (Ts.map V.ref) Ys->Ys=Ts.map Qs
 |[],_,h=>by cases h;rfl
 |T::Ts,_,h=>by
  cases h with
  |cons r t=>
   have a:_=Qs T:=r;rw[a,n_ t];rfl
theorem u_(hc:X.calm=true):bQ X (.type "dict") (λxs H Q=>∃l vs Yo,xs=[.ref l]/\Rd H l (.lst vs)/\PrK H vs Yo/\Yo.length<=1000000/\∀p,H p=cm->Q (.ref p) (upd H p<|.dK<|Yo.foldl (λa p=>cW a p.1 p.2) [])):=by
 intro Ym s Z H xs us Q I r h;obtain⟨l,vs,Yo,rfl,R,W,hz,q⟩:=h;obtain⟨u,rfl,ru⟩:=r.one;cases ru;obtain⟨Ts,b,rfl,M,j,c,F⟩:=I.prK W;obtain⟨Ys,n,P,x⟩:=I.ls R;have:=n_ P;subst this;have hrl:b.length<=1000000:=by have:=Rn M;rw[PQ]at this;lia
 refine B5 (ps:=b.map λr=>(r.2.1,r.2.2)) (Ts:=Ts) (I.ok.hd hc) (λi h=>h.DictOf (aW X.prog X.w) s.heap.objs.size (((b.take i).map λr=>(r.1,r.2.2)).foldl (λa r=>Su a r.1 r.2) [])) ?_ ?_ ?_ (by simp[j]) x (λi h1 C=>?_) ?_
 .intro G L hd
  obtain⟨o,A,J,v,r⟩:=Vw (knd:=aW X.prog X.w) s.heap;rw[Qg _ rfl]at v;cases v;exact⟨_,A,J,hd,r⟩
 .rintro i h G ⟨o,A,J,v,r⟩ B
  exact⟨o,A,J,B _ o (PZ _) v,r⟩
 .rintro i N K Q' E' hd S
  have g:i<b.length:=by simpa using N
  simp only[UB];have e:(((b.take i).map λr=>(r.1,r.2.2)).foldl (λa r=>Su a r.1 r.2) ([]:List (aG×ay))).length<=sizeLine:=by
   have:=jy ((b.take i).map λr=>(r.1,r.2.2)) [];have C:(1000000:Nat)<=sizeLine:=by decide
   simp only[QN,PQ,TB]at this;lia
  refine Xr (knd:=aW X.prog X.w) (k:=b[i].1) (c b[i] (RJ g)) hd (λG y Y=>S G _ ?_ Y) e;rw[Ul g,Sm,List.foldl_append];exact y
 .have E:i<b.length:=by simpa using C
  simp only[UB];exact F i h1 E
 .rintro K T O U hd L
  simp only[PQ,List.take_length]at hd;have m:=I.big;have hn:H s.heap.objs.size=none:=I.hok.fresh (PZ _);obtain⟨hh',g',d',t',z⟩:=K;obtain rfl:z=s.os:=T;obtain rfl:g'=s.gens:=O;obtain rfl:d'=s.drawn:=U;have f:=An M (a:=[]) (xs:=[]) .nil;refine⟨.ref s.heap.objs.size,_,I.laid (a:=s.heap.objs.size) (o:=.dK (Yo.foldl (λa p=>cW a p.1 p.2) [])) (t':=t') L (PZ _) (mJ ?_ (beq_eq_false_iff_ne.mpr<|RB m) f hd),rfl,q _ hn⟩;rw[Rn f];have:=jy (b.map λr=>(r.1,r.2.2)) [];have C:(1000000:Nat)<=sizeLine:=by decide
  simp only[QN,PQ]at this;lia
end
end L2
namespace L3
open PySem L2 LS
section
variable {X:Cx}{B:Bd}{K:PY}{H:Hp}
def sI:List D->Option (List (aG×D))
 |[]=>ap []
 |.tup [k,v]::ds=>match cO k,sI ds with
  |some ks,ap r=>ap ((ks,v)::r)
  |_,_=>cm
 |_=>cm
theorem E9:∀{ds:List D}{vs:List V}{Yo:List (aG×D)},Rps K H ds vs->sI ds=ap Yo->∃f,PrK H vs f/\Rkv K H Yo f
 |[],vs,Yo,r,e=>by cases e;cases r;exact⟨[],.nil,.nil⟩
 |d::ds,vs,Yo,r,e=>by
  obtain⟨v,F,rfl,a,b⟩:=r;unfold sI at e
  split at e
  .rename_i h;cases h
  .rename_i k x p h
   cases h
   split at e
   .rename_i w q u m
    cases e;obtain⟨f,n,o⟩:=E9 b m;obtain⟨T,E,rfl,z,s⟩:=a;obtain⟨C,A,rfl,i,c⟩:=s;obtain⟨y,j,rfl,c,g⟩:=c;cases g;have:=gI i u;subst this;exact⟨(w,y)::f,.cons z n,.cons ⟨rfl,c⟩ o⟩
   .cases e
  .cases e
theorem sC{c:Type}[DecidableEq c]:∀{a:List (c×D)}{b:List (c×V)},Rkv K H a b->∀{a0:List (c×D)}{b0:List (c×V)},Rkv K H a0 b0->Rkv K H (a.foldl (λx p=>eG x p.1 p.2) a0) (b.foldl (λx p=>cW x p.1 p.2) b0)
 |_,_,.nil,a0,b0,h=>h
 |_,_,.cons (a:=p) (b:=q) h t,a0,b0,h0=>by
  rw[QW,QW];refine sC t ?_;rw[<- h.1];exact h0.put p.1 h.2
theorem FV{M:Mem}{d:D}{v:V}{xs:List D}(f:RepH K H M)(r:Rp K H d v)(e:gR M d=ap xs)(g:∀ys,d≠.ml ys):∃l vs,v=.ref l/\Rd H l (.lst vs)/\Rps K H xs vs:=by
 cases d with
 |lst ys=>
  cases e;obtain⟨p,vs,rfl,⟨o,h⟩,r⟩:=r;exact⟨p,vs,rfl,.inr ⟨o,h⟩,r⟩
 |ml ys=>exact absurd rfl (g ys)
 |ref a=>
  simp only[gR]at e
  split at e
  .rename_i ys q
   cases e;cases r;obtain⟨vs,b,c⟩:=f _ _ q;exact⟨a,vs,rfl,.inl b,c⟩
  .cases e
 |_=>cases e
def BD:D->Bool
 |.ml _=>eC
 |_=>true
theorem Fl{d:D}(h:BD d=true):∀ys,d≠.ml ys:=λys e=>by subst e;cases h
def fH:pG:=λb M Q=>match b with
 |[d]=>BD d=true/\match gR M d with
  |some xs=>match sI xs with
   |some Yo=>Yo.length<=1000000/\∀p,M p=cm->Q (.ref p) (M.upd p<|.dK<|Yo.foldl (λa p=>eG a p.1 p.2) [])
   |none=>False
  |none=>False
 |_=>False
theorem tz(hc:X.calm=true):bQ X (.type "dict") (liftC X fH):=by
 intro Ym s Z H xs us Q I r h;obtain⟨ds,M,QQ,rh,rp,h,up⟩:=h;unfold fH at h
 split at h
 .obtain⟨v,rfl,rv⟩:=gP (ds:=[]) rp
  obtain⟨hm,h⟩:=h
  split at h
  .rename_i ys e
   split at h
   .rename_i Yo e2
    obtain⟨l,vs,rfl,hq,rr⟩:=FV rh rv e (Fl hm);obtain⟨ws,h1,h2⟩:=E9 rr e2;refine u_ hc Ym s Z H _ us Q I r ⟨l,vs,ws,rfl,hq,h1,by rw[<- h2.length];exact h.1,λp hp=>?_⟩
    exact up _ _ (h.2 p<|rh.fresh hp) _ _ (rh.put (by rw[hp];trivial) ⟨_,upd_same,(sC h2 .nil).mono<|Imm.new hp⟩) (Frm.put<|.inl hp) rfl
   .exact h.elim
  .exact h.elim
 .exact h.elim
end
end L3
namespace LS
open PySem PySem.W PySem.Calls PyProof.Rows PyProof.V PySem.Spec L2
end LS
namespace L3
open PySem L2 LS
section
variable {X:Cx}{B:Bd}
end
end L3
namespace L3
open PySem PySem.W PySem.Calls PyProof.Rows PyProof.V PySem.Spec L2
section
variable {X:Cx}{B:Bd}{Ym:YB}{Z:L2.St}{H:Hp}{s:el}{M:Mem}
end
end L3
namespace L3
open PySem L2 LS
section
variable {X:Cx}{B:Bd}
end
end L3
namespace L2
open PySem PySem.Spec PyProof.Rows
section
variable {X:Cx}{e:gl}{te:TE}{st:gl}{ts:TO}{p2 pos:Pos}
end
end L2
namespace L3
open PySem L2
section
variable {X:Cx}{B:Bd}{K:PY}{H:Hp}{M:Mem}{e:gl}{te:bu}{st:gl}{ts:Ju}{pos p2:Pos}
end
end L3
namespace L2
open PySem PySem.Spec PyProof.Rows
section
variable {prog:fy}{w:g4}{A:kc}{E:YA}{s:el}
end
section
variable {prog:fy}{w:g4}{A:kc}{E:YA}{s:el}
end
section
variable {X:Cx}
end
end L2
namespace L3
open PySem L2
section
variable {X:Cx}{B:Bd}{K:PY}{H:Hp}
end
end L3
namespace LS
open PySem PySem.W PyProof.Rows
variable{s:el}
section
variable{n:Nat}{ky:Nat->Nat}{cmp:Nat->Nat->(Bool->el->Prop)->el->Prop}{p:Array Nat}
end
section
variable{prog:fy}{w:g4}{A:kc}{b:Bool}{Q:Bool->el->Prop}
end
section
variable{prog:fy}{w:g4}{A:kc}{E:YA}
end
end LS
namespace L3
open PySem L2 LS
section
variable {X:Cx}{B:Bd}
end
end L3
namespace HT
open PySem PyProof.Rows
section
variable {prog:fy}{w:g4}{A:kc}{E:YA}{s:el}
end
end HT
namespace L2
open PySem PySem.Spec PyProof.Rows
section
variable {X:Cx}{e:gl}{te:TE}{st:gl}{ts:TO}{p2 pos:Pos}
end
end L2
namespace L3
open PySem L2
variable{B:Bd}{X:Cx}{e:gl}{pos:Pos}{x:Str}{te:bu}
section
variable{st:gl}{ts:Ju}{p2:Pos}
end
structure GF(K:PY)(mg:YC)(x:Str)(st:rz)(f:eg)(fd:g5)(ps:Yv):Prop where
 F:Fun K x x st f fd
 b:Binds K fd ps []
 k:Rj K (.ref f)=true
 m:mg x=ap (.ref f)
structure GA(K:PY)(mg:YC)(x y:Str)(st:rz)(f:eg)(fd:g5)(ps:Yv):Prop where
 F:Fun K y y st f fd
 b:Binds K fd ps []
 k:Rj K (.ref f)=true
 m:mg x=ap (.ref f)
structure FunV(K:PY)(x Yn:Str)(st:rz)(f:eg)(fd:g5):Prop where
 ex:∃(oc:ay)(od:Option eg)(kV doc pm:ay)(an:Option eg)(cdv ct:ay)(osl:Array (Option ay))(T:eg),
  fd=SO x Yn (cc st) (bB st) (aQ st) (.ref T) kV doc pm an cdv ct/\K.lookup f=ap ⟨oc,od,.func fd,osl⟩/\UC K cdv Yn=true
 kp:Rj K (.ref f)=true
structure GV(K:PY)(mg:YC)(x:Str)(st:rz)(f:eg)(fd:g5)(ps:Yv)(dv:Int):Prop where
 F:FunV K x x st f fd
 b:Binds K fd ps []
 d:∃t,Binds K fd ps [.int dv t]
 k:Rj K (.ref f)=true
 m:mg x=ap (.ref f)
inductive GC(K:PY)(mg:YC)(x:Str)(st:rz)(f:eg)(fd:g5)(ps:Yv):Prop
 |g (h:GF K mg x st f fd ps):GC K mg x st f fd ps
 |a {y:Str} (h:GA K mg x y st f fd ps):GC K mg x st f fd ps
 |v {dv:Int} (h:GV K mg x st f fd ps dv):GC K mg x st f fd ps
structure GM(K:PY)(C:eg)(x Yn:Str)(st:rz)(f:eg)(fd:g5)(ps:Yv):Prop where
 F:Fun K x Yn st f fd
 b:Binds K fd ps []
 m:Meth K C x f
structure GI(K:PY)(C:eg)(x Yn:Str)(st:rz)(f:eg)(fd:g5)(ps:Yv):Prop where
 F:Fun K x Yn st f fd
 b:Binds K fd ps []
 m:Mk K C f
section
variable{CX:oh}{k n:Nat}{f C:eg}{fd:g5}{N ps:Yv}{T:Sd}{EE:DX}{E:XK}{Yn:Str}{st:rz}{p Yr:Pos}{o:gl}{es:Yy}{ta:bu}{t:fC}
theorem Dp(h:GC X.K X.mg x st f fd ps)(F:FnOk X.prog X.w X.K X.mg X.base CX k f fd ps (bO X.K n T))(j:Room k X.A)(s:Gl X x)(q:bW CX X E)(ux:um X.K B EE E)(u:DA X B (e::es) t)(i:(x==("__debug__":Str))=eC)(y:ff (e::es) X.env=(eC,g3 e X.env)::ff es X.env)(c:(j0 pos<|starEach es X.env).any (·.1)=eC):
  DE X B (.Call (.Name x p) (e::es) [] pos) (aj T EE n t):=by
 cases h with
 |g h=>exact qz F j s h.m h.k h.b q ux u i y c
 |a h=>exact qz F j s h.m h.k h.b q ux u i y c
 |v h=>exact qz F j s h.m h.k h.b q ux u i y c
def Lc(X:Cx)(B:Bd)(x:Str)(T:Sd)(EE:DX)(n:Nat):Prop:=∃(st:rz)(f:eg)(fd:g5)(ps:Yv)(k:Nat)(CX:oh)(E:XK),GC X.K X.mg x st f fd ps/\FnOk X.prog X.w X.K X.mg X.base CX k f fd ps (bO X.K n T)/\Room k X.A/\bW CX X E/\um X.K B EE E
theorem BV(h:Lc X B x T EE n)(i:Gl X x)(j:DA X B (e::es) t)(b:(x==("__debug__":Str))=eC)(m:ff (e::es) X.env=(eC,g3 e X.env)::ff es X.env)(a:(j0 pos<|starEach es X.env).any (·.1)=eC):
  DE X B (.Call (.Name x p) (e::es) [] pos) (aj T EE n t):=by
 obtain⟨_,_,_,_,_,_,_,h,F,c,g,ux⟩:=h;exact Dp h F c i g ux j b m a
theorem E3(h:GI X.K C Yn x st f fd ps)(F:FnOk X.prog X.w X.K X.mg X.base CX k f fd ps (bO X.K n T))(j:Room (k+1) X.A){y:Str}(q:Gl X y)(g:X.mg y=ap (.ref C))(i:bW CX X E)(ux:um X.K B EE E)(s:DA X B (e::es) t)(c:(y==("__debug__":Str))=eC)(u:ff (e::es) X.env=(eC,g3 e X.env)::ff es X.env)(a:(j0 pos<|starEach es X.env).any (·.1)=eC):
  DE X B (.Call (.Name y p) (e::es) [] pos) (gb C T EE n t):=GL h.m F j q g h.b i ux s c u a
theorem EB{m:Str}{pl:Sem Bool}(u:DE X B o ta)(c:Cls X.K C)(h:GM X.K C m Yn st f fd ps)(F:FnOk X.prog X.w X.K X.mg X.base CX k f fd ps (bO X.K n T))(i:Room k X.A)(j:bW CX X E)(ux:um X.K B EE E)(q:DA X B (e::es) t)(g:ff (e::es) X.env=(eC,g3 e X.env)::ff es X.env)(a:(j0 pos<|starEach es X.env).any (·.1)=eC)(s:g3 (.Call (.Attribute o m Yr) (e::es) [] pos) X.env=(do
   let ov <- g3 o X.env
   W7 Yr.atName
   let (f,first) <- va [ov] (WP ov m pl)
   Xz pos f first (j0 pos<|starEach (e::es) X.env) (z5 pos<|keywordEach [] X.env))):
  DE X B (.Call (.Attribute o m Yr) (e::es) [] pos) (cY C m T EE n ta t):=GR u c h.m F i h.b j ux q g a s
theorem AV{m:Str}{pl:Sem Bool}(i:DE X B o ta)(c:Cls X.K C)(h:GM X.K C m Yn st f fd ps)(F:FnOk X.prog X.w X.K X.mg X.base CX k f fd ps (bO X.K n T))(j:Room k X.A)(a:bW CX X E)(ux:um X.K B EE E)(g:g3 (.Call (.Attribute o m Yr) [] [] pos) X.env=(do
   let ov <- g3 o X.env
   W7 Yr.atName
   let (f,first) <- va [ov] (WP ov m pl)
   Xz pos f first (j0 pos<|starEach [] X.env) (z5 pos<|keywordEach [] X.env))):
  DE X B (.Call (.Attribute o m Yr) [] [] pos) (cY C m T EE n ta af):=CN i c h.m F j h.b a ux g
inductive FC(X:Cx)(scope:SB):List Str->List Nat->List (Str×eg)->Prop
 |nil:FC X scope [] [] []
 |cons {x:Str} {j:Nat} {c:eg} {fs:Yv} {js:List Nat} {cl:List (Str×eg)}:X.N[j]?=ap x->X.env.cells.lookup x=ap c->(X.env.kindOf x=ap .cell\/X.env.kindOf x=ap .free)->
   ((TD scope X.env).names.lookup x=ap .cell\/(TD scope X.env).names.lookup x=ap .free)->FC X scope fs js cl->FC X scope (x::fs) (j::js) ((x,c)::cl)
theorem FC.ok{g:SB}{fs:Yv}{m:List Nat}{j:List (Str×eg)}(h:FC X g fs m j):Frees X g fs m/\∃i:List eg,fs.length=i.length/\j=fs.zip i/\∀p∈j,X.env.cells.lookup p.1=ap p.2:=by
 induction h with
 |nil=>exact⟨.nil,[],rfl,rfl,memZ⟩
 |cons a b c d _ ih=>
  obtain⟨s,i,q,u,v⟩:=ih;exact⟨.cons a c d s,_::i,congrArg (·+1) q,by rw[u];rfl,memC b v⟩
variable{scope:SB}{cl:List (Str×eg)}{ls fs:Yv}{js:List Nat}{tg iter elt:gl}{ifs:Yy}{wi:Bx}{g:jB}{tt:fG}{i:Nat}{px spos:Pos}
theorem nodC{a:el}{H₀:Hp}{b:Yx}{pl:YB}(h:N.Nodup):(bb X N scope cl C a H₀ b pl).N.Nodup:=h
theorem yh(h:FC X scope fs js cl)(s:scope.kind=.function)(q:∀y∈scope.names,y.2≠.cell/\(y.2=.free->y.1∈fs))(u:∀x∈scope.names,x.2=.local->scope.names.lookup x.1=ap .local)(a:T0 scope X.env=pure cl):CompOk X scope cl ls fs js:=by
 obtain⟨c,v,b,j,m⟩:=h.ok;subst j;exact G1 s q u b a m c
theorem CC(H:X.calm=true)(h:FC X scope fs js cl)(A:scope.kind=.function)(v:∀y∈scope.names,y.2≠.cell/\(y.2=.free->y.1∈fs))(z:∀x∈scope.names,x.2=.local->scope.names.lookup x.1=ap .local)(q:T0 scope X.env=pure cl)(s:DI X B tg iter wi)(u:∀(C:eg)(j:el)(H₀:Hp)(m:Yx)(pl:YB),DG (bb X (ls++fs) scope cl C j H₀ m pl) rq tg g)(F:∀(C:eg)(j:el)(H₀:Hp)(m:Yx)(pl:YB),IV (bb X (ls++fs) scope cl C j H₀ m pl) rq ifs tt)(G:∀(C:eg)(j:el)(H₀:Hp)(m:Yx)(pl:YB),DE (bb X (ls++fs) scope cl C j H₀ m pl) rq elt te)(w:∀x,o4 iter X.env x=pure x):DE X B (.ListComp elt [⟨tg,iter,ifs,0⟩] scope pos) (aY wi ls js g tt te):=
 Hm H (yh h A v z q) s (λa b c d e=>⟨u a b c d e,F a b c d e,G a b c d e⟩) w
theorem Da(F:X.N.Nodup)(s:X.N[i]?=ap x)(v:Bz X.env.scope x)(Q:X.calm=true)(h:FC X scope fs js cl)(K:scope.kind=.function)(O:∀y∈scope.names,y.2≠.cell/\(y.2=.free->y.1∈fs))(z:∀x∈scope.names,x.2=.local->scope.names.lookup x.1=ap .local)(q:T0 scope X.env=pure cl)(u:DI X B tg iter wi)(A:∀(C:eg)(j:el)(H₀:Hp)(m:Yx)(pl:YB),DG (bb X (ls++fs) scope cl C j H₀ m pl) rq tg g)(G:∀(C:eg)(j:el)(H₀:Hp)(m:Yx)(pl:YB),IV (bb X (ls++fs) scope cl C j H₀ m pl) rq ifs tt)(P:∀(C:eg)(j:el)(H₀:Hp)(m:Yx)(pl:YB),DE (bb X (ls++fs) scope cl C j H₀ m pl) rq elt te)(H:X.env.blockKind=.function)(L:X.env.scope.names.lookup x=ap .local)(M:px.line=pos.line)(J:(scope.names.any λ(n,k)=>n==x&&(k==.local||k==.cell))=eC)(w:∀x,o4 iter X.env x=pure x)(I:X.fn x=true\/X.env.scope.names.lookup x=ap .local):
  DS X B (.Assign [.Name x px] (.ListComp elt [⟨tg,iter,ifs,0⟩] scope pos) spos) (df i<|aY wi ls js g tt te):=
 FP F s v Q (yh h K O z q) u (λa b c d e=>⟨A a b c d e,G a b c d e,P a b c d e⟩) (Gf H L M J) w I
theorem Ho{q:Str}{y O R j:Pos}{c:rz}{a:Yz}{M:av}(h:GF X.K X.mg x st f fd ps)(F:FnOk X.prog X.w X.K X.mg X.base (oq X.prog X.w) k f fd ps (bO X.K n T))(G:X.stack=X.env::X.outer)(L:X.env.frame=ap X.env.locals)(Q:Room k X.A)(P:Gl X x)(U:DA X.nox B (e::es) t)(EX:ExcAt X.K C)(v:Gl X q)(H:X.mg q=ap (.ref C))(s:∀S:eg,yd (X.marked<|.ref S) B (c::a) M)(u:(x==("__debug__":Str))=eC)(I:(q==("__debug__":Str))=eC)(W:ff (e::es) X.env=(eC,g3 e X.env)::ff es X.env)(z:(j0 y<|starEach es X.env).any (·.1)=eC)(J:vr (.Call (.Name x p) (e::es) [] y) cm O.line X.env=pure eC):
  DS X B (.Try [.Expr (.Call (.Name x p) (e::es) [] y) O] [.ExceptHandler (ap<|.Name q R) cm (c::a) j] [] [] pos) (LD C T n t M):=uu G L F Q P h.m h.k h.b U EX v H s u I W z J
end
section
variable{id T Ty:String}{p Yr Yq:Pos}{o:gl}{es:Yy}{to:bu}{t:fC}{name:Str}
theorem cS{r:pG}(i:bQ X (.builtin id) (liftC X r))(f:gp x=ap (.builtin id))(h:Gl X x)(c:X.mg x=cm)(j:DA X B (e::es) t)(g:x≠"__name__")(b:(x==("__debug__":Str))=eC)(m:ff (e::es) X.env=(eC,g3 e X.env)::ff es X.env)(a:(j0 pos<|starEach es X.env).any (·.1)=eC):DE X B (.Call (.Name x p) (e::es) [] pos) (bF r t):=Ci i h c f j g b m a
theorem fq{r:pG}(i:bQ X (.type T) (liftC X r))(f:gp x=ap (.type T))(h:Gl X x)(c:X.mg x=cm)(j:DA X B (e::es) t)(g:x≠"__name__")(b:(x==("__debug__":Str))=eC)(m:ff (e::es) X.env=(eC,g3 e X.env)::ff es X.env)(a:(j0 pos<|starEach es X.env).any (·.1)=eC):DE X B (.Call (.Name x p) (e::es) [] pos) (bF r t):=Bq i h c f j g b m a
theorem MX(b:gp x=ap (.type T))(f:Gl X x)(a:X.mg x=cm)(c:x≠"__name__")(g:(x==("__debug__":Str))=eC):DE X B (.Name x pos) (dC<|.ty T):=Pq f a b c g
theorem Eg{r:Bh}(j:Xh Ty)(f:XV Ty name id)(h:Xv (.builtin id)=pure (.type "method_descriptor"))(i:wc X id (liftM X r))(s:Ty="list"\/Ty="str"\/Ty="int"\/Ty="dict")(m:DE X B o to)(q:DA X B (e::es) t)(c:ol o name X.env (g3 o X.env)=g3 o X.env)(g:((j0 Yq<|starEach (e::es) X.env).all (λx=>!x.1)&&(z5 Yq<|keywordEach [] X.env).all (λx=>x.1.isSome)
   && decide ((e::es).length+([]:List z0).length+(if ([]:List z0).isEmpty then 0 else 1)<30))=true)(b:(Yr.endLine==Yq.line)=true)(n:ff (e::es) X.env=(eC,g3 e X.env)::ff es X.env)(a:(j0 Yq<|starEach es X.env).any (·.1)=eC):
  DE X B (.Call (.Attribute o name Yr) (e::es) [] Yq) (nN Ty r to t):=OM s j f h i m q c g b n a
theorem wm{r:Bh}(h:Xh Ty)(c:XV Ty name id)(f:Xv (.builtin id)=pure (.type "method_descriptor"))(g:wc X id (liftM X r))(j:Ty="list"\/Ty="str"\/Ty="int"\/Ty="dict")(i:DE X B o to)(b:ol o name X.env (g3 o X.env)=g3 o X.env)(a:(Yr.endLine==Yq.line)=true):DE X B (.Call (.Attribute o name Yr) [] [] Yq) (nN Ty r to af):=LV j h c f g i b a
theorem KJ{r:Bh}(f:XV "tuple" name id)(h:Xv (.builtin id)=pure (.type "method_descriptor"))(i:wc X id (liftM X r))(j:DE X B o to)(n:DA X B (e::es) t)(c:ol o name X.env (g3 o X.env)=g3 o X.env)(g:((j0 Yq<|starEach (e::es) X.env).all (λx=>!x.1)&&(z5 Yq<|keywordEach [] X.env).all (λx=>x.1.isSome)
   && decide ((e::es).length+([]:List z0).length+(if ([]:List z0).isEmpty then 0 else 1)<30))=true)(b:(Yr.endLine==Yq.line)=true)(m:ff (e::es) X.env=(eC,g3 e X.env)::ff es X.env)(a:(j0 Yq<|starEach es X.env).any (·.1)=eC):
  DE X B (.Call (.Attribute o name Yr) (e::es) [] Yq) (Nw r to t):=Ov f h i j n c g b m a
theorem FD{i:Nat}{a:Xe}{r:fg}{pos':Pos}(h:ES X a (liftR2 X r))(f:X.N.Nodup)(b:X.N[i]?=ap x)(c:Bz X.env.scope x)(j:DE X B e te)(g:X.fn x=true\/X.env.scope.names.lookup x=ap .local):
  DS X B (.AugAssign (.Name x pos') a e pos) (D5 i te r):=Kr f b c j h g
end
structure Nf(K:PY)(x:Str)(st:rz)(f:eg)(fd:g5):Prop where
 a:Rr K fx x=ap (ap<|.ref f)
 F:Fun K x x st f fd
structure Af(K:PY)(x y:Str)(st:rz)(f:eg)(fd:g5):Prop where
 a:Rr K fx x=ap (ap<|.ref f)
 F:Fun K y y st f fd
structure Mf(K:PY)(C:eg)(x q:Str)(st:rz)(f:eg)(fd:g5):Prop where
 a:QT K (.ref C) x=ap (ap<|.ref f)
 i:W.isFn K (.ref f)=true
 F:Fun K x q st f fd
theorem us1{α:Type}{P:List α->Prop}(h:∀a,P [a]):∀us:List α,us.length=1->P us
 |[a],_=>h a
theorem us2{α:Type}{P:List α->Prop}(h:∀b a,P [b,a]):∀us:List α,us.length=2->P us
 |[b,a],_=>h b a
theorem us3{α:Type}{P:List α->Prop}(h:∀c b a,P [c,b,a]):∀us:List α,us.length=3->P us
 |[c,b,a],_=>h c b a
theorem us4{α:Type}{P:List α->Prop}(h:∀f b a c,P [f,b,a,c]):∀us:List α,us.length=4->P us
 |[f,b,a,c],_=>h f b a c
theorem us5{α:Type}{P:List α->Prop}(h:∀g c a f b,P [g,c,a,f,b]):∀us:List α,us.length=5->P us
 |[g,c,a,f,b],_=>h g c a f b
theorem us6{α:Type}{P:List α->Prop}(h:∀i f a g b c,P [i,f,a,g,b,c]):∀us:List α,us.length=6->P us
 |[i,f,a,g,b,c],_=>h i f a g b c
abbrev Bnd(ps:Yv)(x Yn:Str)(st:rz):Prop:=∀(kV doc pm:ay)(an:Option eg)(cdv ct:ay)(us:Yw),us.length=ps.length->XN (SO x Yn (cc st) (bB st) (aQ st) .none kV doc pm an cdv ct) ⟨us,[]⟩=pure (ps.zip us)
section
variable{P:fy}{w:g4}{K:PY}{mg:YC}{base h:hI}{k n:Nat}{f C:eg}{fd:g5}{N ps:Yv}{S:Sd}{T:DX->av}{Yn:Str}{st:rz}
theorem gf(X:K.In h)(G:h.Ns fx mg)(l:Nf K x st f fd)(b:Bnd ps x x st:=by intro _ _ _ _ _ _;first|exact us1 λ_=>rfl|exact us2 λ_ _=>rfl|exact us3 λ_ _ _=>rfl|exact us4 λ_ _ _ _=>rfl|exact us5 λ_ _ _ _ _=>rfl|exact us6 λ_ _ _ _ _ _=>rfl|exact us7 λ_ _ _ _ _ _ _=>rfl|exact us8 λ_ _ _ _ _ _ _ _=>rfl):GF K mg x st f fd ps:=⟨l.F,l.F.binds b,l.F.kp,Tb X G l.a⟩
theorem ga{y:Str}(X:K.In h)(G:h.Ns fx mg)(l:Af K x y st f fd)(b:Bnd ps y y st:=by intro _ _ _ _ _ _;first|exact us1 λ_=>rfl|exact us2 λ_ _=>rfl|exact us3 λ_ _ _=>rfl|exact us4 λ_ _ _ _=>rfl|exact us5 λ_ _ _ _ _=>rfl|exact us6 λ_ _ _ _ _ _=>rfl|exact us7 λ_ _ _ _ _ _ _=>rfl|exact us8 λ_ _ _ _ _ _ _ _=>rfl):GA K mg x y st f fd ps:=⟨l.F,l.F.binds b,l.F.kp,Tb X G l.a⟩
theorem gm(l:Mf K C x Yn st f fd)(b:Bnd ps x Yn st:=by intro _ _ _ _ _ _;first|exact us1 λ_=>rfl|exact us2 λ_ _=>rfl|exact us3 λ_ _ _=>rfl|exact us4 λ_ _ _ _=>rfl|exact us5 λ_ _ _ _ _=>rfl|exact us6 λ_ _ _ _ _ _=>rfl|exact us7 λ_ _ _ _ _ _ _=>rfl|exact us8 λ_ _ _ _ _ _ _ _=>rfl):GM K C x Yn st f fd ps:=⟨l.F,l.F.binds b,l.a,l.i,l.F.kp⟩
theorem gi(mk:TL K C=true)(c:Rj K (.ref C)=true)(l:Mf K C "__init__" Yn st f fd)(b:Bnd ps "__init__" Yn st:=by intro _ _ _ _ _ _;first|exact us1 λ_=>rfl|exact us2 λ_ _=>rfl|exact us3 λ_ _ _=>rfl|exact us4 λ_ _ _ _=>rfl|exact us5 λ_ _ _ _ _=>rfl|exact us6 λ_ _ _ _ _ _=>rfl|exact us7 λ_ _ _ _ _ _ _=>rfl|exact us8 λ_ _ _ _ _ _ _ _=>rfl):GI K C "__init__" Yn st f fd ps:=⟨l.F,l.F.binds b,mk,l.a,l.i,c⟩
abbrev cz(P:fy)(w:g4)(mg:YC)(base:hI)(_:Fun K x Yn st f fd)(_:Binds K fd ps [])(k:Nat)(S:Sd):Prop:=FnOk P w K mg base (oq P w) k f fd ps (bO K ps.length S)
theorem fnS(j:S=aJ N T)(F:Fun K x Yn st f fd)(b:Binds K fd ps [])(g:FnScope N ps (aQ st))(i:FnScope N ps (aQ st)->∀(c:ay)(A:kc)(a:List Env)(s:el)(H:Hp)(E:XK)(B:Bd)(EE:DX),Room k (A.deeper<|SD Yn (aQ st) s.heap.objs.size f c)->um K B EE E->
   yd (dN (oq P w) P w K mg base N Yn (aQ st) f c A a s H E) B (bB st) (T EE)):cz P w mg base F b (k+1) S:=by
 subst j;exact fnD F g (i g)
end
end L3
namespace LS
open PySem PySem.W PySem.Calls PyProof.Rows PyProof.V PySem.Spec
section
variable {prog:fy}{w:g4}{A:kc}{E:YA}{s:el}{x:Str}{t:Tok}
end
end LS
namespace L3
open PySem L2 LS
section
variable {X:Cx}{B:Bd}{pos:Pos}
end
end L3
namespace L3
open PySem L2
section
variable {X:Cx}{B:Bd}{s:el}
end
section
variable {X:Cx}{B:Bd}{x:Str}{pos p:Pos}{e:gl}{es:Yy}{t:fC}{a:eg}{tab:List (Str×D)}
end
section
variable {P:fy}{w:g4}{K:PY}{mg:YC}{base:hI}{k:Nat}{f C:eg}{fd:g5}{N ps:Yv}{S:eg->Sd}{T:eg->DX->av}{x Yn:Str}{st:rz}
end
end L3
namespace L3
open PySem L2 LS
section
variable {X:Cx}{B:Bd}{K:PY}{H:Hp}
def Na(M:Mem):D->Bool
 |.ref a=>match M a with
  |some (.dK _)=>true
  |_=>eC
 |_=>eC
def BZ(td ty:bu):bu:=λU M Q=>td U M λx M1=>Na M1 x=true/\ty U M1 λy M2=>match x with
 |.ref a=>match M2 a,cO y with
  |some (.dK Yo),ap k=>match cU Yo k with
   |some v=>Q v (M2.upd a<|.dK<|on Yo k)
   |none=>False
  |_,_=>False
 |_=>False
def Ew(td ty tx:bu):bu:=λU M Q=>td U M λx M1=>Na M1 x=true/\ty U M1 λy M2=>tx U M2 λz M3=>match x with
 |.ref a=>match M3 a,cO y with
  |some (.dK Yo),ap k=>match cU Yo k with
   |some v=>Q v (M3.upd a<|.dK<|on Yo k)
   |none=>Q z M3
  |_,_=>False
 |_=>False
theorem C3{M:Mem}{x:D}{v:V}(f:RepH K H M)(r:Rp K H x v)(e:Na M x=true):∃a,x=.ref a/\v=.ref a/\IsD H a:=by
 cases x with
 |ref a=>
  cases r;refine⟨a,rfl,rfl,?_⟩;simp only[Na]at e
  split at e
  .rename_i q;obtain⟨c,b,_⟩:=f _ _ q;exact .inl ⟨c,.inl b⟩
  .cases e
 |_=>cases e
theorem HP{o e:gl}{to te:bu}{Yr Yq:Pos}(ho:DE X B o to)(he:DE X B e te)(m:M1 X o "pop" Yr e Yq):DE X B (.Call (.Attribute o "pop" Yr) [e] [] Yq) (BZ to te):=by
 refine a_ (De ho he m) ?_
 rintro Z H Q ⟨U,M,QQ,s,h,u⟩
 refine⟨U,M,_,s,h,λx M1 h1 v1 H1 rh1 i1 r1=>?_⟩;obtain⟨a,rfl,rfl,hd⟩:=C3 rh1 r1 h1.1;refine⟨a,rfl,hd,U,M1,_,s.go rh1 i1,h1.2,λy M2 h2 v2 H2 rh2 i2 r2=>?_⟩;dsimp only at h2
 split at h2
 .rename_i Yo k hM ek
  obtain⟨ws,g1,g2⟩:=rh2 _ _ hM;have ey:=gI r2 ek;have im:Imm H2 (upd H2 a<|.dK<|hV ws k):=Imm.upd (by rw[g1];trivial)
  rcases g2.val k with⟨q,_⟩|⟨d,w,q,qw,rw'⟩
  .rw[q]at h2;exact h2.elim
  .rw[q]at h2
   exact⟨ws,k,w,g1,ey,qw,u _ _ h2 _ _ (rh2.put (by rw[g1];trivial) ⟨_,upd_same,(g2.drop k).mono im⟩) ((i1.trans i2).trans<|Frm.put<|.inr ⟨_,hM⟩)<|rw'.mono im⟩
 .exact h2.elim
theorem Gq{o e f:gl}{to te tf:bu}{Yr Yq:Pos}(ho:DE X B o to)(he:DE X B e te)(hf:DE X B f tf)(m:M2 X o "pop" Yr e f Yq):DE X B (.Call (.Attribute o "pop" Yr) [e,f] [] Yq) (Ew to te tf):=by
 refine a_ (BU ho he hf m) ?_
 rintro Z H Q ⟨U,M,QQ,s,h,u⟩
 refine⟨U,M,_,s,h,λx M1 h1 v1 H1 rh1 i1 r1=>?_⟩;obtain⟨a,rfl,rfl,hd⟩:=C3 rh1 r1 h1.1;refine⟨a,rfl,hd,U,M1,_,s.go rh1 i1,h1.2,λy M2 h2 v2 H2 rh2 i2 r2=>?_⟩;refine⟨U,M2,_,(s.go rh1 i1).go rh2 i2,h2,λz M3 h3 v3 H3 rh3 i3 r3=>?_⟩;dsimp only at h3;have r2':=r2.mf rh2 i3
 split at h3
 .rename_i Yo k hM ek
  obtain⟨ws,g1,g2⟩:=rh3 _ _ hM;have ey:=gI r2' ek;have im:Imm H3 (upd H3 a<|.dK<|hV ws k):=Imm.upd (by rw[g1];trivial)
  rcases g2.val k with⟨q,qn⟩|⟨d,w,q,qw,rw'⟩
  .rw[q]at h3
   exact⟨ws,k,g1,ey,λv ev=>(by rw[qn]at ev;cases ev),λ_=>u _ _ h3 _ _ rh3 ((i1.trans i2).trans i3) r3⟩
  .rw[q]at h3
   refine⟨ws,k,g1,ey,λv ev=>?_,λev=>by rw[qw]at ev;cases ev⟩
   rw[qw]at ev;cases ev;exact u _ _ h3 _ _ (rh3.put (by rw[g1];trivial) ⟨_,upd_same,(g2.drop k).mono im⟩) (((i1.trans i2).trans i3).trans<|Frm.put<|.inr ⟨_,hM⟩) (rw'.mono im)
 .exact h3.elim
def mU:pG:=λb M Q=>match b with
 |[.ref a]=>match M a with
  |some (.dK Yo)=>∀p,M p=cm->Q (.ref p) (M.upd p<|.dK Yo)
  |_=>False
 |_=>False
theorem sk:bQ X (.type "dict") (liftC X mU):=by
 intro Ym s Z H xs us Q I r h;obtain⟨ds,M,QQ,rh,rp,h,up⟩:=h;unfold mU at h
 split at h
 .rename_i a
  obtain⟨v,rfl,rv⟩:=gP (ds:=[]) rp;cases rv
  split at h
  .rename_i Yo e
   obtain⟨u,rfl,ru⟩:=r.one;cases ru;obtain⟨ws,h1,h2⟩:=rh _ _ e;refine D6 I (.inl h1) λp s' hp I'=>⟨.ref p,_,I',rfl,?_⟩;exact up _ _ (h p<|rh.fresh hp) _ _ (rh.put (by rw[hp];trivial) ⟨_,upd_same,h2.mono<|Imm.new hp⟩) (Frm.put<|.inl hp) rfl
  .exact h.elim
 .exact h.elim
end
end L3
namespace L2
open PySem PySem.W PySem.Calls PyProof.Rows PyProof.V PySem.Spec
def isO:Option aG->ay->Bool
 |some k,v=>mq k v
 |none,.none=>true
 |none,_=>eC
theorem dP{v:ay}(h:isO cm v=true):v=.none:=by cases v<;>first|rfl|cases h
section
variable {prog:fy}{w:g4}{A:kc}{E:YA}{s:el}
theorem rG{Q:Int->el->Prop}(h:Q 4238894112 { s with toks:=s.toks+1 }):eH (fv prog w) A (pyHash .none) Q E s:=by
 have a:s.TypeIs .none "NoneType":=rfl;unfold pyHash;refine ax ?_;rw[cRoomFor,if_neg (by decide)];refine fe ?_
 refine ax (UV a RW.lookup ?_);show eH _ _ (if (ap (U2 "NoneType.__hash__")==ap RL)=true then _ else _) Q E s
 rw[if_neg (by rw[beq_builtin_none];exact Qq)]
 refine ax (UV a RW.lookup ?_);show eH _ _ (callSpecialIfBoundUnlessNone? .none "__hash__" _ >>= _) Q E s
 refine ax (wpAny_callSpecialIfBoundUnlessNone?_slot a RW
  (nr RW a PySem.F.entry_NoneType_hash
   (show eH _ _ (do ret (<- mkInt 4238894112)) _ _ s from wpAny_ret_mkInt ?_) (PySem.F.args_NoneType_hash_1 _)))
 exact fe h
theorem tI{Q:Bool->el->Prop}(h:Q true s):eH (fv prog w) A (eqBool .none .none) Q E s:=by
 unfold eqBool;refine pa ?_;rw[if_pos (by rfl)]
 exact ax (PP<|wpAny_pure h)
end
def C8(prog:fy)(w:g4):PySem.KeyKind prog w (Option aG) where
 is:=isO
 hash:=λk=>match k with
  |some k=>OW w k
  |none=>4238894112
 inj:=λv a b j f=>by
  cases a with
  |some a=>
   cases b with
   |some b=>rw[(aW prog w).inj v a b j f]
   |none=>
    cases dP f;rcases ba j with⟨i,t,_,e⟩|⟨x,t,_,e⟩<;>exact nomatch e
  |none=>
   cases dP j;cases b with
   |some b=>rcases ba f with⟨i,t,_,e⟩|⟨x,t,_,e⟩<;>exact nomatch e
   |none=>rfl
 byValue:=λk v h=>by
  cases k with
  |some k=>exact(aW prog w).byValue k v h
  |none=>cases dP h;rfl
 pyHash:=λ{A E s k v Q} c h=>by
  cases k with
  |some k=>exact(aW prog w).pyHash c h
  |none=>cases dP c;exact rG h
 eqBool:=λ{A E s a b u v Q} g c h=>by
  cases a with
  |some a=>
   cases b with
   |some b=>
    refine (aW prog w).eqBool g c ?_;have:decide (ap a=ap b)=decide (a=b):=decide_eq_decide.mpr ⟨λe=>by injection e,λe=>by rw[e]⟩
    rw[this]at h;exact h
   |none=>
    cases dP c;have e:decide (ap a=cm)=false:=decide_eq_false (λz=>nomatch z);rw[e]at h;rcases ba g with⟨i,t,rfl,rfl⟩|⟨x,t,rfl,rfl⟩
    .exact U6 i t _ _ _ _ h
    .exact U3 x t _ _ _ _ h
  |none=>
   cases dP g;cases b with
   |some b=>
    have e:decide (cm=ap b)=false:=decide_eq_false (λz=>nomatch z);rw[e]at h;rcases ba c with⟨i,t,rfl,rfl⟩|⟨x,t,rfl,rfl⟩
    .exact U5 i t _ _ _ _ h
    .exact U4 x t _ _ _ _ h
   |none=>
    cases dP c;exact tI h
 «strs»:=λk x t v h=>by
  cases k with
  |some k=>exact(aW prog w).strs k x t v h
  |none=>cases h
section
variable {X:Cx}{Ym:YB}{Z:St}{H:Hp}{s:el}{a:eg}{Yo:List (aG×V)}{A:kc}{E:YA}
theorem CM{prog:fy}{w:g4}{h:hI}{f:aG->Option ay}(m:h.MapOf (aW prog w) a f):h.MapOf (C8 prog w) a (λk=>match k with|some k=>f k|none=>cm):=by
 obtain⟨o,c,B,p,v,y,j,u⟩:=m;refine⟨o,c,B,p,v,y,λe g=>?_,λk=>?_⟩
 .obtain⟨k,b,z⟩:=j e g
  exact⟨ap k,b,z⟩
 .cases k with
  |some k=>exact u k
  |none=>
   have:∀e∈c,isO cm e.key=false:=λe g=>by
    obtain⟨k,b,_⟩:=j e g;rcases ba b with⟨i,t,_,q⟩|⟨x,t,_,q⟩<;>rw[q]<;>rfl
   have e:c.find? (λe=>(C8 prog w).is cm e.key)=none:=by
    rw[Array.find?_eq_none];intro x n;exact Bool.eq_false_iff.mp (this x n)
   unfold findBy;rw[e];rfl
theorem NH{Q:YA}(I:Inv X Ym Z H s)(e:Rd H a (.dK Yo))(h:∀s',Inv X Ym Z H s'->Q (.bool eC) s'):eH (fv X.prog X.w) A (mu .In .none<|.ref a) Q E s:=by
 obtain⟨z,f,g,b,c⟩:=iT I.hok e;refine wpAny_in_of (knd:=C8 X.prog X.w) (k:=cm) rfl f (CM c.mapOf) ?_;exact h _ (I.tok _)
end
end L2
namespace L3
open PySem L2 LS
section
variable {X:Cx}{B:Bd}
def wa(M:Mem)(x y:D):Option Bool:=match x,y with
 |.non,.ref a=>match M a with
  |some (.dK _)=>ap eC
  |_=>cm
 |_,_=>qM M x y
def BQ:fg:=λx y M Q=>match wa M x y with
 |some k=>Q (.bl k) M
 |none=>False
theorem Ga(z:X.A.units+64<rc):cF X (mu .In) (liftR2 X BQ):=by
 intro b s Z H x y v u Q I g m h;obtain⟨q,w,M,QQ,c,f,i,h,j⟩:=h;unfold BQ at h
 split at h
 .rename_i k e
  unfold wa at e
  split at e
  .rename_i a
   cases f;cases i;cases g;cases m
   split at e
   .rename_i p n
    cases e;obtain⟨E,o,C⟩:=c _ _ n;exact NH I (.inl o) λF I'=>⟨.bl eC,H,I',rfl,j _ M h _ H c Frm.refl rfl⟩
   .cases e
  .refine BF z b s Z H x y v u Q I g m ⟨q,w,M,QQ,c,f,i,?_,j⟩
   unfold Ck;rw[e];exact h
 .exact h.elim
end
end L3
namespace L2
open PySem PySem.Spec PyProof.Rows
variable{z:eg}
theorem nW:XV "reversed" "__init__" "object.__init__":=
 .of (owner:="object") (n:="__init__") (by rw[py,kr];kernel_rfl) (by decide +kernel) (by decide +kernel) (by decide +kernel)
  (by first|exact .inl (by decide +kernel)|exact .inr (by decide +kernel)) (by rw[x9];kernel_rfl)
theorem hW:XV "reversed" "__iter__" "reversed.__iter__":=
 .of (owner:="reversed") (n:="__iter__") (by rw[py,kr];kernel_rfl) (by decide +kernel) (by decide +kernel) (by decide +kernel)
  (by first|exact .inl (by decide +kernel)|exact .inr (by decide +kernel)) (by rw[x9];kernel_rfl)
theorem slot_rev_next:XV "reversed" "__next__" "reversed.__next__":=
 .of (owner:="reversed") (n:="__next__") (by rw[py,kr];kernel_rfl) (by decide +kernel) (by decide +kernel) (by decide +kernel)
  (by first|exact .inl (by decide +kernel)|exact .inr (by decide +kernel)) (by rw[x9];kernel_rfl)
theorem oe:Manifest.owners.lookup (String.ofList ['d','e','s','r','e','v','e','r'].reverse)=ap Manifest.sig_reversed:=by kernel_rfl
theorem fL:Xn Yg "reversed.__next__"=ap Builtin.«reversed.__next__»:=PySem.entryFor_of_tree (by kernel_rfl)
theorem nZ:Xn Yg "reversed.__new__"=ap Builtin.«reversed.__new__»:=entryFor_of_tree (by kernel_rfl)
theorem nK:Xn Yg "reversed.__iter__"=ap Builtin.«dict_keyiterator.__iter__»:=
 XJ (id':="dict_keyiterator.__iter__") (by kernel_rfl) (by first|rfl|decide +kernel|(unfold String.splitOn;simp +decide [String.splitOnAux])) (by decide +kernel) (by kernel_rfl)
theorem nR(a:ay):XQ "reversed.__iter__" ⟨[a],[]⟩:=by
 unfold XQ;rw[signature?_of (id:="reversed.__iter__") (n:=['_','_','r','e','t','i','_','_']) (o:=['d','e','s','r','e','v','e','r']) (by kernel_rfl) oe];kernel_rfl
theorem h7(a:ay):XQ "reversed.__next__" ⟨[a],[]⟩:=by
 unfold XQ;rw[signature?_of (id:="reversed.__next__") (n:=['_','_','t','x','e','n','_','_']) (o:=['d','e','s','r','e','v','e','r']) (by kernel_rfl) oe];kernel_rfl
theorem zQ:mroOf (.type "reversed")=pure [.type "reversed",.type "object"]:=by rw[mroOf_type];kernel_rfl
theorem nz:Re (.type "reversed") "__new__"=pure (ap<|.builtin "reversed.__new__"):=by rw[py,kr];kernel_rfl
theorem uv:TypeCalled "reversed" "reversed.__new__" "object.__init__":=
 ⟨by decide +kernel,by decide +kernel,⟨_,_,zQ⟩,madeBy_type zQ nz (by decide +kernel),by decide +kernel,by rw[x9];kernel_rfl,nW⟩
theorem qF(a:ay):checkTypeCall "reversed" ⟨[a],[]⟩=pure ():=by kernel_rfl
theorem rK(a:ay):checkBuiltinCall "reversed.__new__" ⟨[.type "reversed",a],[]⟩=pure ():=by kernel_rfl
theorem gS(a b:ay):XQ "object.__init__" ⟨[a,b],[]⟩:=by
 unfold XQ;rw[signature?_of (id:="object.__init__") (n:=['_','_','t','i','n','i','_','_']) (o:=['t','c','e','j','b','o']) (by kernel_rfl) F.owner_object];kernel_rfl
theorem Gw:isSubtype (.type "reversed") (.type "reversed")=pure true:=by rw[x9];kernel_rfl
theorem Kv:Re (.type "tuple") "__reversed__"=pure none:=by rw[py,kr];kernel_rfl
theorem BN:isSubtype (.type "tuple") (.type "dict")=pure false:=by rw[x9];kernel_rfl
abbrev oU(h:hI)(z l:eg)(j:Int):Prop:=h.get? z=ap { cls:=.type "reversed",dict:=cm,data:=.fields #[.ref l,.int j 0],slots:=#[] }
section
variable{prog:fy}{w:g4}{A:kc}{E:YA}{s:el}
theorem EL{l:eg}{items:YD}{k:Nat}{x:ay}{Q:Option ay->el->Prop}(a:oU s.heap z l k)(n:XE s.heap l items)(g:items[k]?=ap x)(o:(k:Int)<2 ^ 63)(hQ:∀h',oU h' z l ((k:Int)-1)->RO z s.heap h'->Q (ap x) { s with heap:=h',toks:=s.toks+1 }):
  eH (fv prog w) A (Sc<|.ref z) Q E s:=by
 have m:s.TypeIs (.ref z) "reversed":=⟨_,a,rfl⟩;unfold Sc
 refine ax (SC (wpAny_callSpecial?_slot (name:=QI "__next__") m slot_rev_next
  (nr slot_rev_next m fL ?_<|h7 _)))
 show eH _ _ (W8 (.ref z) 0 >>= _) _ _ s;refine ax (hB a rfl (x:=.ref l) rfl ?_);show eH _ _ (W8 (.ref z) 1 >>= _) _ _ s;refine ax (hB a rfl (x:=.int k 0) rfl ?_);show eH _ _ (if (k:Int)<0 then _ else _) _ _ _
 rw[if_neg (by lia)]
 refine ax (UV (T:="tuple") n.typeIs slot_tuple_getitem.lookup ?_);show eH _ _ (if eC=true then _ else _) _ _ _
 rw[if_neg (by simp)]
 refine ax (wpAny_mkInt ?_);have c:k<items.size:=by
  rcases RC k items.size with h|h
  .exact h
  .rw[Array.getElem?_eq_none h]at g;cases g
 refine ax (SC<|getItem_tuple (s:={ s with toks:=s.toks+1 }) n (k:=k) (j:=k) (x:=x) (by lia) o ?_ g ?_)
 .have e:¬((k:Int)<0):=by lia
  simp[XY,c,if_neg e]
 show eH _ _ (W8 (.ref z) 1 >>= _) _ _ _;refine ax (hB (s:={ s with toks:=s.toks+1 }) a rfl (x:=.int k 0) rfl ?_);refine ax (p3 (s:={ s with toks:=s.toks+1 }) a (by simp) λi b f=>?_)
 exact fe ⟨_,rfl,fe<|hQ _ b f⟩
theorem Hb{l:eg}{j:Int}{Q:Option ay->el->Prop}(C:A.handled=cm)(i:oU s.heap z l j)(F:j<0)(B:∀h',UG z s.heap h'->Q cm { s with heap:=h' }):eH (fv prog w) A (Sc<|.ref z) Q E s:=by
 have u:s.TypeIs (.ref z) "reversed":=⟨_,i,rfl⟩;unfold Sc
 refine ax (SC (wpAny_callSpecial?_slot (name:=QI "__next__") u slot_rev_next
  (nr slot_rev_next u fL ?_<|h7 _)))
 show eH _ _ (W8 (.ref z) 0 >>= _) _ _ s;refine ax (hB i rfl (x:=.ref l) rfl ?_);show eH _ _ (W8 (.ref z) 1 >>= _) _ _ s;refine ax (hB i rfl (x:=.int j 0) rfl ?_);show eH _ _ (if j<0 then _ else _) _ _ _
 rw[if_pos F];refine ax (PP ?_);show eH _ _ ((Yh (.ref z) 1 (wh (-1)) >>= λ_=>Yh (.ref z) 0 .none) >>= _) _ _ _;refine ax (ax (p3 i (by simp) λg n p=>?_))
 refine p3 (s:={ s with heap:=g }) n (by simp) λh y f=>?_
 refine ax ?_;show eH _ _ (newExc (.type "StopIteration") [] >>= _) _ _ _;refine ax ?_;simp only[newExc,newTuple];refine ax (om ?_<|by size_fits)
 refine ax (m:=Xm _ _) (Tk (a:=RL) (by first|rfl|(simp only[Xm];rfl)) ?_)
 refine om ?_ (by size_fits)
 simp only[raiseNew];refine ax (wpAny_handled ?_);rw[show A.in1.handled=cm from C];refine ax (fe<|wpAny_throw ?_);refine ax (Xd (T:="StopIteration") (b:=true) ⟨_,Qg _ rfl,rfl⟩ XI ?_);refine fe (B _ ?_);have q:UG z s.heap h:=λc o v e=>f.extBut _ _ v (p.extBut _ _ v e);exact(q.push _).push _
theorem sS{l:eg}{j:Int}{Q:YA}(b:oU s.heap z l j)(h:Q (.ref z) s):eH (fv prog w) A (pyIter<|.ref z) Q E s:=by
 have a:s.TypeIs (.ref z) "reversed":=⟨_,b,rfl⟩;refine wpAny_pyIter_slot a hW (nr hW a nK ?_<|nR _);show eH _ _ (ret<|.ref z) _ _ s;exact fe ⟨_,rfl,"reversed",_,a,slot_rev_next.lookup,h⟩
theorem Ee{l:eg}{items:YD}{Q:YA}(j:XE s.heap l items)(i:(items.size:Int)<2 ^ 63)(h:∀b h',h'.objs.size=s.heap.objs.size+1->oU h' s.heap.objs.size l ((items.size:Int)-1)->(∀c o,s.heap.get? c=ap o->h'.get? c=ap o)->Q (.ref s.heap.objs.size) { s with heap:=h',toks:=b }):
  eH (fv prog w) A (call (.type "reversed") [.ref l]) Q E s:=by
 refine Ya (S:=λ_ R s=>XE s.heap l items/\∀b,R (.ok<|.ret<|.ref s.heap.objs.size) { s with heap:=s.heap.push { cls:=.type "reversed",data:=.fields #[.ref l,.int ((items.size:Int)-1) 0] },toks:=b })
  uv (by decide) (qF _) (rK _) (λobj=>gS obj _) nZ ?_ ⟨j,λb=>?_⟩
 .refine .of_wp λprog w A R s h=>?_
  obtain⟨j,h⟩:=h;obtain⟨q,g,d,b,p⟩:=s;have f:=Gw;have n:=j.typeIs;unfold Builtin.«reversed.__new__»;refine ax ?_;unfold Builtin.SmallTypes.newClass;refine ax (Tk (a:=true) rfl ?_);rw[if_neg (by simp)]
  refine ax (Tk f ?_);rw[if_neg (by simp)]
  refine fe ?_;refine ax (m:=Builtin.SmallTypes.refuseKeywords _ _ _) (Tk (a:=()) rfl ?_);refine ax (m:=checkCount _ _ _ _) (Tk (a:=()) rfl ?_);refine ax (m:=specialOf _ _) (UV n Kv ?_);refine ax ?_;show eH _ _ (isInstance (.ref l) (.type "dict") >>= _) _ _ _;refine ax (Xd n BN ?_);rw[if_neg (by simp)]
  refine ax (UV (T:="tuple") n slot_tuple_getitem.lookup ?_);show eH _ _ (if (["tuple.__getitem__","str.__getitem__","bytes.__getitem__","bytearray.__getitem__","memoryview.__getitem__","numpy.ndarray.__getitem__","sqlite3.Row.__getitem__"].contains "tuple.__getitem__")=true then _ else _) _ _ _
  rw[if_pos (by decide)]
  refine fe ?_;show eH _ _ (call (.builtin "len") [.ref l] >>= _) _ _ _;refine ax (len_tuple j i ?_);refine ax (Tk (a:=ap (items.size:Int)) rfl ?_);show eH _ _ (newObj (.type "reversed") (.fields #[.ref l,.int ((items.size:Int)-1) 0]) >>= _) _ _ _;refine ax (om ?_<|by size_fits)
  exact fe ⟨_,rfl,h _⟩
 .exact⟨⟨_,Qg _ rfl,rfl⟩,h b _ (QF ..) (Qg _ rfl) λc o e=>PR _ e⟩
end
def Itv(K:PY)(a:eg)(n:Nat):It:=
 ⟨λi H=>i<n/\∃xs x,ie K H a xs/\xs[n-1-i]?=ap x,λi H x H'=>H'=H/\∀xs,ie K H a xs->xs[n-1-i]?=ap x,λi _=>n<=i⟩
theorem C_{P:fy}{w:g4}{K:PY}{tg:gl}(a it:eg)(n:Nat)(hn:n<2 ^ 63):Turn P w K tg (Itv K a n) [it] it (λi h=>oU h it a ((n:Int)-1-i)) where
 mem:=by simp
 obj:=λi h c b j=>by
  have e:b=it:=by simpa using j
  subst e;exact⟨_,c,λv z=>by cases z⟩
 keep:=λi h q c k=>k it (by simp) _ c
 item:=by
  intro X B N A R i f s Z H E I m c y;subst B N A;obtain⟨hi,xs,x,Q,O⟩:=y;obtain⟨M,T,p,hz⟩:=I.tuple Q;obtain⟨u,hu,ru⟩:=T.get O;obtain⟨F,L,U,J,C,G⟩:=m it (by simp)
  have W:(n:Int)-1-i=((n-1-i:Nat):Int):=by lia
  refine EL (k:=n-1-i) (by rw[<- W];exact c) (show XE s.heap a M.toArray from p) (x:=u) (by simpa using hu) (by lia) λq g Y=>?_
  have I1:Inv X f Z H { s with heap:=q,toks:=s.toks+1 }:=I.turned (λb o j e=>(Y.2 b j).trans e) F L J C G;have S:(((n-1-i:Nat):Int))-1=(n:Int)-1-((i+1:Nat):Int):=by lia
  rw[S]at g;exact⟨u,rfl,yD (s:={ s with heap:=q,toks:=s.toks+1 }) g rfl rfl (by decide) ⟨x,H,I1,ru,⟨rfl,λys hy=>by rw[I.tuple_inj hy Q];exact O⟩,g,λb j=>(m b j).1⟩⟩
 done:=by
  intro X B N A R i f s Z H E I m c y;subst B N A;obtain⟨F,L,U,J,C,G⟩:=m it (by simp)
  have hg':n<=i:=y;exact Hb (I.ok.hd R) c (by lia) λq eb=>⟨rfl,I.turned (t':=s.toks) (λb o j e=>eb b o j e) F L J C G⟩
 self:=λ_ _ _ _ _ c h=>sS c h
section
variable{X:Cx}{tg:gl}
def iRev(K:PY)(t:TA):TI:=λZ H R=>t Z H λa H1=>∃l xs,a=[.ref l]/\ie K H1 l xs/\R (Itv K l xs.length) H1
theorem L5:gp "reversed"=ap (.type "reversed"):=by decide +kernel
theorem KE{a:gl}{w:TA}{p pos:Pos}(L:Gl X "reversed")(J:X.mg "reversed"=cm)(N:PA X [a] w)(M:ff [a] X.env=[(eC,g3 a X.env)]:=by rfl):
  PI X tg (.Call (.Name "reversed" p) [a] [] pos) (iRev X.K w):=by
 intro c s Z H R I h;refine Call_ (eJ I L J L5<|QL (bp (N pos c s Z H _ I h) λP f ⟨Q,H1,I1,C,m⟩=>?_) M rfl);obtain⟨l,j,e,m,q⟩:=m;subst e;obtain⟨O,rfl,o⟩:=C.one;cases o;obtain⟨g,B,x,A⟩:=I1.tuple m;have u:=B.length;have y:j.length<2 ^ 63:=Te A (by decide)
 refine Ee (show XE f.heap l g.toArray from x) (by simp;lia) λn v F i E=>?_
 have I2:Inv X c Z H1 { f with heap:=v,toks:=n }:=I1.kept (t':=n) E;refine sS (s:={ f with heap:=v,toks:=n }) i ?_;refine⟨f.heap.objs.size,[f.heap.objs.size],_,_,H1,rfl,I2,C_ l _ j.length (by lia),?_,λb G=>?_,q⟩
 .have e:((g.toArray.size:Nat):Int)-1=(j.length:Int)-1-((0:Nat):Int):=by simp;lia
  rw[e]at i;exact i
 .have e:b=f.heap.objs.size:=by simpa using G
  subst e;exact I1.fpOk (PZ _) (I1.hok.fresh<|PZ _)
end
end L2
namespace L3
open PySem L2 LS
section
variable {X:Cx}{B:Bd}{tg:gl}{K:PY}{H:Hp}{M:Mem}
def KB(t:fC):Bx:=λU M R=>t U M λa M1=>match a with
 |[.tup xs]=>R ⟨xs.reverse,[]⟩ M1
 |_=>False
theorem Ky{a:gl}{E:fC}{p pos:Pos}(N:Gl X "reversed")(L:X.mg "reversed"=cm)(P:DA X B [a] E)(O:ff [a] X.env=[(eC,g3 a X.env)]:=by rfl):
  DI X B tg (.Call (.Name "reversed" p) [a] [] pos) (KB E):=by
 refine lZ (KE N L P O) ?_
 rintro Z H R ⟨U,M,RR,s,h,J⟩
 refine⟨U,M,_,s,h,λds M1 m Q H1 e G I=>?_⟩
 split at m
 .rename_i C
  obtain⟨v,rfl,q,c,rfl,o,A⟩:=gP (ds:=[]) I;have z:=A.length;refine⟨q,c,rfl,o.sq,J _ M1 m _ H1 e G λi H2 M2 j n _=>⟨λd b=>?_,λg=>?_⟩⟩
  .have y:i<C.length:=by
    rcases RC i C.length with h|h
    .exact h
    .rw[QU (by rw[V1];exact h)]at b;cases b
   rw[List.getElem?_reverse y]at b;obtain⟨w,u,f⟩:=(A.mono j).get b;rw[z]at u;refine⟨⟨by rw[<- z];exact y,c,w,(o.mono j).sq,u⟩,?_⟩
   rintro x H3 ⟨rfl,F⟩
   have:=F c (o.mono j).sq;rw[u]at this;cases this;exact⟨Frm.refl,n,f⟩
  .show c.length<=i
   rw[V1]at g;lia
 .exact m.elim
end
end L3
namespace L3
open PySem L2
section
variable {X:Cx}{B:Bd}{C:eg}{f:Str}{o value:gl}{ta tv:bu}{pos tpos:Pos}
def qg(C:eg)(ta tv:bu)(f:Str):av:=λD U M=>ta U M λx M1=>match x with
 |.ref a=>match M1 a with
  |some (.ins C' fs)=>C'=C/\fs.length<1000/\match fs.lookup f with
   |some (.int i)=>tv U M1 λy M2=>match y with
    |.int j=>M2 a=ap (.ins C fs)/\D.nx U (M2.upd a<|.ins C<|bJ f (.int (i-j)) fs)
    |_=>False
   |_=>False
  |_=>False
 |_=>False
theorem Bm(c:Cls X.K C)(n:NoAttr X.K C f)(ha:DE X B o ta)(hv:DE X B value tv):DS X B (.AugAssign (.Attribute o f tpos) .Sub value pos) (qg C ta tv f):=by
 refine bL (o6 ha hv Lk) ?_
 rintro D Z H ⟨U,M,DD,s,h,up⟩
 refine⟨U,M,_,s,h,λx M1 h1 v1 H1 rh1 i1 r1=>?_⟩
 split at h1
 .rename_i a
  cases r1
  split at h1
  .rename_i C' fs hM
   obtain⟨rfl,hl,h1⟩:=h1
   split at h1
   .rename_i i hf
    obtain⟨dx,ws,e1,e2⟩:=rh1 _ _ hM;obtain⟨z,_⟩|⟨d,w,hd,hw,rw1⟩:=e2.lookup f
    .rw[hf]at z;cases z
    rw[hf]at hd;cases hd;cases rw1;refine⟨a,C',dx,ws,.int i,rfl,e1,c,n,hw,U,M1,_,s.go rh1 i1,h1,λy M2 h2 v2 H2 rh2 i2 r2=>?_⟩
    split at h2
    .rename_i j
     cases r2;obtain⟨hM2,h2⟩:=h2;obtain⟨dx2,ws2,e3,e4⟩:=rh2 _ _ hM2;have i3:Frm M2 H2 (M2.upd a<|.ins C'<|bJ f (.int (i-j)) fs) (upd H2 a<|.ins C' dx2<|L2.de f (.int (i-j)) ws2):=Frm.put (.inr ⟨_,hM2⟩);refine⟨i,j,rfl,rfl,dx2,ws2,e3,by rw[<- e4.length];exact hl,up.nx _ _ h2 Z _ ((i1.trans i2).trans i3)<|s.go (rh2.put (by rw[e3];trivial) ⟨dx2,_,upd_same,?_⟩)<|(i1.trans i2).trans i3⟩
     exact(jp (show Rp X.K H2 (.int (i-j)) (.int (i-j)) from rfl) e4).mono (i3.imm rh2)
    .exact h2.elim
   .exact h1.elim
  .exact h1.elim
 .exact h1.elim
end
section
variable {X:Cx}{B:Bd}
def lx:Bh:=λx a M Q=>match x,a with
 |.int i,[]=>Q (.int ((Rh i:Nat):Int)) M
 |_,_=>False
theorem uT:wc X "int.bit_length" (liftM X lx):=by
 intro a s Z H x m v j Q I e c h;obtain⟨d,n,M,QQ,b,r,f,h,g⟩:=h;unfold lx at h
 split at h
 .rename_i i
  cases r;cases f;obtain⟨t,rfl⟩:=e;cases c;exact PyProof.Rows.call_int_bit_length ⟨.int _,H,I.tok _,⟨_,rfl⟩,g _ M h _ H b Frm.refl rfl⟩
 .exact h.elim
end
end L3
namespace L2
open PySem PySem.Spec PyProof.Rows
variable{cl:List (Str×eg)}{scope:SB}
theorem BR{x:Str}{c:eg}:∀(names:List (Str×Xp))(h:hI)(Yp:List (Str×eg)),(t3 h.objs.size names Yp).lookup x=ap c->
  Yp.lookup x=ap c\/(h.objs.size<=c/\(WF h names).IsCell c cm/\(x,Sz)∈names)
 |[],_,_,e=>.inl e
 |(n,k)::r,h,Yp,e=>by
  unfold t3 at e;unfold WF
  by_cases b:(k==.cell)=true
  .rw[if_pos b]at e ⊢
   have f:(h.push { cls:=.type "cell",data:=.cell cm }).objs.size=h.objs.size+1:=QF ..;rw[<- f]at e;rcases BR r _ _ e with z|⟨z1,z2,z3⟩
   .rw[Sb]at z
    cases a:x==n with
    |true=>
     rw[a]at z;cases z;rw[beq_iff_eq.mp a];exact .inr ⟨PZ _,⟨_,Xj _ _ _ _ (Qg _ rfl),rfl⟩,by rw[beq_iff_eq.mp b];exact Qm⟩
    |false=>rw[a]at z;exact .inl z
   .exact .inr ⟨by lia,z2,Qf _ z3⟩
  .rw[if_neg b]at e ⊢
   rcases BR r _ _ e with z|⟨z1,z2,z3⟩
   .exact .inl z
   .exact .inr ⟨z1,z2,Qf _ z3⟩
theorem vw:∀(names:List (Str×Xp))(n:Nat)(Yp:List (Str×eg)),(∀x y c,Yp.lookup x=ap c->Yp.lookup y=ap c->x=y)->(∀x c,Yp.lookup x=ap c->c<n)->
  ∀x y c,(t3 n names Yp).lookup x=ap c->(t3 n names Yp).lookup y=ap c->x=y
 |[],_,_,h,_=>h
 |(z,k)::r,n,Yp,h,hl=>by
  unfold t3
  split
  .refine vw r _ _ (λx y c b a=>?_) λx c e=>?_
   .rw[Sb]at b a
    cases f:x==z<;>cases g:y==z<;>rw[f]at b<;>rw[g]at a
    .exact h x y c b a
    .cases a;exact absurd (hl _ _ b) (QK _)
    .cases b;exact absurd (hl _ _ a) (QK _)
    .rw[beq_iff_eq.mp f,beq_iff_eq.mp g]
   .rw[Sb]at e
    cases f:x==z<;>rw[f]at e
    .exact SE (hl _ _ e)
    .cases e;exact SH _
  .exact vw r _ _ h hl
theorem ud{M:Model}{A:kc}{E:YA}{s:el}{g:eg}{a:Str}{env:Env}{Q:Env->el->Prop}(h:Q (newEnv scope s.heap.objs.size g (t3 (s.heap.objs.size+1) scope.names cl) a cm .none (ap env) XM) { s with heap:=WF (s.heap.push { cls:=.type "dict",data:=.dict #[] }) scope.names }):
  eH M A (Xl scope g cl [] a cm .none<|some env) Q E s:=by
 simp only[Xl,VT,if_true];refine ax (wpAny_alloc ?_);refine ax (wpAny_layCells _ (λf b c=>by cases e:b==Sz<;>simp[e]) _ _ _ _ ?_)
 rw[show ({ s with heap:=s.heap.push { cls:=.type "dict",data:=.dict #[] } }:el).heap.objs.size=s.heap.objs.size+1 from QF ..];exact ax (by rw[TY];exact fe (fe h))
abbrev bt(X:Cx)(N:Yv)(scope:SB)(cl:List (Str×eg))(C:eg)(s₀:el)(H₀:Hp)(fp:Yx)(pl:YB):Cx:=
 { bb X N scope (t3 (C+1) scope.names cl) C s₀ H₀ fp pl with fn:=λx=>scope.names.lookup x==ap .cell }
structure CompOkC(X:Cx)(scope:SB)(cl:List (Str×eg))(ls fs:Yv)(js:List Nat):Prop where
 kind:scope.kind=.function
 locs:∀x∈scope.names,x.2=.local->scope.names.lookup x.1=ap .local
 clos:T0 scope X.env=pure cl
 cells:∀x c,cl.lookup x=ap c->X.env.cells.lookup x=ap c
 has:∀x,((TD scope X.env).names.lookup x=ap .cell\/(TD scope X.env).names.lookup x=ap .free)->scope.names.lookup x=ap .cell\/∃c,cl.lookup x=ap c
 frees:Frees X scope fs js
 own:∀x∈fs,(x,Sz)∉scope.names
 once:∀x∈scope.names,x.2=.cell->∀c,cl.lookup x.1=ap c->False
theorem Az{X:Cx}{a:YB}{Z:St}{H:Hp}{s:el}{ls fs:Yv}{E:List Nat}{T:Yx}{t':Nat}(I:Inv X a Z H s)(co:CompOkC X scope cl ls fs E)(w:∀b∈T,fR X a H b/\b<s.heap.objs.size):
  Inv (bt X (ls++fs) scope cl s.heap.objs.size s H T a) [] (bP ls E Z) H { s with heap:=WF (s.heap.push { cls:=.type "dict",data:=.dict #[] }) scope.names,toks:=t' }:=by
 have C:∀b o,s.heap.get? b=ap o->(WF (s.heap.push { cls:=.type "dict",data:=.dict #[] }) scope.names).get? b=ap o:=λb o e=>Xj _ _ _ _ (PR _ e);have lk:∀b o,s.heap.get? b=ap o->b≠s.heap.objs.size:=λb o e=>Qk (Qb e);have g:∀{x:Str}{c:eg},(t3 (s.heap.objs.size+1) scope.names cl).lookup x=ap c->cl.lookup x=ap c\/(s.heap.objs.size+1<=c/\(WF (s.heap.push { cls:=.type "dict",data:=.dict #[] }) scope.names).IsCell c cm/\(x,Sz)∈scope.names):=λ{x c} e=>by
  have hs:(s.heap.push { cls:=.type "dict",data:=.dict #[] }).objs.size=s.heap.objs.size+1:=QF ..;rw[<- hs]at e ⊢;exact BR _ _ _ e
 have L:∀{x:Str}{c:eg},cl.lookup x=ap c->c<s.heap.objs.size:=λ{x c} e=>by
  obtain⟨v,z⟩:=I.cell x c (co.cells x c e);exact z.lt
 have hcs:(bt X (ls++fs) scope cl s.heap.objs.size s H T a).env.cells=t3 (s.heap.objs.size+1) scope.names cl:=rfl;refine⟨⟨I.ok.mod,co.kind,I.ok.glob,I.ok.blt,PZ _,λx y c N G=>?_,λx J=>?_,λx c h e=>?_,I.ok.hd,I.ok.frames,.inl rfl,λb m=>⟨Qk (w b m).2,λx c e=>?_⟩,
   λb o e=>I.bs b o e,Qp I.ok.bsz I.sz,λb o e m=>?_,λb m hf=>?_,I.stack,λb m=>I.stkFree b m⟩,
  rfl,I.bare,Un.kept C,⟨λ_=>cm,(Heap.Ns.new s.heap<|.type "dict").keeps (Xj _ _),λi x v N G h3=>?_⟩,λx c e=>?_,I.hok.fresh (PZ _),λx c e=>?_,λp hp=>?_,I.hok.kept C,?_⟩
 .refine vw scope.names _ cl (λx y c e1 e2=>I.ok.inj x y c (co.cells x c e1) (co.cells y c e2)) (λx c e=>SE (L e)) x y c N G
 .rcases co.has x J with z|⟨c,z⟩
  .exact Rz.mp (SQ _ _ _<|.inl z)
  .exact Rz.mp (SQ _ _ _<|.inr<|by rw[z];rfl)
 .rcases g e with z|⟨z,_,_⟩
  .exact(co.once _ (QS<|beq_iff_eq.mp h) rfl c z).elim
  .exact Uv z
 .rcases g e with z|⟨z,_,_⟩
  .exact(w b m).1.2.2.2.2.1 x c (co.cells x c z)
  .exact RB (Qc (w b m).2<|Uv z)
 .obtain⟨f0,f1,Y,f3,_⟩:=(w b m).1
  rcases f3 with z|z
  .exact I.ok.noex b o e z
  .exact absurd (Qc (Qb (I.ok.bs b o e).1) z) (QK _)
 .obtain⟨f0,f1,Y,f3,_⟩:=(w b m).1
  rcases Ql.mp (I.stkSub b hf) with z|z
  .exact f1 z
  .exact Y z
 .have F:¬i<ls.length:=λF=>by
   have f:(bP ls E Z)[i]?=ap (ap v):=G;unfold bP at f;rw[QY (by simpa using F),Qj,PV F]at f
   cases f
  have hN:fs[i-ls.length]?=ap x:=by
   have P:(ls++fs)[i]?=ap x:=N
   rwa [QD (by lia)]at P
  obtain⟨j,hj,J,hc,W⟩:=co.frees.get hN;have M:Z[j]?=ap (ap v):=by
   have f:(bP ls E Z)[i]?=ap (ap v):=G;unfold bP at f;rw[QD (by simpa using F),PQ,Qj,hj]at f
   have q:(Z[j]?).join=ap v:=by simpa using f
   cases e:Z[j]? with
   |none=>rw[e]at q;cases q
   |some o=>rw[e]at q;have q':o=ap v:=q;rw[q']
  obtain⟨mX,_,K⟩:=I.loc;have S:Kt X.env.scope x:=by
   rcases hc with z|z
   .exact .inr (.inl z)
   .exact .inr (.inr z)
  obtain⟨u,ru,lo⟩:=K j x v J M S;refine⟨u,ru,.inr ⟨W,?_⟩⟩;have B:x∈fs:=SM hN;have A:∃c,(t3 (s.heap.objs.size+1) scope.names cl).lookup x=ap c:=by
   rcases co.has x W with z|⟨c,z⟩
   .exact absurd (QS z) (co.own x B)
   .exact Rz.mp (SQ _ _ _<|.inr<|by rw[z];rfl)
  obtain⟨c,ec⟩:=A;refine⟨c,ec,?_⟩;have Q:cl.lookup x=ap c:=by
   rcases g ec with z|⟨_,_,z⟩
   .exact z
   .exact absurd z (co.own x B)
  rcases lo with⟨U,_⟩|⟨_,c',e',z⟩
  .rcases hc with q|q<;>(rw[q]at U;cases U)
  .rw[co.cells x c Q]at e'
   cases e';obtain⟨o,O,hd⟩:=z;exact⟨o,C _ _ O,hd⟩
 .rcases g e with z|⟨_,z,_⟩
  .obtain⟨v,o,O,hd⟩:=I.cell x c (co.cells x c z)
   exact⟨v,o,C _ _ O,hd⟩
  .exact⟨_,z⟩
 .rcases g e with z|⟨z,_,_⟩
  .exact I.freeC x c (co.cells x c z)
  .exact I.hok.fresh (Uv z)
 .have R:p∈X.pn++a:=by
   have q:p∈(X.pn++a)++[]:=hp;simpa using q
  obtain⟨e,n,ne,nf,d⟩:=I.pin p R;refine⟨C _ _ e,n,lk _ _ e,λm=>?_,d⟩;rcases Ql.mp (I.stkSub p.1 m) with z|z
  .exact ne z
  .exact nf z
 .show (bP ls E Z).length=(ls++fs).length
  unfold bP;rw[PX,PQ,PQ,PX,co.frees.length]
section
variable{X:Cx}{tg iter elt:gl}{ifs:Yy}{pos:Pos}{ls fs:Yv}{js:List Nat}{wi:TI}{g:TG}{tt:TT}{te:TE}
theorem Bc{a:YB}{Z:St}{f:el}{it:eg}{j:Yx}{tn:Nat->hI->Prop}{J:It}{H1:Hp}{R:ay->eg->XR->el->Prop}{Q:VK}{E:YA}(hc:X.calm=true)(co:CompOkC X scope cl ls fs js)(hY:∀(C:eg)(s₀:el)(H₀:Hp)(j:Yx)(pl:YB),PG (bt X (ls++fs) scope cl C s₀ H₀ j pl) tg g/\HV (bt X (ls++fs) scope cl C s₀ H₀ j pl) ifs tt/\PE (bt X (ls++fs) scope cl C s₀ H₀ j pl) elt te)(I:Inv X a Z H1 f)(T:Turn X.prog X.w X.K tg J j it tn)(st:tn 0 f.heap)(M:∀b∈j,fR X a H1 b)(q:∀p,H1 p=cm->∃W:Nat->Nat->St->Hp->Prop,(∃m,W 0 m (bP ls js Z) (upd H1 p<|.lst []))/\∀i m s H',W i m s H'->
   (J.stop i H'/\Q (.ref p) H')\/(J.go i H'/\∃N:St->Hp->Prop,(∀σ2 H2,N σ2 H2->∃m',m'<m/\W (i+1) m' σ2 H2)/\∀x H2,J.yld i H' x H2->g x s H2 λσ3 H3=>tt σ3 H3 λc H4=>
    if c=true then te σ3 H4 λy H5=>∃ys,H5 p=ap (.lst ys)/\ys.length<sizeLine/\N σ3 (upd H5 p<|.lst (ys++[y])) else N σ3 H4))(hR:∀(p C:eg)(H':Hp)(s':el)(m:YC),s'.heap.Ns C m->Inv X a Z H' s'->H' C=cm->C≠X.env.locals->X.s₀.heap.objs.size<=C->(∀x c,X.env.cells.lookup x=ap c->c≠C)->(∀pp∈X.pn++a,pp.1≠C)->Q (.ref p) H'->R (.ref p) C (.ok .next) s'):
  eH (fv X.prog X.w) X.A (newList []) (λYp s₃=>eH (fv X.prog X.w) X.A (Xl scope X.env.globals cl [] X.env.qual cm .none<|some X.env) (λcenv s₄=>
   SZ (fv X.prog X.w) X.A (.compStart (.ListComp elt [⟨tg,iter,ifs,0⟩] scope pos) 0 (.ref it) Yp { cenv with scope:=TD scope X.env }) (R Yp cenv.locals) s₄) E s₃) E f:=by
 have hp0:H1 f.heap.objs.size=none:=I.hok.fresh (PZ _);obtain⟨W,⟨m0,w0⟩,turn⟩:=q f.heap.objs.size hp0;refine om (ud ?_);dsimp only;have I3:Inv X a Z (upd H1 f.heap.objs.size<|.lst []) { f with heap:=f.heap.push { cls:=.type "list",dict:=cm,data:=.seq ([]:Yw).toArray } }:=
  I.lnew (Ys:=[]) (t':=f.toks) .nil (Rq _)
 generalize hs3:({ f with heap:=f.heap.push { cls:=.type "list",dict:=cm,data:=.seq ([]:Yw).toArray } }:el)=s3 at I3;have H:f.heap.push { cls:=.type "list",dict:=cm,data:=.seq ([]:Yw).toArray }=s3.heap:=by rw[<- hs3]
 rw[H];have U:s3.heap.objs.size=f.heap.objs.size+1:=by rw[<- H,QF]
 have hk3:∀b o,f.heap.get? b=ap o->s3.heap.get? b=ap o:=λb o e=>by rw[<- H];exact PR _ e
 have hlt:∀b∈j,b<f.heap.objs.size:=λb h=>by
  obtain⟨o,e,_⟩:=T.obj _ _ st b h;exact Qb e
 have hnp:∀b∈j,upd H1 f.heap.objs.size (.lst []) b=none:=λb h=>by
  rw[aK (Qk<|hlt b h)];exact(M b h).1
 have Y:∀b∈j,fR X a (upd H1 f.heap.objs.size<|.lst []) b/\b<s3.heap.objs.size:=λb h=>⟨⟨hnp b h,(M b h).2⟩,by rw[U];exact SE (hlt b h)⟩
 have hk4:∀b o,s3.heap.get? b=ap o->(WF (s3.heap.push { cls:=.type "dict",data:=.dict #[] }) scope.names).get? b=ap o:=λb o e=>Xj _ _ _ _ (PR _ e);have I4:=Az (t':=s3.toks) I3 co Y;generalize WF (s3.heap.push { cls:=.type "dict",data:=.dict #[] }) scope.names=h₁ at hk4 I4;have st4:tn 0 h₁:=T.keep _ _ _ st λb h o e=>hk4 b o (hk3 b o e);obtain⟨hg,ht,he⟩:=hY s3.heap.objs.size s3 (upd H1 f.heap.objs.size<|.lst []) j a;have F:∀{H':Hp},(∀b∈j,H' b=cm)->∀b∈j,fR (bt X (ls++fs) scope cl s3.heap.objs.size s3 (upd H1 f.heap.objs.size<|.lst []) j a) [] H' b:=λ{H'} hn b h=>by
  obtain⟨f0,f1,f2,f3,f4,f5⟩:=M b h;refine⟨hn b h,Qk (Y b h).2,λz=>?_,.inl h,λx c e=>(I4.ok.exf b h).2 x c e,λpp P=>f5 pp ?_⟩
  .rcases Ql.mp (I3.stkSub b z) with y|y
   .exact f1 y
   .exact f2 y
  .have q:pp∈(X.pn++a)++[]:=P
   simpa using q
 have loop:∀s₄:el,s₄={ s3 with heap:=h₁,toks:=s3.toks }->
   SZ (fv X.prog X.w) X.A (.compLoop (.ListComp elt [⟨tg,iter,ifs,0⟩] scope pos) 0 (.ref it) (.ref f.heap.objs.size)<|compEnvC scope (t3 (s3.heap.objs.size+1) scope.names cl) s3.heap.objs.size X.env) (R (.ref f.heap.objs.size) s3.heap.objs.size) s₄:=by
  rintro s₄ rfl
  refine jm (λn s'=>∃i s H',Inv (bt X (ls++fs) scope cl s3.heap.objs.size s3 (upd H1 f.heap.objs.size<|.lst []) j a) [] s H' s'/\tn i s'.heap/\(∀b∈j,H' b=cm)/\W i n s H') ?_ m0 ⟨0,_,_,I4,st4,hnp,w0⟩
  rintro n s5 ⟨i,G,H5,I5,st5,fr5,w5⟩
  rcases turn i n G H5 w5 with⟨stop,qn⟩|⟨go,N,hN,step⟩
  .refine bp (T.done (bt X (ls++fs) scope cl s3.heap.objs.size s3 (upd H1 f.heap.objs.size<|.lst []) j a) rfl rfl rfl hc i [] s5 G H5 _ I5 (F fr5) st5 stop) λr s6 ⟨hr,I6⟩=>?_
   subst hr;obtain⟨m6,hn6,_⟩:=I6.loc;have IX:Inv X a Z H5 s6:=I3.call' I6.os I6.base I6.hok I6.bare λb h=>⟨(M b h).2.2.2.1,(M b h).2.1,(M b h).2.2.2.2.1,(M b h).2.2.2.2.2⟩;refine hR _ _ H5 s6 m6 hn6 IX I6.free (RB I3.lt) I3.sz (λx c e z=>?_) (λpp P z=>?_) qn
   .obtain⟨v,zz⟩:=I3.cell x c e
    have zl:=zz.lt;rw[z]at zl;exact QK _ zl
   .have zl:=Qb (I3.pin pp P).1
    rw[z]at zl;exact QK _ zl
  .refine bp (T.item (bt X (ls++fs) scope cl s3.heap.objs.size s3 (upd H1 f.heap.objs.size<|.lst []) j a) rfl rfl rfl hc i [] s5 G H5 _ I5 (F fr5) st5 go) λr s6 ⟨u,hr,h6⟩=>?_
   subst hr;refine bp h6 λ_ s7 ⟨x,H7,I7,r7,y7,L,fr7⟩=>?_;have I7':=I7.pinned (F fr7) (T.obj _ _ L);refine bp (hg _ s7 G H7 x u _ I7' r7<|step x H7 y7) λ_ s8 ⟨S,H8,I8,q8⟩=>?_
   have again:∀{B:St}{H9:Hp}{O:el},Inv (bt X (ls++fs) scope cl s3.heap.objs.size s3 (upd H1 f.heap.objs.size<|.lst []) j a) ([]++jt j s7.heap) B H9 O->N B H9->
     ∃m,m<n/\∃i s H',Inv (bt X (ls++fs) scope cl s3.heap.objs.size s3 (upd H1 f.heap.objs.size<|.lst []) j a) [] s H' O/\tn i O.heap/\(∀b∈j,H' b=cm)/\W i m s H':=λ{B H9 O} I9 n9=>by
    obtain⟨m',hm,w9⟩:=hN B H9 n9;refine⟨m',hm,i+1,B,H9,I9.unpinned,T.keep _ _ _ L λb h o e=>(I9.pin (b,o)<|Qw _<|Qw _<|cX h e).1,λb h=>?_,w9⟩;obtain⟨o,e,d⟩:=T.obj _ _ L b h;exact(I9.pin (b,o)<|Qw _<|Qw _<|cX h e).2.1
   refine bp (ht _ s8 S H8 _ I8 q8) λok O ⟨H9,I9,q9⟩=>?_;cases ok with
   |false=>exact again I9 q9
   |true=>
    refine bp (he _ O S H9 _ I9 q9) λxv s10 ⟨y,H10,I10,r10,ys,P,hl,n10⟩=>?_;obtain⟨z,Ys,n',r,hl',e⟩:=I10.lstM P;refine vb SY ⟨_,e,rfl⟩ Ue (T3 _ _) (Uc f.heap.objs.size Ys.toArray n' xv<|by rw[Qd];lia) ⟨e,?_⟩
    refine again (I10.lset (its':=Ys++[xv]) P e (by simp) (r.append<|.cons r10 .nil) ?_) n10
    rw[PX,Rc];lia
 have se:({ f with heap:=h₁ }:el)={ s3 with heap:=h₁,toks:=s3.toks }:=by rw[<- hs3]
 exact X9 (loop _ se) (T.self _ 0 _ _ _ st4<|loop _ se)
theorem F4(W:X.calm=true)(co:CompOkC X scope cl ls fs js)(S:PI X tg iter wi)(P:∀(C:eg)(a:el)(H₀:Hp)(j:Yx)(pl:YB),PG (bt X (ls++fs) scope cl C a H₀ j pl) tg g/\HV (bt X (ls++fs) scope cl C a H₀ j pl) ifs tt/\PE (bt X (ls++fs) scope cl C a H₀ j pl) elt te)(U:∀x,o4 iter X.env x=pure x):PE X (.ListComp elt [⟨tg,iter,ifs,0⟩] scope pos) (yf wi ls js g tt te):=by
 intro c s Z H Q I h;rw[eval_ListComp];refine Xa (use:=cm) rfl U co.clos co.kind co.locs (bp (S c s Z H _ I h) λxv s1 F=>bp F λG Y K=>?_);obtain⟨it,j,tn,J,H2,e,I2,T,u,z,q⟩:=K;subst e;refine Bc (R:=λv C=>compPost (fv X.prog X.w) X.A X.xe cm (EP X c Z Q) v C) (Q:=Q) W co P I2 T u z q ?_;intro p C H' y m O IX E L n f i M;exact⟨m,O,λh' B=>⟨.ref p,H',IX.turned (t':=y.toks) (λb o N e=>B.extBut b o N e) E L (.inr n) f i,rfl,M⟩⟩
end
end L2
namespace L3
open PySem L2
section
variable {X:Cx}{B:Bd}{scope:SB}{cl:List (Str×eg)}{ls fs:Yv}{js:List Nat}{tg iter elt:gl}{ifs:Yy}{wi:Bx}{g:jB}{tt:fG}{te:bu}{pos:Pos}
theorem Pa{N:Yv}{C:eg}{a:el}{H₀:Hp}{b:Yx}{pl:YB}(h:N.Nodup):(bt X N scope cl C a H₀ b pl).N.Nodup:=h
theorem Go(h:FC X scope fs js cl)(s:scope.kind=.function)(f:∀y∈scope.names,(y.2=.free->y.1∈fs)/\(y.2=.cell->y.1∉fs/\scope.names.lookup y.1=ap .cell))(u:∀x∈scope.names,x.2=.local->scope.names.lookup x.1=ap .local)
  (m:T0 scope X.env=pure cl):CompOkC X scope cl ls fs js:=by
 obtain⟨b,v,a,p,n⟩:=h.ok;subst p;refine⟨s,u,m,λy d h=>n (y,d) (QS h),λy h=>?_,b,λx i j=>((f _ j).2 rfl).1 i,λx i j c e=>((f _ i).2 j).1 (Sl<|QS e).1⟩;have q:scope.names.lookup y=ap .cell\/y∈fs:=by
  rcases h with h|h
  .obtain⟨o,b,a|⟨a,_⟩⟩:=cJ h
   .exact .inl ((f _ b).2 a.symm).2
   .exact .inr ((f _ b).1 a)
  .obtain⟨o,b,a|⟨a,_⟩⟩:=cJ h
   .exact .inr ((f _ b).1 a.symm)
   .exact .inr ((f _ b).1 a)
 exact q.imp id (fM a)
theorem EU(q:(scope.names.any λy=>y.2==Sz)=true)(p:X.calm=true)(h:FC X scope fs js cl)(m:scope.kind=.function)(i:∀y∈scope.names,(y.2=.free->y.1∈fs)/\(y.2=.cell->y.1∉fs/\scope.names.lookup y.1=ap .cell))(n:∀x∈scope.names,x.2=.local->scope.names.lookup x.1=ap .local)
  (c:T0 scope X.env=pure cl) (e:DI X B tg iter wi)
  (f:∀(C:eg)(a:el)(H₀:Hp)(b:Yx)(pl:YB),DG (bt X (ls++fs) scope cl C a H₀ b pl) rq tg g)
  (o:∀(C:eg)(a:el)(H₀:Hp)(b:Yx)(pl:YB),IV (bt X (ls++fs) scope cl C a H₀ b pl) rq ifs tt)
  (hE:∀(C:eg)(a:el)(H₀:Hp)(b:Yx)(pl:YB),DE (bt X (ls++fs) scope cl C a H₀ b pl) rq elt te)
  (j:∀x,o4 iter X.env x=pure x):DE X B (.ListComp elt [⟨tg,iter,ifs,0⟩] scope pos) (aY wi ls js g tt te):=
 a_ (F4 (g:=liftG0 X.K g) (tt:=liftT0 X.K tt) (te:=liftE0 X.K te) p (Go h m i n c) e (λC a H₀ b pl=>⟨vE (f C a H₀ b pl),qu (o C a H₀ b pl),vD<|hE C a H₀ b pl⟩) j) λ_ _ _ h=>jK h
end
section
variable {P:fy}{w:g4}{K:PY}{mg:YC}{base h:hI}{k n:Nat}{f C:eg}{fd:g5}{N ps:Yv}{S:Sd}{T:DX->av}{x Yn:Str}{st:rz}{dv:Int}
theorem fnDV(F:FunV K x Yn st f fd)(S:FnScope N ps (aQ st))
  (y:∀(b:ay)(A:kc)(a:List Env)(s:el)(H:Hp)(E:XK)(B:Bd)(EE:DX),Room k (A.deeper<|SD Yn (aQ st) s.heap.objs.size f b)->um K B EE E->
   yd (dN (oq P w) P w K mg base N Yn (aQ st) f b A a s H E) B (bB st) (T EE)):
  FnOk P w K mg base (oq P w) (k+1) f fd ps (bO K ps.length<|aJ N T):=by
 obtain⟨L,G,kV,v,z,I,b,O,j,_,rfl,lk,c⟩:=F.ex;refine IH lk c S (λi H Q E h=>h.1) λA a s H i Q E p e=>?_;obtain⟨J,m,M,QQ,EE,rh,r,o,u,ux⟩:=e;refine⟨_,y b A a s H E (Bd.of M H) (aB EE) p ux.drp,startN N m,M,{ nx:=λ_ M'=>drp QQ .non M',rt:=drp QQ },⟨Frm.refl,rh,.startN N r⟩,o,⟨?_,u.drp,?_,?_⟩⟩
 .exact λU M' q Z H' f g=>u.drp _ M' q _ H' g.rh f rfl
 .exact λU M' q=>(show False from q).elim
 .exact λU M' q=>(show False from q).elim
abbrev OkV(P:fy)(w:g4)(mg:YC)(base:hI)(_:FunV K x Yn st f fd)(_:Binds K fd ps [])(k:Nat)(S:Sd):Prop:=FnOk P w K mg base (oq P w) k f fd ps (bO K ps.length S)
theorem NZ(i:S=aJ N T)(F:FunV K x Yn st f fd)(b:Binds K fd ps [])(e:FnScope N ps (aQ st))
  (g:FnScope N ps (aQ st)->∀(c:ay)(A:kc)(a:List Env)(s:el)(H:Hp)(E:XK)(B:Bd)(EE:DX),Room k (A.deeper<|SD Yn (aQ st) s.heap.objs.size f c)->um K B EE E->
   yd (dN (oq P w) P w K mg base N Yn (aQ st) f c A a s H E) B (bB st) (T EE)):OkV P w mg base F b (k+1) S:=by
 subst i;exact fnDV F e (g e)
structure NV(K:PY)(x:Str)(st:rz)(f:eg)(fd:g5)(dv:Int):Prop where
 a:Rr K fx x=ap (ap<|.ref f)
 F:∃(oc:ay)(od:Option eg)(kV doc pm:ay)(an:Option eg)(cdv ct:ay)(osl:Array (Option ay))(T:eg)(ob:Obj)(m:Nat)(t:Tok),
  fd=SO x x (cc st) (bB st) (aQ st) (.ref T) kV doc pm an cdv ct/\K.lookup f=ap ⟨oc,od,.func fd,osl⟩/\UC K cdv x=true/\K.lookup T=ap ob/\ob.data=.seq #[.int dv t] m
 kp:Rj K (.ref f)=true
theorem O7{u:ay}{v q p:Option eg}{i g:Array (Option ay)}{kV e o b s j:ay}{T:eg}{m:Nat}{t:Tok}(a:Rr K fx x=ap (ap<|.ref f))
  (l:K.lookup f=ap ⟨u,v,.func (SO x x (cc st) (bB st) (aQ st) (.ref T) kV e o q b s),i⟩) (c:UC K b x=true) (k:Rj K (.ref f)=true)
  (lt:K.lookup T=ap ⟨j,p,.seq #[.int dv t] m,g⟩):NV K x st f (SO x x (cc st) (bB st) (aQ st) (.ref T) kV e o q b s) dv:=
 ⟨a,⟨u,v,kV,e,o,q,b,s,i,T,_,m,t,rfl,l,c,lt,rfl⟩,k⟩
abbrev BndV(ps:Yv)(x:Str)(st:rz)(dv:Int):Prop:=∀(kV doc pm:ay)(an:Option eg)(cdv ct:ay)(T:eg)(t:Tok),
 (∀u:ay,∃k,XN (SO x x (cc st) (bB st) (aQ st) (.ref T) kV doc pm an cdv ct) ⟨[u],[]⟩=XX (.ref T) >>= k/\k (ap #[.int dv t])=pure (ps.zip [u,.int dv t]))/\
 ∀u v:ay,∃k,XN (SO x x (cc st) (bB st) (aQ st) (.ref T) kV doc pm an cdv ct) ⟨[u,v],[]⟩=XX (.ref T) >>= k/\k (ap #[.int dv t])=pure (ps.zip [u,v])
theorem gv(X:K.In h)(G:h.Ns fx mg)(l:NV K x st f fd dv)(B:ps.length=2)(E:BndV ps x st dv):GV K mg x st f fd ps dv:=by
 obtain⟨a,⟨H,F,kV,b,j,p,e,z,y,T,J,m,t,rfl,I,c,lt,A⟩,kp⟩:=l;refine⟨⟨⟨H,F,kV,b,j,p,e,z,y,T,rfl,I,c⟩,kp⟩,λs i KX g=>?_,⟨t,λs i KX g=>?_⟩,kp,Tb X G a⟩
 .rw[QO]at g ⊢
  match i,g.trans B with
  |[u,v],_=>
   obtain⟨k,o,q⟩:=(E kV b j p e z T t).2 u v;exact W.binds_K KX rfl lt A o q
 .rw[PX,B]at g
  match i,(show i.length=1 by simpa using g) with
  |[u],_=>
   obtain⟨k,o,q⟩:=(E kV b j p e z T t).1 u;exact W.binds_K KX rfl lt A o q
end
section
variable {X:Cx}{B:Bd}{CX:oh}{k n:Nat}{f:eg}{fd:g5}{ps:Yv}{T:Sd}{EE:DX}{E:XK}{x:Str}{st:rz}{p pos:Pos}{e:gl}{es:Yy}{t:fC}{dv:Int}
end
end L3
namespace L3
open PySem L2 PyProof.Rows
section
variable {X:Cx}{B:Bd}
def Ej:fg:=λx y M Q=>match x with
 |.ref a=>match M a,y with
  |some (.lst xs),.int i=>0<=i/\match xs[i.toNat]? with
   |some d=>Q d M
   |none=>False
  |_,y=>match pU M a y with
   |some (ap d)=>Q d M
   |_=>False
 |_=>False
theorem GG(S:X.A.units+1<rc):Ob X (liftR2 X Ej):=by
 intro m s Z H x y v u Q I p E h;obtain⟨U,W,M,QQ,c,N,n,h,C⟩:=h;unfold Ej at h
 split at h
 .rename_i a
  cases N
  split at h
  .rename_i xs i F
   obtain⟨J,h⟩:=h
   split at h
   .rename_i d f
    cases n;cases p;obtain⟨t,rfl⟩:=E;obtain⟨o,L,O⟩:=c _ _ F;obtain⟨P,r,pl,hz⟩:=I.list (SqL.of L);obtain⟨z,j,K⟩:=O.get f;obtain⟨w,G,b⟩:=r.get j;have T:=r.length;have hn:=fW;have R:i.toNat<o.length:=by
     rcases RC i.toNat o.length with q|q
     .exact q
     .rw[QU q]at j;cases j
    exact wpAny_getItem_list pl.isList J (by lia) (by simpa using G) ⟨z,H,I,b,C _ M h _ H c Frm.refl K⟩
   .exact h.elim
  .split at h
   .rename_i d f
    cases p;rcases mh c n f with⟨z,_⟩|⟨d',w,z,g,b⟩
    .cases z
    .cases z
     exact p8 S I g E λY s3 I3 e=>⟨w,H,I3,e,C _ M h _ H c Frm.refl b⟩
   .exact h.elim
 .exact h.elim
def s_(to ti te:bu)(r:fg):av:=λD U M=>to U M λo M1=>ti U M1 λi M2=>Ej o i M2 λx M3=>te U M3 λy M4=>r x y M4 λz M5=>my o i z M5 λM6=>D.nx U M6
theorem xl{o i e:gl}{to ti te:bu}{r:fg}{G:Xe}{pos tpos:Pos}(F:X.A.units+1<rc)(ho:DE X B o to)(hi:DE X B i ti)(he:DE X B e te)(hp:ES X G (liftR2 X r))
  (ha:∀n p new,augStore i n p new=(do va [new,n,p] (XF n p new);release [new,n,p] [];pure .next)):DS X B (.AugAssign (.Subscript o i tpos) G e pos) (s_ to ti te r):=by
 refine bL (HC ho hi (GG F) he hp (zG F) ha) ?_
 rintro D Z H ⟨U,M,DD,s,h,up⟩
 refine⟨U,M,_,s,h,λz M1 N v1 H1 a w E=>?_⟩;refine⟨U,M1,_,s.go a w,N,λC M2 S v2 H2 c j y=>?_⟩;refine⟨z,C,M2,_,c,E.mf a j,y,S,λY M3 T v3 H3 b m J=>?_⟩;refine⟨U,M3,_,s.go b ((w.trans j).trans m),T,λQ M4 O v4 H4 x g P=>?_⟩;refine⟨Y,Q,M4,_,x,J.mf b g,P,O,λL M5 R v5 H5 q v W=>?_⟩;refine⟨z,C,L,M5,_,q,E.mf a (((j.trans m).trans g).trans v),y.mf c ((m.trans g).trans v),W,R,λM6 K H6 u I=>?_⟩;have f:=((((w.trans j).trans m).trans g).trans v).trans I;exact up.nx U M6 K Z H6 f (s.go u f)
end
end L3
namespace L3
open PySem L2
section
variable {X:Cx}{B:Bd}
end
end L3
namespace L2
open PySem PySem.Spec PyProof.Rows
section
variable {X:Cx}{x y:Str}{p pos yp kp:Pos}{e:gl}{es:Yy}{t:TA}{id:String}{kn:Str}{k:ay}{r:List V->Hp->VK->Prop}
end
end L2
namespace L3
open PySem L2 PyProof.Rows
section
variable {X:Cx}{B:Bd}{x y:Str}{p pos yp kp:Pos}{e:gl}{es:Yy}{t:fC}{id:String}{kn:Str}{k:ay}{r:pG}
end
end L3
namespace L3
open PySem L2
section
variable {X:Cx}
def FX:pG:=λb M Q=>match b with
 |[.int a]=>Q (.int (if a<0 then -a else a)) M
 |_=>False
theorem AA:bQ X (.builtin "abs") (liftC X FX):=by
 intro a s Z H j m Q I r h;obtain⟨ds,M,QQ,c,i,h,f⟩:=h;unfold FX at h
 split at h
 .rename_i b
  obtain⟨v,rfl,e⟩:=gP (ds:=[]) i;cases e;obtain⟨u,rfl,g⟩:=iU r;obtain⟨t,rfl⟩:=g;exact PyProof.Rows.call_abs_int λu n=>⟨.int _,H,I.tok _,⟨_,rfl⟩,f _ M h _ H c Frm.refl rfl⟩
 .exact h.elim
theorem FU:gp "abs"=ap (.builtin "abs"):=by decide +kernel
end
section
variable {X:Cx}
def G6:fg:=λx y M Q=>match x,y with
 |.str a,.str b=>Q (.bl<|SS b a) M
 |_,_=>False
theorem KP:cF X (mu .In) (liftR2 X G6):=by
 intro a s Z H x y v u Q I e i h;obtain⟨m,n,M,QQ,b,c,f,h,g⟩:=h;unfold G6 at h
 split at h
 .cases c;cases f
  obtain⟨t,rfl⟩:=e;obtain⟨j,rfl⟩:=i;exact P.in_str ⟨.bl _,H,I,rfl,g _ M h _ H b Frm.refl rfl⟩
 .exact h.elim
def K0(i j:Nat)(ta:fC):av:=λD U M=>ta U M λa M1=>match a with
 |[x,y]=>D.nx ((U.set i<|some x).set j<|some y) M1
 |_=>False
theorem Mj{B:Bd}{i j:Nat}{x y:Str}{a b:gl}{m:fC}{c g e pos:Pos}{kt k2 pt2}(L:X.calm=true)(E:X.N.Nodup)(A:X.N[i]?=ap x)(J:X.N[j]?=ap y)(f:i≠j)
  (C:X.env.scope.names.lookup x=ap .local) (G:X.env.scope.names.lookup y=ap .local) (K:DA X B [a,b] m)
  (F:Xt [.Tuple [.Name x c,.Name y g] kt e] (.Tuple [a,b] k2 pt2) X.env=pure (ap [x,y]))
  (I:Xs [.Tuple [.Name x c,.Name y g] kt e] (.Tuple [a,b] k2 pt2) pos.line X.env=pure eC):
  DS X B (.Assign [.Tuple [.Name x c,.Name y g] kt e] (.Tuple [a,b] k2 pt2) pos) (K0 i j m):=by
 refine bL (MR L E A J f C G K F I) ?_
 rintro D Z H ⟨U,M,DD,s,h,z⟩
 refine⟨U,M,_,s,h,λv M' q O H' n i r=>?_⟩
 match v,r,q with
 |[d1,d2],r,q=>
  obtain⟨v1,w,rfl,o,r⟩:=r;obtain⟨v2,u,rfl,p,r⟩:=r;cases r;exact⟨_,_,rfl,z.nx _ M' q _ H' i<|((s.go n i).set o).set p⟩
end
end L3
namespace LS
open PySem PySem.W PySem.Calls PyProof.Rows PyProof.V PySem.Spec
section
variable {prog:fy}{w:g4}{A:kc}{E:YA}{s:el}{it d:eg}{i n ep:Nat}{od:Obj}{es:Array X2}
end
end LS
namespace L2
open PySem PySem.Spec PyProof.Rows LS
end L2
namespace L3
open PySem L2 LS
section
variable {X:Cx}{B:Bd}
end
end L3
namespace Tw
open PySem L2 L3
def top(i:Nat):Stmt:=PySem.Challenge.pw_twinstride_k53_whole_shares_come_to_one.main.body.getD i (.Pass ⟨0,0,0,0⟩)
abbrev NP:Stmt:=eD (top 6) 0
abbrev P9:Stmt:=eD (top 6) 1
abbrev JE:Stmt:=eD (top 6) 2
abbrev Jr:Stmt:=top 7
abbrev Iw:Stmt:=top 8
abbrev IK:Stmt:=top 9
abbrev JF:Stmt:=top 10
abbrev I_:Stmt:=top 12
abbrev IP:Stmt:=top 13
abbrev J3:Stmt:=top 14
abbrev IM:Stmt:=top 15
abbrev Ix:Stmt:=top 16
abbrev Jq:Stmt:=top 18
abbrev IT:Stmt:=top 19
abbrev IW:Stmt:=top 20
abbrev Jw:Stmt:=top 22
abbrev Ih:Stmt:=top 24
abbrev Ir:Stmt:=top 26
abbrev Jh:Stmt:=top 27
abbrev Im:Stmt:=top 28
abbrev O0:Stmt:=eD (top 30) 0
abbrev Pn:Stmt:=eD (top 30) 1
abbrev OB:Stmt:=eD (top 31) 0
abbrev Nu:Stmt:=eD (top 31) 1
abbrev Iz:Stmt:=top 32
abbrev IF:Stmt:=top 33
abbrev Je:Stmt:=top 34
abbrev Ii:Stmt:=top 35
abbrev J0:Stmt:=top 36
abbrev Ji:Stmt:=top 38
abbrev Jx:Stmt:=top 39
abbrev Jn:Stmt:=top 40
abbrev Jz:Stmt:=top 41
abbrev Oq:Stmt:=eD (top 43) 0
abbrev IS:Stmt:=top 44
abbrev Jy:Stmt:=top 45
abbrev IL:Stmt:=top 47
abbrev Iu:Stmt:=top 48
abbrev IZ:Stmt:=top 49
abbrev IY:Stmt:=top 50
abbrev PC:Stmt:=top 51
abbrev IB:Stmt:=top 53
abbrev Io:Stmt:=top 54
abbrev Jc:Stmt:=top 55
abbrev ID:Stmt:=top 56
abbrev J2:Stmt:=top 57
abbrev JD:Stmt:=top 58
abbrev Iy:Stmt:=top 59
abbrev Jj:Stmt:=top 60
abbrev Iv:Stmt:=top 61
abbrev Nk:Stmt:=top 62
abbrev IR:Stmt:=top 63
abbrev IG:Stmt:=top 64
abbrev JC:Stmt:=top 65
abbrev Ig:Stmt:=top 66
abbrev Ja:Stmt:=top 67
abbrev JB:Stmt:=top 68
abbrev Jo:Stmt:=top 69
abbrev Jf:Stmt:=top 70
abbrev Pf:Stmt:=top 71
abbrev IA:Stmt:=top 72
abbrev Jb:Stmt:=top 74
abbrev jR:Stmt:=top 75
set_option genInjectivity false in
structure Ad where
 C_Ends:eg
 C_Going:eg
 C_Outcome:eg
 C_Walk:eg
 C_Dry:eg
 C_NoCase:eg
 C_TooMany:eg
 (a1 a2 a3 a4 a5 a6 a7 a8 a9 a10 a11 a12 a13 a14 a15 a16 a17 a18 a19 a20 a21 a22 a23 a24 a25 a26 a27 a28 a29 a30 a31 a32 a33 a34 a35 a36 a37 a38 a39 a40 a41 a42 a43 a44 a45 a46 a47 a48 a49 a50 a51 a52 a53 a54 a55 a56 a57 a58 a59 a60 a61 a62 a63:eg)
 (d1 d2 d3 d4 d5 d6 d7 d8 d9 d10 d11 d12 d13 d14 d15 d16 d17 d18 d19 d20 d21 d22 d23 d24 d25 d26 d27 d28 d29 d30 d31 d32 d33 d34 d35 d36 d37 d38 d39 d40 d41 d42 d43 d44 d45 d46 d47 d48 d49 d50 d51 d52 d53 d54 d55 d56 d57 d58 d59 d60 d61 d62 d63:g5)
def CS(ad:Ad)(EE:DX):av:=
 (ai (cy ad.C_Walk (ac 0) (ac 3) "most")
  (cy ad.C_Walk (ac 0) (bV af) "steps"))
def BX(ad:Ad)(EE:DX):av:=
 (ai (cy ad.C_Walk (ac 0) (ah aw (ac 2)<|dC<|.int 1) "pieces")
  (CS ad EE))
def Cj(ad:Ad)(EE:DX):av:=
 (ai (cy ad.C_Walk (ac 0) (f_<|aa (ah aw (ac 1)<|dC<|.int 1)<|aa (ah aw (ac 2)<|dC<|.int 0) af) "numbers")
  (BX ad EE))
def GB(ad:Ad)(EE:DX):av:=
 (ai (cy ad.C_Walk (ac 0) (ac 1) "plan")
  (Cj ad EE))
def Ha(ad:Ad):Sd:=aJ ["self","plan","stand","most"] (GB ad)
theorem u_q8{ad:Ad}{n:Nat}{c a b e:D}{M:Mem}{Q:DK}{E:DX}:Ha ad [c,a,b,e] M Q E=GB ad (aB E) { nx:=λ_ M'=>drp Q .non M',rt:=drp Q } [ap c,ap a,ap b,ap e] M:=rfl
def Cr(ad:Ad)(EE:DX):av:=
 (bo<|nN "list" ca (b6 ad.C_Walk (ac 0) "steps")<|aa (aM<|aa (ac 1)<|aa (ac 2) af) af)
def FE(ad:Ad)(EE:DX):av:=
 (ai (aN (ao<|ah oGe (bF bR<|aa (b6 ad.C_Walk (ac 0) "steps") af)<|b6 ad.C_Walk (ac 0) "most") (jw ad.C_Dry EE) aH)
  (Cr ad EE))
def uU(ad:Ad):Sd:=aJ ["self","place","number"] (FE ad)
theorem u_q3{ad:Ad}{n:Nat}{c a b:D}{M:Mem}{Q:DK}{E:DX}:uU ad [c,a,b] M Q E=FE ad (aB E) { nx:=λ_ M'=>drp Q .non M',rt:=drp Q } [ap c,ap a,ap b] M:=rfl
def zk(ad:Ad)(EE:DX):av:=
 (ai (bo<|cY ad.C_Walk "note_step" (uU ad) EE 3 (ac 0)<|aa (ac 1)<|aa (ac 3) af)
  (aF<|ac 3))
def yL(ad:Ad)(EE:DX):av:=
 (ai (au (pX (ao<|ah cB (ah aw (b6 ad.C_Walk (ac 0) "numbers")<|ac 2)<|dC<|.int 0) (dC<|.int 0)<|dC<|.int 1)<|ag 3)
  (zk ad EE))
def oo(ad:Ad):Sd:=aJ ["self","place","name","seen"] (yL ad)
theorem O_{ad:Ad}{n:Nat}{c a b:D}{M:Mem}{Q:DK}{E:DX}:oo ad [c,a,b] M Q E=yL ad (aB E) { nx:=λ_ M'=>drp Q .non M',rt:=drp Q } [ap c,ap a,ap b,cm] M:=rfl
def A0(ad:Ad)(EE:DX):av:=
 (aF<|ah dw (aq<|ah aZ (ac 1)<|ac 2)<|ac 3)
def xJ(ad:Ad)(EE:DX):av:=
 (aF<|pX (ao<|ah vX (ac 1)<|ac 2) (dC<|.int 1)<|dC<|.int 0)
def Ak(ad:Ad)(EE:DX):av:=
 (aF<|pX (ao<|ah cB (ac 1)<|ac 2) (dC<|.int 1)<|dC<|.int 0)
def zR(ad:Ad)(EE:DX):av:=
 (ai (aN (ao<|ah cB (ac 0)<|dC<|.str "less") (xJ ad EE) aH)
  (Ak ad EE))
def zX(ad:Ad)(EE:DX):av:=
 (ai (aN (ao<|ah cB (ac 0)<|dC<|.str "by") (aF<|ah dw (ah cN (ac 1)<|ac 2)<|ac 3) aH)
  (zR ad EE))
def zt(ad:Ad)(EE:DX):av:=
 (ai (aN (ao<|ah cB (ac 0)<|dC<|.str "sum") (A0 ad EE) aH)
  (zX ad EE))
def zh(ad:Ad):Sd:=aJ ["word","y","z","wheel"] (zt ad)
theorem PD{ad:Ad}{n:Nat}{c a b e:D}{M:Mem}{Q:DK}{E:DX}:zh ad [c,a,b,e] M Q E=zt ad (aB E) { nx:=λ_ M'=>drp Q .non M',rt:=drp Q } [ap c,ap a,ap b,ap e] M:=rfl
def zP(ad:Ad)(EE:DX):av:=
 (aF<|ah dw (ah aw (ac 1)<|ah aw (ac 2)<|dC<|.int 2)<|ah aw (ac 0)<|dC<|.int 2)
def yc(ad:Ad)(EE:DX):av:=
 (ai (aN (ao<|ah cB (ah aw (ac 2)<|dC<|.int 0)<|dC<|.str "pick") (zP ad EE) aH)
  (aF<|dC .non))
def iw(ad:Ad)(EE:DX):av:=
 (ai (aN (ao<|ah cB (ah aw (ac 2)<|dC<|.int 0)<|dC<|.str "take") (aF<|ah aw (ac 2)<|dC<|.int 2) aH)
  (yc ad EE))
def mP(ad:Ad):Sd:=aJ ["plan","numbers","row"] (iw ad)
theorem oV{ad:Ad}{n:Nat}{c a b:D}{M:Mem}{Q:DK}{E:DX}:mP ad [c,a,b] M Q E=iw ad (aB E) { nx:=λ_ M'=>drp Q .non M',rt:=drp Q } [ap c,ap a,ap b] M:=rfl
def zJ(ad:Ad)(EE:DX):av:=
 (aF<|aj (zh ad) EE 4<|aa (ah aw (ac 3)<|dC<|.int 0)<|aa (ah aw (ac 1)<|ah aw (ac 3)<|dC<|.int 2)<|aa (ah aw (ac 1)<|ah aw (ac 3)<|dC<|.int 3)<|aa (ah aw (ac 0)<|dC<|.int 0) af)
def wl(ad:Ad)(EE:DX):av:=
 (ai (aN (ao<|ah i6 (ac 4)<|dC .non) (aF<|ah aw (ac 2)<|ac 4) aH)
  (zJ ad EE))
def yj(ad:Ad)(EE:DX):av:=
 (ai (au (aq<|aj (mP ad) EE 3<|aa (ac 0)<|aa (ac 1)<|aa (ac 3) af)<|ag 4)
  (wl ad EE))
def fV(ad:Ad)(EE:DX):av:=
 (ai (aN (ao<|ah cB (ah aw (ac 3)<|dC<|.int 0)<|dC<|.str "put") (aF<|ah aw (ac 3)<|dC<|.int 2) aH)
  (yj ad EE))
def mZ(ad:Ad):Sd:=aJ ["plan","numbers","pieces","row","piece"] (fV ad)
theorem jU{ad:Ad}{n:Nat}{c a b e:D}{M:Mem}{Q:DK}{E:DX}:mZ ad [c,a,b,e] M Q E=fV ad (aB E) { nx:=λ_ M'=>drp Q .non M',rt:=drp Q } [ap c,ap a,ap b,ap e,cm] M:=rfl
def xE(ad:Ad)(We Wg Wh Wi:Sd)(EE:DX):av:=
 (bo<|aj Wg EE 3<|aa (ac 0)<|aa (ac 4)<|aa (ah aZ (ac 2)<|aM<|aa (ac 3) af) af)
def wI(ad:Ad)(We Wg Wh Wi:Sd)(EE:DX):av:=
 (cL (nC<|aa (ac 1) af) (gZ 2<|bh (ag 3)<|bh (ag 4) gr)<|xE ad We Wg Wh Wi EE)
def yO(ad:Ad)(We Wg Wh Wi:Sd)(EE:DX):av:=
 (bo<|aj Wh EE 3<|aa (ac 0)<|aa (ac 1)<|aa (ac 2) af)
def yo(ad:Ad)(We Wg Wh Wi:Sd)(EE:DX):av:=
 (bo<|aj Wi EE 3<|aa (ac 0)<|aa (ac 1)<|aa (ac 2) af)
def Aa(ad:Ad)(We Wg Wh Wi:Sd)(EE:DX):av:=
 (au (ac 3)<|dq (b6 ad.C_Walk (ac 0) "numbers")<|ah aw (ac 1)<|dC<|.int 1)
def yB(ad:Ad)(We Wg Wh Wi:Sd)(EE:DX):av:=
 (ai (bo<|cY ad.C_Walk "note_step" (uU ad) EE 3 (ac 0)<|aa (ac 2)<|aa (ac 3) af)
    (Aa ad We Wg Wh Wi EE))
def wx(ad:Ad)(We Wg Wh Wi:Sd)(EE:DX):av:=
 (ai (au (aq<|aj (mZ ad) EE 4<|aa (b6 ad.C_Walk (ac 0) "plan")<|aa (b6 ad.C_Walk (ac 0) "numbers")<|aa (b6 ad.C_Walk (ac 0) "pieces")<|aa (ac 1) af)<|ag 3)
    (yB ad We Wg Wh Wi EE))
def ya(ad:Ad)(We Wg Wh Wi:Sd)(EE:DX):av:=
 (aN (ao<|ah cB (ah aw (ac 1)<|dC<|.int 0)<|dC<|.str "again") (yo ad We Wg Wh Wi EE)<|wx ad We Wg Wh Wi EE)
def iF(ad:Ad)(We Wg Wh Wi:Sd)(EE:DX):av:=
 (aN (ao<|ah cB (ah aw (ac 1)<|dC<|.int 0)<|dC<|.str "if") (yO ad We Wg Wh Wi EE)<|ya ad We Wg Wh Wi EE)
def z7(ad:Ad)(We Wg Wh Wi:Sd)(EE:DX):av:=
 (bo<|aj We EE 3<|aa (ac 0)<|aa (pX (ao<|ah cB (ac 3)<|dC<|.int 1) (ah aw (ac 1)<|dC<|.int 2)<|ah aw (ac 1)<|dC<|.int 3)<|aa (ah aZ (ac 2)<|aM<|aa (ac 3) af) af)
def wZ(ad:Ad)(We Wg Wh Wi:Sd)(EE:DX):av:=
 (ai (au (aq<|cY ad.C_Walk "look" (oo ad) EE 3 (ac 0)<|aa (ac 2)<|aa (ah aw (ac 1)<|dC<|.int 1) af)<|ag 3)
  (z7 ad We Wg Wh Wi EE))
def xC(ad:Ad)(We Wg Wh Wi:Sd)(EE:DX):av:=
 (ai (bo<|aj We EE 3<|aa (ac 0)<|aa (ah aw (ac 1)<|dC<|.int 2)<|aa (ah aZ (ac 2)<|aM<|aa (ac 3) af) af)
   (D5 3 (dC<|.int 1) oi))
def z8(ad:Ad)(We Wg Wh Wi:Sd)(EE:DX):av:=
 (dD (ao<|ah cB (aq<|cY ad.C_Walk "look" (oo ad) EE 3 (ac 0)<|aa (ah aZ (ac 2)<|aM<|aa (ac 3) af)<|aa (ah aw (ac 1)<|dC<|.int 1) af)<|dC<|.int 1)<|xC ad We Wg Wh Wi EE)
def yK(ad:Ad)(We Wg Wh Wi:Sd)(EE:DX):av:=
 (ai (au (dC<|.int 0)<|ag 3)
  (z8 ad We Wg Wh Wi EE))
mutual
def We(ad:Ad):Nat->Sd
 |0=>λ_ _ _ _=>False
 |n+1=>aJ ["walk","rows","place","j","row"] (wI ad (We ad n) (Wg ad n) (Wh ad n)<|Wi ad n)
def Wg(ad:Ad):Nat->Sd
 |0=>λ_ _ _ _=>False
 |n+1=>aJ ["walk","row","place","number"] (iF ad (We ad n) (Wg ad n) (Wh ad n)<|Wi ad n)
def Wh(ad:Ad):Nat->Sd
 |0=>λ_ _ _ _=>False
 |n+1=>aJ ["walk","row","place","seen"] (wZ ad (We ad n) (Wg ad n) (Wh ad n)<|Wi ad n)
def Wi(ad:Ad):Nat->Sd
 |0=>λ_ _ _ _=>False
 |n+1=>aJ ["walk","row","place","turn"] (yK ad (We ad n) (Wg ad n) (Wh ad n)<|Wi ad n)
end
theorem ON{ad:Ad}{n:Nat}{c a b:D}{M:Mem}{Q:DK}{E:DX}:We ad (n+1) [c,a,b] M Q E=wI ad (We ad n) (Wg ad n) (Wh ad n) (Wi ad n) (aB E) { nx:=λ_ M'=>drp Q .non M',rt:=drp Q } [ap c,ap a,ap b,cm,cm] M:=rfl
theorem ou{ad:Ad}{n:Nat}{c a b:D}{M:Mem}{Q:DK}{E:DX}:Wg ad (n+1) [c,a,b] M Q E=iF ad (We ad n) (Wg ad n) (Wh ad n) (Wi ad n) (aB E) { nx:=λ_ M'=>drp Q .non M',rt:=drp Q } [ap c,ap a,ap b,cm] M:=rfl
theorem OF{ad:Ad}{n:Nat}{c a b:D}{M:Mem}{Q:DK}{E:DX}:Wh ad (n+1) [c,a,b] M Q E=wZ ad (We ad n) (Wg ad n) (Wh ad n) (Wi ad n) (aB E) { nx:=λ_ M'=>drp Q .non M',rt:=drp Q } [ap c,ap a,ap b,cm] M:=rfl
theorem OQ{ad:Ad}{n:Nat}{c a b:D}{M:Mem}{Q:DK}{E:DX}:Wi ad (n+1) [c,a,b] M Q E=yK ad (We ad n) (Wg ad n) (Wh ad n) (Wi ad n) (aB E) { nx:=λ_ M'=>drp Q .non M',rt:=drp Q } [ap c,ap a,ap b,cm] M:=rfl
def xA(ad:Ad)(EE:DX):av:=
 (aF<|aM<|aa (b6 ad.C_Walk (ac 3) "steps")<|aa (bF cI<|aa (aq<|aY (bK<|ah aw (ac 0)<|dC<|.int 1) ["name"] [3] (ag 0) dG<|ah aw (b6 ad.C_Walk (ac 1) "numbers")<|ac 0) af) af)
def y_(ad:Ad)(EE:DX):av:=
 (ai (LD ad.C_Dry (We ad 24) 3 (aa (ac 3)<|aa (ah aw (ac 0)<|dC<|.int 3)<|aa (aM af) af)<|aF<|aM<|aa (b6 ad.C_Walk (ac 3) "steps")<|aa (dC .non) af)
  (xA ad EE))
def zf(ad:Ad)(EE:DX):av:=
 (ai (au (gb ad.C_Walk (Ha ad) EE 4<|aa (ac 0)<|aa (ac 1)<|aa (ac 2) af)<|ag 3)
  (y_ ad EE))
def rD(ad:Ad):Sd:=aJ ["plan","stand","most","walk"] (zf ad)
theorem OL{ad:Ad}{n:Nat}{c a b:D}{M:Mem}{Q:DK}{E:DX}:rD ad [c,a,b] M Q E=zf ad (aB E) { nx:=λ_ M'=>drp Q .non M',rt:=drp Q } [ap c,ap a,ap b,cm] M:=rfl
def yW(ad:Ad)(EE:DX):av:=
 (aF<|ah aw (ac 3)<|Nw mi (ah aw (ac 0)<|dC<|.int 1)<|aa (ah aw (ac 0)<|dC<|.int 4) af)
def wB(ad:Ad)(EE:DX):av:=
 (ai (aN (ao<|ah jI (ac 3)<|dC .non) (aF<|dC .non) aH)
  (yW ad EE))
def zw(ad:Ad)(EE:DX):av:=
 (ai (au (ah aw (oa<|aj (rD ad) EE 3<|aa (ac 0)<|aa (ac 1)<|aa (ac 2) af)<|dC<|.int 1)<|ag 3)
  (wB ad EE))
def pb(ad:Ad):Sd:=aJ ["plan","stand","most","end"] (zw ad)
theorem P1{ad:Ad}{n:Nat}{c a b:D}{M:Mem}{Q:DK}{E:DX}:pb ad [c,a,b] M Q E=zw ad (aB E) { nx:=λ_ M'=>drp Q .non M',rt:=drp Q } [ap c,ap a,ap b,cm] M:=rfl
def zL(ad:Ad)(EE:DX):av:=
 (aF<|ah aZ (aq<|bF eY<|aa (ah aw (ac 0)<|dC<|.int 1) af)<|aq<|sF<|aa (ah aw (ac 0)<|dC<|.int 2) af)
def sy(ad:Ad):Sd:=aJ ["plan"] (zL ad)
theorem Ni{ad:Ad}{n:Nat}{a:D}{M:Mem}{Q:DK}{E:DX}:sy ad [a] M Q E=zL ad (aB E) { nx:=λ_ M'=>drp Q .non M',rt:=drp Q } [ap a] M:=rfl
def lF(ad:Ad)(EE:DX):av:=
 (aF<|aY (bK<|aq<|aj (sy ad) EE 1<|aa (ac 0) af) ["thing"] [2] (ag 0) (ao<|ah Ck (ac 0)<|ac 1)<|ac 0)
def y0(ad:Ad)(EE:DX):av:=
 (ai (au (bF fH<|aa (aq<|aY (bK<|ac 1) ["thing"] [] (ag 0) dG<|aM<|aa (ac 0)<|aa (dC<|.bl true) af) af)<|ag 2)
  (lF ad EE))
def yx(ad:Ad):Sd:=aJ ["plan","things","wanted"] (y0 ad)
theorem Px{ad:Ad}{n:Nat}{b a:D}{M:Mem}{Q:DK}{E:DX}:yx ad [b,a] M Q E=y0 ad (aB E) { nx:=λ_ M'=>drp Q .non M',rt:=drp Q } [ap b,ap a,cm] M:=rfl
def w_(ad:Ad)(EE:DX):av:=
 (aF<|ah aw (ah aw (ac 1)<|dC<|.int 0)<|Nw mi (ah aw (ac 0)<|dC<|.int 1)<|aa (ac 2) af)
def tS(ad:Ad)(EE:DX):av:=
 (ai (aN (eM<|bF xW<|aa (ac 2)<|aa (dC<|.ty "str") af) (w_ ad EE) aH)
  (aF<|ah aw (ah aw (ac 1)<|dC<|.int 1)<|ac 2))
def k7(ad:Ad):Sd:=aJ ["plan","stand","thing"] (tS ad)
theorem IQ{ad:Ad}{n:Nat}{c a b:D}{M:Mem}{Q:DK}{E:DX}:k7 ad [c,a,b] M Q E=tS ad (aB E) { nx:=λ_ M'=>drp Q .non M',rt:=drp Q } [ap c,ap a,ap b] M:=rfl
def yX(ad:Ad)(EE:DX):av:=
 (aF<|bF eY<|aa (aq<|tX (ac 0) (cP<|dC<|.int 2) bM) af)
def zc(ad:Ad)(EE:DX):av:=
 (ai (aN (BG (ao<|ah cB (ah aw (ac 0)<|dC<|.int 0)<|dC<|.str "put")<|ao<|ah cB (ah aw (ac 0)<|dC<|.int 0)<|dC<|.str "take") (aF<|bV af) aH)
  (yX ad EE))
def iq(ad:Ad)(EE:DX):av:=
 (ai (aN (BG (ao<|ah cB (ah aw (ac 0)<|dC<|.int 0)<|dC<|.str "if")<|ao<|ah cB (ah aw (ac 0)<|dC<|.int 0)<|dC<|.str "again") (aF<|bV<|aa (ah aw (ac 0)<|dC<|.int 1) af) aH)
  (zc ad EE))
def y9(ad:Ad):Sd:=aJ ["row"] (iq ad)
theorem oX{ad:Ad}{n:Nat}{a:D}{M:Mem}{Q:DK}{E:DX}:y9 ad [a] M Q E=iq ad (aB E) { nx:=λ_ M'=>drp Q .non M',rt:=drp Q } [ap a] M:=rfl
def zU(ad:Ad)(EE:DX):av:=
 (aF<|aY (bK<|aq<|aj (sy ad) EE 1<|aa (ac 0) af) ["thing"] [0,2,1] (ag 0) (ao<|ah jW (aq<|aj (k7 ad) jf 3<|aa (ac 1)<|aa (ac 3)<|aa (ac 0) af)<|aq<|aj (k7 ad) jf 3<|aa (ac 1)<|aa (ac 2)<|aa (ac 0) af)<|ac 0)
def yy(ad:Ad):Sd:=aJ ["plan","one","other"] (zU ad)
theorem NF{ad:Ad}{n:Nat}{c a b:D}{M:Mem}{Q:DK}{E:DX}:yy ad [c,a,b] M Q E=zU ad (aB E) { nx:=λ_ M'=>drp Q .non M',rt:=drp Q } [ap c,ap a,ap b] M:=rfl
def qy(ad:Ad)(EE:DX):av:=
 (ai (aN (ao<|ah cB (ac 1)<|ac 2) (jw ad.C_NoCase EE) aH)
  (aF<|aM<|aa (ac 1)<|aa (ac 2) af))
def kx(ad:Ad)(EE:DX):av:=
 (ai (aN (BG (ao<|ah jI (ac 1)<|dC .non)<|ao<|ah jI (ac 2)<|dC .non) (jw ad.C_NoCase EE) aH)
  (qy ad EE))
def qS(ad:Ad)(EE:DX):av:=
 (ai (au (aq<|aj (pb ad) EE 3<|aa (ah aw (ac 0)<|dC<|.int 0)<|aa (ah aw (ac 0)<|dC<|.int 2)<|aa (ah aw (ac 0)<|dC<|.int 3) af)<|ag 2)
  (kx ad EE))
def xR(ad:Ad)(EE:DX):av:=
 (ai (au (aq<|aj (pb ad) EE 3<|aa (ah aw (ac 0)<|dC<|.int 0)<|aa (ah aw (ac 0)<|dC<|.int 1)<|aa (ah aw (ac 0)<|dC<|.int 3) af)<|ag 1)
  (qS ad EE))
def t7(ad:Ad):Sd:=aJ ["case","sound","faulty"] (xR ad)
theorem NN{ad:Ad}{n:Nat}{a:D}{M:Mem}{Q:DK}{E:DX}:t7 ad [a] M Q E=xR ad (aB E) { nx:=λ_ M'=>drp Q .non M',rt:=drp Q } [ap a,cm,cm] M:=rfl
def we(ad:Ad)(EE:DX):av:=
 (aF<|aj (yy ad) EE 3<|aa (ah aw (ac 0)<|dC<|.int 0)<|aa (ah aw (ac 0)<|dC<|.int 1)<|aa (ah aw (ac 0)<|dC<|.int 2) af)
def j_(ad:Ad):Sd:=aJ ["case"] (we ad)
theorem O5{ad:Ad}{n:Nat}{a:D}{M:Mem}{Q:DK}{E:DX}:j_ ad [a] M Q E=we ad (aB E) { nx:=λ_ M'=>drp Q .non M',rt:=drp Q } [ap a] M:=rfl
def wo(ad:Ad)(EE:DX):av:=
 (ai (aN (ao<|ah cB (ac 1)<|ah aw (ac 0)<|dC<|.int 1) (aF<|dC<|.str "faulty") aH)
  (aF<|dC<|.str "other"))
def rB(ad:Ad)(EE:DX):av:=
 (ai (aN (ao<|ah cB (ac 1)<|ah aw (ac 0)<|dC<|.int 0) (aF<|dC<|.str "sound") aH)
  (wo ad EE))
def zn(ad:Ad):Sd:=aJ ["two","one"] (rB ad)
theorem Jm{ad:Ad}{n:Nat}{b a:D}{M:Mem}{Q:DK}{E:DX}:zn ad [b,a] M Q E=rB ad (aB E) { nx:=λ_ M'=>drp Q .non M',rt:=drp Q } [ap b,ap a] M:=rfl
def BI(ad:Ad)(EE:DX):av:=
 (ai (cy ad.C_Going (ac 0) (ac 4) "todo")
  (cy ad.C_Going (ac 0) (ac 5) "left"))
def Ev(ad:Ad)(EE:DX):av:=
 (ai (cy ad.C_Going (ac 0) (ac 3) "unsettled")
  (BI ad EE))
def Dt(ad:Ad)(EE:DX):av:=
 (ai (cy ad.C_Going (ac 0) (ac 2) "pieces")
  (Ev ad EE))
def FG(ad:Ad)(EE:DX):av:=
 (ai (cy ad.C_Going (ac 0) (ac 1) "numbers")
  (Dt ad EE))
def Fa(ad:Ad):Sd:=aJ ["self","numbers","pieces","unsettled","todo","left"] (FG ad)
theorem u_q2{ad:Ad}{n:Nat}{c g b f a e:D}{M:Mem}{Q:DK}{E:DX}:Fa ad [c,g,b,f,a,e] M Q E=FG ad (aB E) { nx:=λ_ M'=>drp Q .non M',rt:=drp Q } [ap c,ap g,ap b,ap f,ap a,ap e] M:=rfl
def vi(ad:Ad)(EE:DX):av:=
 (au (ac 2)<|dq (b6 ad.C_Going (ac 3) "numbers")<|ac 1)
def ve(ad:Ad)(EE:DX):av:=
 (au (ac 2)<|dq (b6 ad.C_Going (ac 3) "pieces")<|ac 1)
def qH(ad:Ad)(EE:DX):av:=
 (ai (aN (eM<|bF xW<|aa (ac 1)<|aa (dC<|.ty "str") af) (vi ad EE)<|ve ad EE)
  (aF<|ac 3))
def pB(ad:Ad)(EE:DX):av:=
 (ai (bo<|BZ (b6 ad.C_Going (ac 3) "unsettled")<|ac 1)
  (qH ad EE))
def G_(ad:Ad)(EE:DX):av:=
 (ai (au (gb ad.C_Going (Fa ad) EE 6<|aa (bF mU<|aa (b6 ad.C_Going (ac 0) "numbers") af)<|aa (bF eY<|aa (b6 ad.C_Going (ac 0) "pieces") af)<|aa (bF mU<|aa (b6 ad.C_Going (ac 0) "unsettled") af)<|aa (b6 ad.C_Going (ac 0) "todo")<|aa (b6 ad.C_Going (ac 0) "left") af)<|ag 3)
  (pB ad EE))
def AZ(ad:Ad):Sd:=aJ ["self","thing","number","other"] (G_ ad)
theorem u_q5{ad:Ad}{n:Nat}{c a b:D}{M:Mem}{Q:DK}{E:DX}:AZ ad [c,a,b] M Q E=G_ ad (aB E) { nx:=λ_ M'=>drp Q .non M',rt:=drp Q } [ap c,ap a,ap b,cm] M:=rfl
def HJ(ad:Ad)(EE:DX):av:=
 (ai (cy ad.C_Ends (ac 0) (ac 1) "limit")
  (cy ad.C_Ends (ac 0) (dC<|.int 0) "count"))
def Lr(ad:Ad):Sd:=aJ ["self","limit"] (HJ ad)
theorem u_q6{ad:Ad}{n:Nat}{b a:D}{M:Mem}{Q:DK}{E:DX}:Lr ad [b,a] M Q E=HJ ad (aB E) { nx:=λ_ M'=>drp Q .non M',rt:=drp Q } [ap b,ap a] M:=rfl
def vP(ad:Ad)(EE:DX):av:=
 (aN (ao<|ah Be (b6 ad.C_Ends (ac 0) "count")<|b6 ad.C_Ends (ac 0) "limit") (jw ad.C_TooMany EE) aH)
def GT(ad:Ad)(EE:DX):av:=
 (ai (pQ ad.C_Ends (ac 0) (dC<|.int 1) "count")
  (vP ad EE))
def D4(ad:Ad):Sd:=aJ ["self"] (GT ad)
theorem u_q4{ad:Ad}{n:Nat}{a:D}{M:Mem}{Q:DK}{E:DX}:D4 ad [a] M Q E=GT ad (aB E) { nx:=λ_ M'=>drp Q .non M',rt:=drp Q } [ap a] M:=rfl
def qd(ad:Ad)(EE:DX):av:=
 (au (aM<|aa (ac 2)<|aa (ac 1) af)<|ag 1)
def xq(ad:Ad)(EE:DX):av:=
 (ai (cL (KB<|aa (ac 0) af) (ag 2)<|qd ad EE)
  (aF<|ac 1))
def mj(ad:Ad):Sd:=aJ ["rows","todo","row"] (xq ad)
theorem Pj{ad:Ad}{n:Nat}{b a:D}{M:Mem}{Q:DK}{E:DX}:mj ad [b,a] M Q E=xq ad (aB E) { nx:=λ_ M'=>drp Q .non M',rt:=drp Q } [ap b,ap a,cm] M:=rfl
def li(ad:Ad)(EE:DX):av:=
 (aF<|gb ad.C_Going (Fa ad) EE 6<|aa (f_<|aa (ah aw (ac 1)<|dC<|.int 1)<|aa (ah aw (ac 2)<|dC<|.int 0) af)<|aa (bF eY<|aa (ah aw (ac 2)<|dC<|.int 1) af)<|aa (ac 3)<|aa (aq<|aj (mj ad) EE 2<|aa (ah aw (ac 1)<|dC<|.int 3)<|aa (dC .non) af)<|aa (ah aw (ac 0)<|dC<|.int 3) af)
def lO(ad:Ad)(EE:DX):av:=
 (ai (au (bF fH<|aa (aq<|aY (bK<|aq<|aj (j_ ad) EE 1<|aa (ac 0) af) ["thing"] [] (ag 0) dG<|aM<|aa (ac 0)<|aa (dC<|.bl true) af) af)<|ag 3)
  (li ad EE))
def qL(ad:Ad)(EE:DX):av:=
 (ai (au (ah aw (ac 0)<|dC<|.int 1)<|ag 2)
  (lO ad EE))
def A2(ad:Ad)(EE:DX):av:=
 (ai (au (ah aw (ac 0)<|dC<|.int 0)<|ag 1)
  (qL ad EE))
def wC(ad:Ad):Sd:=aJ ["case","plan","sound","unsettled"] (A2 ad)
theorem NJ{ad:Ad}{n:Nat}{a:D}{M:Mem}{Q:DK}{E:DX}:wC ad [a] M Q E=A2 ad (aB E) { nx:=λ_ M'=>drp Q .non M',rt:=drp Q } [ap a,cm,cm,cm] M:=rfl
def ph(ad:Ad)(EE:DX):av:=
 (aF<|ah aw (aq<|aj (yx ad) EE 2<|aa (ac 0)<|aa (ac 3) af)<|dC<|.int 0)
def pL(ad:Ad)(EE:DX):av:=
 (aF<|pX (ao<|ah BQ (ac 4)<|b6 ad.C_Going (ac 1) "unsettled") (ac 4)<|dC .non)
def kQ(ad:Ad)(EE:DX):av:=
 (ai (au (aq<|aj (mP ad) EE 3<|aa (ac 0)<|aa (b6 ad.C_Going (ac 1) "numbers")<|aa (ac 2) af)<|ag 4)
  (pL ad EE))
def ly(ad:Ad)(EE:DX):av:=
 (ai (aN (eM<|ac 3) (ph ad EE) aH)
  (kQ ad EE))
def k_(ad:Ad)(EE:DX):av:=
 (ai (cE (df 3<|aY (bK<|aq<|aj (y9 ad) EE 1<|aa (ac 2) af) ["name"] [1] (ag 0) (ao<|ah Ck (ac 0)<|b6 ad.C_Going (ac 1) "unsettled")<|ac 0) 3)
  (ly ad EE))
def w8(ad:Ad)(EE:DX):av:=
 (ai (aN (k8<|eM<|b6 ad.C_Going (ac 1) "unsettled") (aF<|dC .non) aH)
  (k_ ad EE))
def yZ(ad:Ad):Sd:=aJ ["plan","going","row","found","piece"] (w8 ad)
theorem Ny{ad:Ad}{n:Nat}{c a b:D}{M:Mem}{Q:DK}{E:DX}:yZ ad [c,a,b] M Q E=w8 ad (aB E) { nx:=λ_ M'=>drp Q .non M',rt:=drp Q } [ap c,ap a,ap b,cm,cm] M:=rfl
def zi(ad:Ad)(EE:DX):av:=
 (cy ad.C_Going (ac 1) (aq<|aj (mj ad) EE 2<|aa (pX (ao<|ah cB (ah aw (b6 ad.C_Going (ac 1) "numbers")<|ah aw (ac 2)<|dC<|.int 1)<|dC<|.int 0) (ah aw (ac 2)<|dC<|.int 3)<|ah aw (ac 2)<|dC<|.int 2)<|aa (b6 ad.C_Going (ac 1) "todo") af) "todo")
def xp(ad:Ad)(EE:DX):av:=
 (cy ad.C_Going (ac 1) (aq<|aj (mj ad) EE 2<|aa (ah aw (ac 2)<|dC<|.int 2)<|aa (aM<|aa (ac 2)<|aa (b6 ad.C_Going (ac 1) "todo") af) af) "todo")
def Am(ad:Ad)(EE:DX):av:=
 (aN (ao<|ah jW (ah aw (b6 ad.C_Going (ac 1) "numbers")<|ah aw (ac 2)<|dC<|.int 1)<|dC<|.int 0) (xp ad EE) aH)
def pv(ad:Ad)(EE:DX):av:=
 (bo<|Ew (b6 ad.C_Going (ac 1) "unsettled") (ah aw (ac 2)<|dC<|.int 1)<|dC .non)
def gC(ad:Ad)(EE:DX):av:=
 (ai (au (aq<|aj (mZ ad) EE 4<|aa (ac 0)<|aa (b6 ad.C_Going (ac 1) "numbers")<|aa (b6 ad.C_Going (ac 1) "pieces")<|aa (ac 2) af)<|dq (b6 ad.C_Going (ac 1) "numbers")<|ah aw (ac 2)<|dC<|.int 1)
    (pv ad EE))
def pT(ad:Ad)(EE:DX):av:=
 (aN (ao<|ah cB (ah aw (ac 2)<|dC<|.int 0)<|dC<|.str "again") (Am ad EE)<|gC ad EE)
def kZ(ad:Ad)(EE:DX):av:=
 (aN (ao<|ah cB (ah aw (ac 2)<|dC<|.int 0)<|dC<|.str "if") (zi ad EE)<|pT ad EE)
def qm(ad:Ad)(EE:DX):av:=
 (ai (cy ad.C_Going (ac 1) (ah aw (b6 ad.C_Going (ac 1) "todo")<|dC<|.int 1) "todo")
  (kZ ad EE))
def xa(ad:Ad)(EE:DX):av:=
 (ai (qg ad.C_Going (ac 1) (dC<|.int 1) "left")
  (qm ad EE))
def xf(ad:Ad):Sd:=aJ ["plan","going","row"] (xa ad)
theorem Pw{ad:Ad}{n:Nat}{c a b:D}{M:Mem}{Q:DK}{E:DX}:xf ad [c,a,b] M Q E=xa ad (aB E) { nx:=λ_ M'=>drp Q .non M',rt:=drp Q } [ap c,ap a,ap b] M:=rfl
def qV(ad:Ad)(EE:DX):av:=
 (bo<|aj (xf ad) EE 3<|aa (ac 0)<|aa (ac 1)<|aa (ac 2) af)
def kU(ad:Ad)(EE:DX):av:=
 (ai (aN (ao<|ah i6 (ac 3)<|dC .non) (aF<|ac 3) aH)
   (qV ad EE))
def qD(ad:Ad)(EE:DX):av:=
 (ai (au (aq<|aj (yZ ad) EE 3<|aa (ac 0)<|aa (ac 1)<|aa (ac 2) af)<|ag 3)
   (kU ad EE))
def lE(ad:Ad)(EE:DX):av:=
 (ai (au (ah aw (b6 ad.C_Going (ac 1) "todo")<|dC<|.int 0)<|ag 2)
   (qD ad EE))
def gE(ad:Ad)(EE:DX):av:=
 (ai (aN (ao<|ah oLe (b6 ad.C_Going (ac 1) "left")<|dC<|.int 0) (aF<|dC .non) aH)
   (lE ad EE))
def qG(ad:Ad)(EE:DX):av:=
 (aF<|pX (ao<|ah Ck (ah aw (ac 0)<|dC<|.int 4)<|b6 ad.C_Going (ac 1) "unsettled") (ah aw (ac 0)<|dC<|.int 4)<|dC .non)
def xD(ad:Ad)(EE:DX):av:=
 (ai (dD (ao<|ah i6 (b6 ad.C_Going (ac 1) "todo")<|dC .non)<|gE ad EE)
  (qG ad EE))
def A4(ad:Ad):Sd:=aJ ["plan","going","row","asked"] (xD ad)
theorem No{ad:Ad}{n:Nat}{b a:D}{M:Mem}{Q:DK}{E:DX}:A4 ad [b,a] M Q E=xD ad (aB E) { nx:=λ_ M'=>drp Q .non M',rt:=drp Q } [ap b,ap a,cm,cm] M:=rfl
def xx(ad:Ad)(EE:DX):av:=
 (aF<|pX (ao<|ah jI (b6 ad.C_Going (ac 1) "todo")<|dC .non) (ah aw (b6 ad.C_Going (ac 1) "numbers")<|ah aw (ac 0)<|dC<|.int 4)<|dC .non)
def wd(ad:Ad):Sd:=aJ ["plan","going"] (xx ad)
theorem Nr{ad:Ad}{n:Nat}{b a:D}{M:Mem}{Q:DK}{E:DX}:wd ad [b,a] M Q E=xx ad (aB E) { nx:=λ_ M'=>drp Q .non M',rt:=drp Q } [ap b,ap a] M:=rfl
def z_(ad:Ad)(EE:DX):av:=
 (aF<|aY (bK<|aq<|tX (ac 0) (cP<|dC<|.int 1)<|cP<|dC<|.int 3) ["stand"] [2,1,0] (ag 0) dG<|aq<|cY ad.C_Going "settled" (AZ ad) jf 3 (ac 2)<|aa (ac 1)<|aa (aq<|aj (k7 ad) jf 3<|aa (ah aw (ac 3)<|dC<|.int 0)<|aa (ac 0)<|aa (ac 1) af) af)
def yQ(ad:Ad):Sd:=aJ ["case","going","thing"] (z_ ad)
theorem Pp{ad:Ad}{n:Nat}{c a b:D}{M:Mem}{Q:DK}{E:DX}:yQ ad [c,a,b] M Q E=z_ ad (aB E) { nx:=λ_ M'=>drp Q .non M',rt:=drp Q } [ap c,ap a,ap b] M:=rfl
def rg(ad:Ad)(Wj:Sd)(EE:DX):av:=
 (aF<|aM<|aa (dC<|.str "end")<|aa (aj (wd ad) EE 2<|aa (ah aw (ac 0)<|dC<|.int 0)<|aa (ac 1) af) af)
def lA(ad:Ad)(Wj:Sd)(EE:DX):av:=
 (aF<|aM<|aa (dC<|.str "ask")<|aa (ac 3)<|aa (aj Wj EE 3<|aa (ac 0)<|aa (ah aw (ac 4)<|dC<|.int 0)<|aa (ac 2) af)<|aa (aj Wj EE 3<|aa (ac 0)<|aa (ah aw (ac 4)<|dC<|.int 1)<|aa (ac 2) af) af)
def m3(ad:Ad)(Wj:Sd)(EE:DX):av:=
 (ai (au (aq<|aj (yQ ad) EE 3<|aa (ac 0)<|aa (ac 1)<|aa (ac 3) af)<|ag 4)
  (lA ad Wj EE))
def kW(ad:Ad)(Wj:Sd)(EE:DX):av:=
 (ai (bo<|cY ad.C_Ends "one_more" (D4 ad) EE 1 (ac 2) af)
  (m3 ad Wj EE))
def md(ad:Ad)(Wj:Sd)(EE:DX):av:=
 (ai (aN (ao<|ah jI (ac 3)<|dC .non) (rg ad Wj EE) aH)
  (kW ad Wj EE))
def wX(ad:Ad)(Wj:Sd)(EE:DX):av:=
 (ai (au (aq<|aj (A4 ad) EE 2<|aa (ah aw (ac 0)<|dC<|.int 0)<|aa (ac 1) af)<|ag 3)
  (md ad Wj EE))
def Wj(ad:Ad):Nat->Sd
 |0=>λ_ _ _ _=>False
 |n+1=>aJ ["case","going","ends","asked","ways"] (wX ad<|Wj ad n)
theorem Nl{ad:Ad}{n:Nat}{c a b:D}{M:Mem}{Q:DK}{E:DX}:Wj ad (n+1) [c,a,b] M Q E=wX ad (Wj ad n) (aB E) { nx:=λ_ M'=>drp Q .non M',rt:=drp Q } [ap c,ap a,ap b,cm,cm] M:=rfl
def pS(ad:Ad)(EE:DX):av:=
 (aF<|aj (Wj ad 24) EE 3<|aa (ac 0)<|aa (aq<|aj (wC ad) EE 1<|aa (ac 0) af)<|aa (ac 2) af)
def kK(ad:Ad)(EE:DX):av:=
 (ai (bo<|cY ad.C_Ends "one_more" (D4 ad) EE 1 (ac 2) af)
  (pS ad EE))
def r8(ad:Ad)(EE:DX):av:=
 (ai (au (gb ad.C_Ends (Lr ad) EE 2<|aa (ac 1) af)<|ag 2)
  (kK ad EE))
def wY(ad:Ad)(EE:DX):av:=
 (ai (bo<|aj (t7 ad) EE 1<|aa (ac 0) af)
  (r8 ad EE))
def zE(ad:Ad):Sd:=aJ ["case","limit","ends"] (wY ad)
theorem NT{ad:Ad}{n:Nat}{b a:D}{M:Mem}{Q:DK}{E:DX}:zE ad [b,a] M Q E=wY ad (aB E) { nx:=λ_ M'=>drp Q .non M',rt:=drp Q } [ap b,ap a,cm] M:=rfl
def ET(ad:Ad)(EE:DX):av:=
 (ai (cy ad.C_Outcome (ac 0) (ac 2) "sound")
  (cy ad.C_Outcome (ac 0) (ac 3) "faulty"))
def GH(ad:Ad)(EE:DX):av:=
 (ai (cy ad.C_Outcome (ac 0) (ac 1) "verdict")
  (ET ad EE))
def HI(ad:Ad):Sd:=aJ ["self","verdict","sound","faulty"] (GH ad)
theorem u_q0{ad:Ad}{n:Nat}{c a b e:D}{M:Mem}{Q:DK}{E:DX}:HI ad [c,a,b,e] M Q E=GH ad (aB E) { nx:=λ_ M'=>drp Q .non M',rt:=drp Q } [ap c,ap a,ap b,ap e] M:=rfl
def pR(ad:Ad)(EE:DX):av:=
 (bo<|nN "list" ca (ac 4)<|aa (gb ad.C_Outcome (HI ad) EE 4<|aa (aq<|aj (zn ad) EE 2<|aa (ac 2)<|aa (ah aw (ah aw (ac 6)<|dC<|.int 0)<|dC<|.int 1) af)<|aa (ac 7)<|aa (ac 8) af) af)
def qv(ad:Ad)(EE:DX):av:=
 (bo<|nN "list" ca (ac 5)<|aa (aM<|aa (ah aw (ah aw (ac 6)<|dC<|.int 0)<|dC<|.int 3)<|aa (ac 7)<|aa (ah oOr (ac 8)<|ac 9) af) af)
def qX(ad:Ad)(EE:DX):av:=
 (ai (bo<|nN "list" ca (ac 5)<|aa (aM<|aa (ah aw (ah aw (ac 6)<|dC<|.int 0)<|dC<|.int 2)<|aa (ah oOr (ac 7)<|ac 9)<|aa (ac 8) af) af)
    (qv ad EE))
def pE(ad:Ad)(EE:DX):av:=
 (ai (au (ah aw (ac 3)<|ah aw (ah aw (ac 6)<|dC<|.int 0)<|dC<|.int 1)<|ag 9)
    (qX ad EE))
def lN(ad:Ad)(EE:DX):av:=
 (aN (ao<|ah cB (ah aw (ah aw (ac 6)<|dC<|.int 0)<|dC<|.int 0)<|dC<|.str "end") (pR ad EE)<|pE ad EE)
def pA(ad:Ad)(EE:DX):av:=
 (ai (au (ah aw (ac 6)<|dC<|.int 2)<|ag 8)
   (lN ad EE))
def kG(ad:Ad)(EE:DX):av:=
 (ai (au (ah aw (ac 6)<|dC<|.int 1)<|ag 7)
   (pA ad EE))
def gJ(ad:Ad)(EE:DX):av:=
 (ai (au (nN "list" A_ (ac 5) af)<|ag 6)
   (kG ad EE))
def qQ(ad:Ad)(EE:DX):av:=
 (ai (dD (eM<|ac 5)<|gJ ad EE)
  (aF<|ac 4))
def iW(ad:Ad)(EE:DX):av:=
 (ai (au (bV<|aa (aM<|aa (aj (zE ad) EE 2<|aa (ac 0)<|aa (ac 1) af)<|aa (dC<|.int 0)<|aa (dC<|.int 0) af) af)<|ag 5)
  (qQ ad EE))
def iX(ad:Ad)(EE:DX):av:=
 (ai (au (bF fH<|aa (aq<|aY (nC<|aa (aq<|aj (j_ ad) EE 1<|aa (ac 0) af) af) ["number","thing"] [] (gZ 2<|bh (ag 0)<|bh (ag 1) gr) dG<|aM<|aa (ac 1)<|aa (ah Mz (dC<|.int 1)<|ac 0) af) af)<|ag 3)
  (ai (au (bV af)<|ag 4)
  (iW ad EE)))
def y8(ad:Ad)(EE:DX):av:=
 (ai (au (aq<|aj (t7 ad) EE 1<|aa (ac 0) af)<|ag 2)
  (iX ad EE))
def zx(ad:Ad):Sd:=aJ ["case","limit","two","bit_of","found","waiting","here","sound","faulty","bit"] (y8 ad)
theorem NC{ad:Ad}{n:Nat}{b a:D}{M:Mem}{Q:DK}{E:DX}:zx ad [b,a] M Q E=y8 ad (aB E) { nx:=λ_ M'=>drp Q .non M',rt:=drp Q } [ap b,ap a,cm,cm,cm,cm,cm,cm,cm,cm] M:=rfl
def wL(ad:Ad)(EE:DX):av:=
 (aF<|aY (gs<|aa (nN "int" lx (ac 0) af) af) ["number"] [0] (ag 0) (ao<|ah cB (ah ML (ah LQ (ac 1)<|ac 0)<|dC<|.int 1)<|dC<|.int 1)<|ac 0)
def sV(ad:Ad):Sd:=aJ ["bits"] (wL ad)
theorem Oe{ad:Ad}{n:Nat}{a:D}{M:Mem}{Q:DK}{E:DX}:sV ad [a] M Q E=wL ad (aB E) { nx:=λ_ M'=>drp Q .non M',rt:=drp Q } [ap a] M:=rfl
def vH(ad:Ad)(EE:DX):av:=
 (ai (au (ac 3)<|ag 2)
   (au (ac 4)<|ag 3))
def nH(ad:Ad)(EE:DX):av:=
 (ai (au (ah dw (ac 2)<|ac 3)<|ag 4)
   (vH ad EE))
def vz(ad:Ad)(EE:DX):av:=
 (aF<|aM<|aa (ah g_ (ac 0)<|ac 2)<|aa (ah g_ (ac 1)<|ac 2) af)
def vx(ad:Ad)(EE:DX):av:=
 (ai (dD (ao<|ah jW (ac 3)<|dC<|.int 0)<|nH ad EE)
  (vz ad EE))
def vU(ad:Ad)(EE:DX):av:=
 (ai (au (ah dw (ac 0)<|ac 1)<|ag 3)
  (vx ad EE))
def HD(ad:Ad)(EE:DX):av:=
 (ai (au (ac 1)<|ag 2)
  (vU ad EE))
def GU(ad:Ad):Sd:=aJ ["n","d","divisor","rest","behind"] (HD ad)
theorem u_q1{ad:Ad}{n:Nat}{b a:D}{M:Mem}{Q:DK}{E:DX}:GU ad [b,a] M Q E=HD ad (aB E) { nx:=λ_ M'=>drp Q .non M',rt:=drp Q } [ap b,ap a,cm,cm,cm] M:=rfl
def qo(ad:Ad)(EE:DX):av:=
 (bo<|nN "list" ca (ac 1)<|aa (ah cN (ah aw (ac 1)<|uK<|dC<|.int 1)<|ah aZ (ac 2)<|dC<|.int 1) af)
def pV(ad:Ad)(EE:DX):av:=
 (ai (cL (gs<|aa (ac 0) af) (ag 2)<|qo ad EE)
  (aF<|ac 1))
def zA(ad:Ad)(EE:DX):av:=
 (ai (au (bV<|aa (dC<|.int 1) af)<|ag 1)
  (pV ad EE))
def t8(ad:Ad):Sd:=aJ ["count","told","number"] (zA ad)
theorem N_{ad:Ad}{n:Nat}{a:D}{M:Mem}{Q:DK}{E:DX}:t8 ad [a] M Q E=zA ad (aB E) { nx:=λ_ M'=>drp Q .non M',rt:=drp Q } [ap a,cm,cm] M:=rfl
def pK(ad:Ad)(EE:DX):av:=
 (s_ (ac 3) (ac 10) (ah cN (ah cN (ac 9)<|ah aw (ac 5)<|ah gu (bF bR<|aa (ac 7) af)<|dC<|.int 1)<|ah aw (ac 5)<|bF bR<|aa (ac 8) af) oi)
def qN(ad:Ad)(EE:DX):av:=
 (s_ (ac 3) (ac 10) (ah cN (ah cN (ac 9)<|ah aw (ac 5)<|bF bR<|aa (ac 7) af)<|ah aw (ac 5)<|ah gu (bF bR<|aa (ac 8) af)<|dC<|.int 1) gu)
def lY(ad:Ad)(EE:DX):av:=
 (ai (cL (bK<|ac 7) (ag 10)<|pK ad EE)
   (cL (bK<|ac 8) (ag 10)<|qN ad EE))
def lU(ad:Ad)(EE:DX):av:=
 (ai (au (ah g_ (ah aw (ac 5)<|uK<|dC<|.int 1)<|ah aw (ac 5)<|aq<|ah aZ (bF bR<|aa (ac 7) af)<|bF bR<|aa (ac 8) af)<|ag 9)
   (lY ad EE))
def kM(ad:Ad)(EE:DX):av:=
 (ai (au (aq<|aj (sV ad) EE 1<|aa (b6 ad.C_Outcome (ac 6) "sound") af)<|ag 8)
   (lU ad EE))
def gx(ad:Ad)(EE:DX):av:=
 (ai (au (aq<|aj (sV ad) EE 1<|aa (b6 ad.C_Outcome (ac 6) "faulty") af)<|ag 7)
   (kM ad EE))
def lD(ad:Ad)(EE:DX):av:=
 (ai (cL (bK<|ac 4) (ag 6)<|gx ad EE)
  (aF<|ac 3))
def kI(ad:Ad)(EE:DX):av:=
 (ai (au (aq<|aj (t8 ad) EE 1<|aa (bF bR<|aa (ac 2) af) af)<|ag 5)
  (lD ad EE))
def lB(ad:Ad)(EE:DX):av:=
 (ai (cE (df 4<|aY (bK<|aq<|aj (zx ad) EE 2<|aa (ac 0)<|aa (ac 1) af) ["one"] [] (ag 0) (ao<|ah cB (b6 ad.C_Outcome (ac 0) "verdict")<|dC<|.str "faulty")<|ac 0) 4)
  (kI ad EE))
def j6(ad:Ad)(EE:DX):av:=
 (ai (df 3<|aY (bK<|ac 2) ["thing"] [] (ag 0) dG<|dC<|.int 0)
  (lB ad EE))
def yw(ad:Ad)(EE:DX):av:=
 (ai (au (aq<|aj (j_ ad) EE 1<|aa (ac 0) af)<|ag 2)
  (j6 ad EE))
def uh(ad:Ad):Sd:=aJ ["case","limit","things","told","ends","many","end","faulty","sound","each","number"] (yw ad)
theorem P7{ad:Ad}{n:Nat}{b a:D}{M:Mem}{Q:DK}{E:DX}:uh ad [b,a] M Q E=yw ad (aB E) { nx:=λ_ M'=>drp Q .non M',rt:=drp Q } [ap b,ap a,cm,cm,cm,cm,cm,cm,cm,cm,cm] M:=rfl
def pP(ad:Ad)(EE:DX):av:=
 (aN (BG (ao<|ah jW (ah aw (ac 2)<|dC<|.int 0)<|ah aw (ah aw (ac 0)<|dC<|.int 0)<|dC<|.int 0)<|ao<|ah jW (aq<|aj (j_ ad) EE 1<|aa (ac 2) af)<|ac 4) (jw ad.C_NoCase EE) aH)
def ku(ad:Ad)(EE:DX):av:=
 (aF<|aY (nC<|aa (ac 4) af) ["number","thing"] [5,3] (gZ 2<|bh (ag 0)<|bh (ag 1) gr) dG<|aM<|aa (ac 1)<|aa (aq<|aj (GU ad) jf 2<|aa (bF wq<|aa (aq<|aY (bK<|ac 3) ["orders"] [0] (ag 0) dG<|ah aw (ac 0)<|ac 1) af)<|aa (ac 2) af) af)
def kN(ad:Ad)(EE:DX):av:=
 (ai (au (ah cN (ah aw (aq<|aj (t8 ad) EE 1<|aa (bF bR<|aa (ac 4) af) af)<|uK<|dC<|.int 1)<|bF bR<|aa (ac 0) af)<|ag 5)
  (ku ad EE))
def m8(ad:Ad)(EE:DX):av:=
 (ai (cL (bK<|ac 0) (ag 2)<|pP ad EE)
  (kN ad EE))
def lh(ad:Ad)(EE:DX):av:=
 (ai (au (aq<|aj (j_ ad) EE 1<|aa (ah aw (ac 0)<|dC<|.int 0) af)<|ag 4)
  (m8 ad EE))
def xH(ad:Ad)(EE:DX):av:=
 (ai (au (aq<|aY (bK<|ac 0) ["case"] [1] (ag 0) dG<|aq<|aj (uh ad) jf 2<|aa (ac 0)<|aa (ac 1) af)<|ag 3)
  (lh ad EE))
def wA(ad:Ad):Sd:=aJ ["cases","limit","case","held","things","whole"] (xH ad)
theorem NO{ad:Ad}{n:Nat}{b a:D}{M:Mem}{Q:DK}{E:DX}:wA ad [b,a] M Q E=xH ad (aB E) { nx:=λ_ M'=>drp Q .non M',rt:=drp Q } [ap b,ap a,cm,cm,cm,cm] M:=rfl
def zd(ad:Ad)(EE:DX):av:=
 (aF<|aj (wA ad) EE 2<|aa (aq<|bV<|aa (ac 0) af)<|aa (ac 1) af)
def jY(ad:Ad):Sd:=aJ ["case","limit"] (zd ad)
theorem NL{ad:Ad}{n:Nat}{b a:D}{M:Mem}{Q:DK}{E:DX}:jY ad [b,a] M Q E=zd ad (aB E) { nx:=λ_ M'=>drp Q .non M',rt:=drp Q } [ap b,ap a] M:=rfl
def wV(ad:Ad)(EE:DX):av:=
 (ai (au (ah dw (ah cN (ah Nh (ac 2)<|ah g_ (ac 2)<|dC<|.int 2147483648)<|dC<|.int 2685821657736338717)<|dC<|.int 18446744073709551616)<|ag 2)
  (aF<|ah g_ (ac 2)<|dC<|.int 1048576))
def yI(ad:Ad)(EE:DX):av:=
 (ai (au (ah dw (ah aZ (ah aZ (ah cN (ac 0)<|dC<|.int 6364136223846793005)<|ah cN (ac 1)<|dC<|.int 1442695040888963407)<|dC<|.int 97)<|dC<|.int 18446744073709551616)<|ag 2)
  (wV ad EE))
def mC(ad:Ad):Sd:=aJ ["cell","turn","one"] (yI ad)
theorem Oa{ad:Ad}{n:Nat}{b a:D}{M:Mem}{Q:DK}{E:DX}:mC ad [b,a] M Q E=yI ad (aB E) { nx:=λ_ M'=>drp Q .non M',rt:=drp Q } [ap b,ap a,cm] M:=rfl
def Ah(ad:Ad)(EE:DX):av:=
 (au (ah dw (ah aZ (ah cN (ac 1)<|dC<|.int 1000003)<|ac 2)<|dC<|.int 18446744073709551616)<|ag 1)
def yN(ad:Ad)(EE:DX):av:=
 (aF<|bV<|aa (bF eY<|aa (aq<|tX (ac 0) bM<|cP<|dC<|.int 63) af)<|aa (dC<|.int 0)<|aa (dC<|.int 0)<|aa (ac 1) af)
def wO(ad:Ad)(EE:DX):av:=
 (ai (cL (bK<|aq<|tX (ac 0) bM<|cP<|dC<|.int 63) (ag 2)<|Ah ad EE)
  (yN ad EE))
def xk(ad:Ad)(EE:DX):av:=
 (ai (au (dC<|.int 7)<|ag 1)
  (wO ad EE))
def yb(ad:Ad):Sd:=aJ ["script","seed","cell"] (xk ad)
theorem NB{ad:Ad}{n:Nat}{a:D}{M:Mem}{Q:DK}{E:DX}:yb ad [a] M Q E=xk ad (aB E) { nx:=λ_ M'=>drp Q .non M',rt:=drp Q } [ap a,cm,cm] M:=rfl
def zg(ad:Ad)(EE:DX):av:=
 (aF<|ah dw (aq<|aj (mC ad) EE 2<|aa (ac 2)<|aa (ah aw (ac 0)<|dC<|.int 1) af)<|ac 1)
def zK(ad:Ad)(EE:DX):av:=
 (ai (aN (ao<|ah vX (ac 2)<|ah Mp (dC<|.int 10)<|dC<|.int 18) (zg ad EE) aH)
   (au (ac 2)<|dq (ac 0)<|dC<|.int 2))
def zY(ad:Ad)(EE:DX):av:=
 (ai (au (nN "list" A_ (ah aw (ac 0)<|dC<|.int 0)<|aa (dC<|.int 0) af)<|ag 2)
   (zK ad EE))
def zm(ad:Ad)(EE:DX):av:=
 (aF<|ah dw (aq<|aj (mC ad) EE 2<|aa (ah aw (ac 0)<|dC<|.int 3)<|aa (ah aw (ac 0)<|dC<|.int 1) af)<|ac 1)
def xc(ad:Ad)(EE:DX):av:=
 (ai (au (ah g_ (ah aw (ac 0)<|dC<|.int 2)<|ac 1)<|dq (ac 0)<|dC<|.int 2)
  (aF<|ac 3))
def A7(ad:Ad)(EE:DX):av:=
 (ai (au (ah dw (ah aw (ac 0)<|dC<|.int 2)<|ac 1)<|ag 3)
  (xc ad EE))
def wg(ad:Ad)(EE:DX):av:=
 (ai (aN (ao<|ah cB (ah aw (ac 0)<|dC<|.int 2)<|dC<|.int 0) (zm ad EE) aH)
  (A7 ad EE))
def yu(ad:Ad)(EE:DX):av:=
 (ai (aN (BM (ao<|ah cB (ah aw (ac 0)<|dC<|.int 2)<|dC<|.int 0)<|ao<|ah jW (ah aw (ac 0)<|dC<|.int 0)<|aq<|bV af) (zY ad EE) aH)
  (wg ad EE))
def z6(ad:Ad)(EE:DX):av:=
 (ai (au (ah aZ (ah aw (ac 0)<|dC<|.int 1)<|dC<|.int 1)<|dq (ac 0)<|dC<|.int 1)
  (yu ad EE))
def bi(ad:Ad):Sd:=aJ ["pot","many","cell","found"] (z6 ad)
theorem Ow{ad:Ad}{n:Nat}{b a:D}{M:Mem}{Q:DK}{E:DX}:bi ad [b,a] M Q E=z6 ad (aB E) { nx:=λ_ M'=>drp Q .non M',rt:=drp Q } [ap b,ap a,cm,cm] M:=rfl
def wy(ad:Ad)(EE:DX):av:=
 (bo<|nN "list" ca (ac 3)<|aa (ah cN (ac 5)<|ah aZ (dC<|.int 1)<|aq<|aj (bi ad) EE 2<|aa (ac 0)<|aa (dC<|.int 8) af) af)
def wJ(ad:Ad)(EE:DX):av:=
 (ai (au (ah aw (dC<|.str "abcdefghijklmnopqrstuvwxyz")<|ah dw (ah aZ (ac 2)<|ah cN (dC<|.int 7)<|ac 4)<|dC<|.int 26)<|ag 5)
   (wy ad EE))
def xi(ad:Ad)(EE:DX):av:=
 (ai (cL (gs<|aa (ac 1) af) (ag 4)<|wJ ad EE)
  (aF<|bF cI<|aa (ac 3) af))
def xy(ad:Ad)(EE:DX):av:=
 (ai (au (aq<|aj (bi ad) EE 2<|aa (ac 0)<|aa (dC<|.int 26) af)<|ag 2)
  (ai (au (bV af)<|ag 3)
  (xi ad EE)))
def zu(ad:Ad):Sd:=aJ ["pot","many","turn","names","k","sign"] (xy ad)
theorem Ph{ad:Ad}{n:Nat}{b a:D}{M:Mem}{Q:DK}{E:DX}:zu ad [b,a] M Q E=xy ad (aB E) { nx:=λ_ M'=>drp Q .non M',rt:=drp Q } [ap b,ap a,cm,cm,cm,cm] M:=rfl
def wz(ad:Ad)(EE:DX):av:=
 (aF<|aM<|aa (ac 6)<|aa (ac 7)<|aa (aj (bi ad) EE 2<|aa (ac 0)<|aa (ac 2) af) af)
def yq(ad:Ad)(EE:DX):av:=
 (aF<|aM<|aa (ac 6)<|aa (ac 7)<|aa (aj (bi ad) EE 2<|aa (ac 0)<|aa (ac 4) af) af)
def w6(ad:Ad)(EE:DX):av:=
 (aF<|aM<|aa (ac 6)<|aa (ac 7)<|aa (ac 8) af)
def wW(ad:Ad)(EE:DX):av:=
 (aF<|aM<|aa (ac 6)<|aa (ac 7)<|aa (ac 8)<|aa (ah aw (ac 3)<|aq<|aj (bi ad) EE 2<|aa (ac 0)<|aa (bF bR<|aa (ac 3) af) af) af)
def wH(ad:Ad)(EE:DX):av:=
 (ai (aN (ao<|ah cB (ac 6)<|dC<|.str "pick") (w6 ad EE) aH)
  (wW ad EE))
def wS(ad:Ad)(EE:DX):av:=
 (ai (au (ah aw (ac 3)<|aq<|aj (bi ad) EE 2<|aa (ac 0)<|aa (bF bR<|aa (ac 3) af) af)<|ag 8)
  (wH ad EE))
def xM(ad:Ad)(EE:DX):av:=
 (ai (aN (ao<|ah cB (ac 6)<|dC<|.str "take") (yq ad EE) aH)
  (wS ad EE))
def xZ(ad:Ad)(EE:DX):av:=
 (ai (aN (ao<|ah cB (ac 6)<|dC<|.str "put") (wz ad EE) aH)
  (xM ad EE))
def xS(ad:Ad)(EE:DX):av:=
 (ai (au (ah aw (ac 3)<|aq<|aj (bi ad) EE 2<|aa (ac 0)<|aa (bF bR<|aa (ac 3) af) af)<|ag 7)
  (xZ ad EE))
def tE(ad:Ad)(EE:DX):av:=
 (ai (au (ah aw (ac 5)<|aq<|aj (bi ad) EE 2<|aa (ac 0)<|aa (pX (ao<|ah Be (ac 4)<|dC<|.int 0) (dC<|.int 9)<|dC<|.int 7) af)<|ag 6)
  (xS ad EE))
def tB(ad:Ad)(EE:DX):av:=
 (ai (au (aq<|bV<|aa (dC<|.str "put")<|aa (dC<|.str "sum")<|aa (dC<|.str "by")<|aa (dC<|.str "less")<|aa (dC<|.str "same")<|aa (dC<|.str "sum")<|aa (dC<|.str "put")<|aa (dC<|.str "take")<|aa (dC<|.str "pick") af)<|ag 5)
  (tE ad EE))
def yC(ad:Ad)(EE:DX):av:=
 (ai (au (ac 1)<|gZ 3<|bh (ag 2)<|bh (ag 3)<|bh (ag 4) gr)
  (tB ad EE))
def Ae(ad:Ad):Sd:=aJ ["pot","told","m","names","many","ways","way","x","y"] (yC ad)
theorem OA{ad:Ad}{n:Nat}{b a:D}{M:Mem}{Q:DK}{E:DX}:Ae ad [b,a] M Q E=yC ad (aB E) { nx:=λ_ M'=>drp Q .non M',rt:=drp Q } [ap b,ap a,cm,cm,cm,cm,cm,cm,cm] M:=rfl
def zB(ad:Ad)(Wc Wb:Sd)(EE:DX):av:=
 (aF<|bV<|aa (aM<|aa (dC<|.str "if")<|aa (ac 7)<|aa (ac 8)<|aa (aj Wb EE 5<|aa (ac 0)<|aa (ac 1)<|aa (ac 2)<|aa (ah aZ (ac 3)<|dC<|.int 1)<|aa (dC<|.int 5) af) af) af)
def zC(ad:Ad)(Wc Wb:Sd)(EE:DX):av:=
 (aF<|bV<|aa (aM<|aa (dC<|.str "again")<|aa (ac 7)<|aa (ac 8) af) af)
def xz(ad:Ad)(Wc Wb:Sd)(EE:DX):av:=
 (aF<|bV<|aa (aM<|aa (dC<|.str "put")<|aa (ac 7)<|aa (aj (bi ad) EE 2<|aa (ac 0)<|aa (bF ER<|aa (ac 4)<|aa (dC<|.int 9) af) af) af)<|aa (aM<|aa (dC<|.str "put")<|aa (ac 10)<|aa (ah gu (ac 4)<|dC<|.int 1) af)<|aa (aM<|aa (dC<|.str "again")<|aa (ac 7)<|aa (ah aZ (ac 8)<|aM<|aa (aM<|aa (dC<|.str "sum")<|aa (ac 7)<|aa (ac 7)<|aa (ac 10) af) af) af) af)
def zO(ad:Ad)(Wc Wb:Sd)(EE:DX):av:=
 (ai (au (ah aw (ac 5)<|aq<|aj (bi ad) EE 2<|aa (ac 0)<|aa (bF bR<|aa (ac 5) af) af)<|ag 10)
  (xz ad Wc Wb EE))
def x6(ad:Ad)(Wc Wb:Sd)(EE:DX):av:=
 (ai (aN (ao<|ah cB (ac 9)<|dC<|.int 2) (zC ad Wc Wb EE) aH)
  (zO ad Wc Wb EE))
def zN(ad:Ad)(Wc Wb:Sd)(EE:DX):av:=
 (ai (aN (ao<|ah vX (ac 9)<|dC<|.int 2) (zB ad Wc Wb EE) aH)
  (x6 ad Wc Wb EE))
def xG(ad:Ad)(Wc Wb:Sd)(EE:DX):av:=
 (ai (au (aq<|aj (bi ad) EE 2<|aa (ac 0)<|aa (dC<|.int 5) af)<|ag 9)
  (zN ad Wc Wb EE))
def yY(ad:Ad)(Wc Wb:Sd)(EE:DX):av:=
 (ai (au (aq<|aj Wb EE 5<|aa (ac 0)<|aa (ac 1)<|aa (ac 2)<|aa (ah aZ (ac 3)<|dC<|.int 1)<|aa (dC<|.int 5) af)<|ag 8)
  (xG ad Wc Wb EE))
def A5(ad:Ad)(Wc Wb:Sd)(EE:DX):av:=
 (ai (au (ah aw (ac 5)<|aq<|aj (bi ad) EE 2<|aa (ac 0)<|aa (bF bR<|aa (ac 5) af) af)<|ag 7)
  (yY ad Wc Wb EE))
def y3(ad:Ad)(Wc Wb:Sd)(EE:DX):av:=
 (ai (au (ac 1)<|gZ 3<|bh (ag 4)<|bh (ag 5)<|bh (ag 6) gr)
  (A5 ad Wc Wb EE))
def xU(ad:Ad)(Wc Wb:Sd)(EE:DX):av:=
 (au (ah aZ (ac 5)<|aq<|aj Wc EE 4<|aa (ac 0)<|aa (ac 1)<|aa (ac 2)<|aa (ac 3) af)<|ag 5)
def zW(ad:Ad)(Wc Wb:Sd)(EE:DX):av:=
 (ai (au (ah gu (ah aw (ac 2)<|dC<|.int 0)<|dC<|.int 4)<|dq (ac 2)<|dC<|.int 0)
    (xU ad Wc Wb EE))
def xb(ad:Ad)(Wc Wb:Sd)(EE:DX):av:=
 (bo<|nN "list" ca (ac 5)<|aa (aq<|aj (Ae ad) EE 2<|aa (ac 0)<|aa (ac 1) af) af)
def yJ(ad:Ad)(Wc Wb:Sd)(EE:DX):av:=
 (ai (au (ah gu (ah aw (ac 2)<|dC<|.int 0)<|dC<|.int 1)<|dq (ac 2)<|dC<|.int 0)
     (xb ad Wc Wb EE))
def xB(ad:Ad)(Wc Wb:Sd)(EE:DX):av:=
 (aN (ao<|ah Be (ah aw (ac 2)<|dC<|.int 0)<|dC<|.int 0) (yJ ad Wc Wb EE) aH)
def A8(ad:Ad)(Wc Wb:Sd)(EE:DX):av:=
 (aN (BM (ao<|ah Be (ah aw (ac 2)<|dC<|.int 0)<|dC<|.int 4)<|BM (ao<|ah vX (ac 3)<|dC<|.int 4)<|ao<|ah cB (aq<|aj (bi ad) EE 2<|aa (ac 0)<|aa (dC<|.int 4) af)<|dC<|.int 0) (zW ad Wc Wb EE)<|xB ad Wc Wb EE)
def A6(ad:Ad)(Wc Wb:Sd)(EE:DX):av:=
 (ai (cL (gs<|aa (aq<|aj (bi ad) EE 2<|aa (ac 0)<|aa (ac 4) af) af) (ag 6)<|A8 ad Wc Wb EE)
  (aF<|bF cI<|aa (ac 5) af))
def zb(ad:Ad)(Wc Wb:Sd)(EE:DX):av:=
 (ai (au (bV af)<|ag 5)
  (A6 ad Wc Wb EE))
mutual
def Wc(ad:Ad):Nat->Sd
 |0=>λ_ _ _ _=>False
 |n+1=>aJ ["pot","told","room","deep","m","names","many","x","first","way","y"] (y3 ad (Wc ad n)<|Wb ad n)
def Wb(ad:Ad):Nat->Sd
 |0=>λ_ _ _ _=>False
 |n+1=>aJ ["pot","told","room","deep","most","rows","k"] (zb ad (Wc ad n)<|Wb ad n)
end
theorem NI{ad:Ad}{n:Nat}{c a b e:D}{M:Mem}{Q:DK}{E:DX}:Wc ad (n+1) [c,a,b,e] M Q E=y3 ad (Wc ad n) (Wb ad n) (aB E) { nx:=λ_ M'=>drp Q .non M',rt:=drp Q } [ap c,ap a,ap b,ap e,cm,cm,cm,cm,cm,cm,cm] M:=rfl
theorem NE{ad:Ad}{n:Nat}{c f b e a:D}{M:Mem}{Q:DK}{E:DX}:Wb ad (n+1) [c,f,b,e,a] M Q E=zb ad (Wc ad n) (Wb ad n) (aB E) { nx:=λ_ M'=>drp Q .non M',rt:=drp Q } [ap c,ap f,ap b,ap e,ap a,cm,cm] M:=rfl
def yR(ad:Ad)(EE:DX):av:=
 (aF<|aM<|aa (ac 2)<|aa (ac 3)<|aa (ac 4)<|aa (ac 5)<|aa (ah aw (ac 3)<|aq<|aj (bi ad) EE 2<|aa (ac 0)<|aa (bF bR<|aa (ac 3) af) af) af)
def yP(ad:Ad)(EE:DX):av:=
 (ai (au (aq<|aj (Wb ad 24) EE 5<|aa (ac 0)<|aa (aM<|aa (ac 2)<|aa (ac 3)<|aa (ac 4) af)<|aa (bV<|aa (ac 1) af)<|aa (dC<|.int 0)<|aa (ah aw (aq<|bV<|aa (dC<|.int 6)<|aa (dC<|.int 12)<|aa (dC<|.int 30) af)<|aq<|aj (bi ad) EE 2<|aa (ac 0)<|aa (dC<|.int 3) af) af)<|ag 5)
  (yR ad EE))
def ym(ad:Ad)(EE:DX):av:=
 (ai (au (ah aw (aq<|bV<|aa (dC<|.int 0)<|aa (ah aZ (dC<|.int 1)<|aq<|aj (bi ad) EE 2<|aa (ac 0)<|aa (dC<|.int 4) af)<|aa (aq<|aj (bi ad) EE 2<|aa (ac 0)<|aa (dC<|.int 41) af) af)<|aq<|aj (bi ad) EE 2<|aa (ac 0)<|aa (dC<|.int 3) af)<|ag 4)
  (yP ad EE))
def zT(ad:Ad)(EE:DX):av:=
 (ai (au (aq<|aj (zu ad) EE 2<|aa (ac 0)<|aa (ah aZ (dC<|.int 1)<|aq<|aj (bi ad) EE 2<|aa (ac 0)<|aa (ah aw (aq<|bV<|aa (dC<|.int 3)<|aa (dC<|.int 5)<|aa (dC<|.int 12) af)<|aq<|aj (bi ad) EE 2<|aa (ac 0)<|aa (dC<|.int 3) af) af) af)<|ag 3)
  (ym ad EE))
def xj(ad:Ad)(EE:DX):av:=
 (ai (au (ah aw (aq<|bV<|aa (dC<|.int 2)<|aa (dC<|.int 3)<|aa (ah aZ (dC<|.int 2)<|aq<|aj (bi ad) EE 2<|aa (ac 0)<|aa (dC<|.int 9) af)<|aa (ah aZ (dC<|.int 2)<|aq<|aj (bi ad) EE 2<|aa (ac 0)<|aa (dC<|.int 996) af) af)<|aq<|aj (bi ad) EE 2<|aa (ac 0)<|aa (dC<|.int 4) af)<|ag 2)
  (zT ad EE))
def A1(ad:Ad):Sd:=aJ ["pot","most","m","names","many","rows"] (xj ad)
theorem OG{ad:Ad}{n:Nat}{b a:D}{M:Mem}{Q:DK}{E:DX}:A1 ad [b,a] M Q E=xj ad (aB E) { nx:=λ_ M'=>drp Q .non M',rt:=drp Q } [ap b,ap a,cm,cm,cm,cm] M:=rfl
def yn(ad:Ad)(EE:DX):av:=
 (aF<|aM<|aa (ac 2)<|aa (bF cI<|aa (aq<|aY (gs<|aa (ah aw (ac 1)<|dC<|.int 2) af) ["k"] [0,1] (ag 0) dG<|aq<|aj (bi ad) jf 2<|aa (ac 1)<|aa (ah aw (ac 2)<|dC<|.int 0) af) af) af)
def yS(ad:Ad)(EE:DX):av:=
 (ai (au (bF cI<|aa (aq<|aY (bK<|ah aw (ac 1)<|dC<|.int 1) ["name"] [0,1] (ag 0) dG<|aq<|aj (bi ad) jf 2<|aa (ac 1)<|aa (ah aw (ac 2)<|dC<|.int 0) af) af)<|ag 2)
  (yn ad EE))
def yF(ad:Ad):Sd:=aJ ["pot","plan","numbers"] (yS ad)
theorem Py{ad:Ad}{n:Nat}{b a:D}{M:Mem}{Q:DK}{E:DX}:yF ad [b,a] M Q E=yS ad (aB E) { nx:=λ_ M'=>drp Q .non M',rt:=drp Q } [ap b,ap a,cm] M:=rfl
def F3(ad:Ad)(EE:DX):av:=
 (aF<|ah aw (ac 3)<|ah dw (ah aw (ac 2)<|ah aw (ac 1)<|dC<|.int 2)<|bF bR<|aa (ac 3) af)
def BO(ad:Ad)(EE:DX):av:=
 (aF<|ah dw (aq<|ah aZ (ac 7)<|ac 8)<|ac 6)
def BK(ad:Ad)(EE:DX):av:=
 (aF<|pX (ao<|ah vX (ac 7)<|ac 8) (dC<|.int 1)<|dC<|.int 0)
def DL(ad:Ad)(EE:DX):av:=
 (aF<|pX (ao<|ah cB (ac 7)<|ac 8) (dC<|.int 1)<|dC<|.int 0)
def C9(ad:Ad)(EE:DX):av:=
 (ai (aN (ao<|ah cB (ah aw (ac 1)<|dC<|.int 0)<|dC<|.str "less") (BK ad EE) aH)
  (DL ad EE))
def Fe(ad:Ad)(EE:DX):av:=
 (ai (aN (ao<|ah cB (ah aw (ac 1)<|dC<|.int 0)<|dC<|.str "by") (aF<|ah dw (ah cN (ac 7)<|ac 8)<|ac 6) aH)
  (C9 ad EE))
def Do(ad:Ad)(EE:DX):av:=
 (ai (aN (ao<|ah cB (ah aw (ac 1)<|dC<|.int 0)<|dC<|.str "sum") (BO ad EE) aH)
  (Fe ad EE))
def CU(ad:Ad)(EE:DX):av:=
 (ai (au (ah aw (ac 2)<|ah aw (ac 1)<|dC<|.int 3)<|ag 8)
  (Do ad EE))
def Dc(ad:Ad)(EE:DX):av:=
 (ai (au (ah aw (ac 2)<|ah aw (ac 1)<|dC<|.int 2)<|ag 7)
  (CU ad EE))
def xV(ad:Ad)(EE:DX):av:=
 (ai (aN (ao<|ah cB (ah aw (ac 1)<|dC<|.int 0)<|dC<|.str "pick") (F3 ad EE) aH)
  (Dc ad EE))
def xg(ad:Ad)(EE:DX):av:=
 (ai (aN (ao<|ah cB (ah aw (ac 1)<|dC<|.int 0)<|dC<|.str "take") (aF<|ah aw (ac 3)<|ah aw (ac 1)<|dC<|.int 2) aH)
  (xV ad EE))
def Ac(ad:Ad)(EE:DX):av:=
 (ai (aN (ao<|ah cB (ah aw (ac 1)<|dC<|.int 0)<|dC<|.str "put") (aF<|ah aw (ac 1)<|dC<|.int 2) aH)
  (xg ad EE))
def vQ(ad:Ad)(EE:DX):av:=
 (ai (au (ac 0)<|uS 5<|bh (ag 2)<|bh (ag 3)<|bh (ag 4)<|bh (ag 5)<|bh (ag 6) gr)
  (Ac ad EE))
def BL(ad:Ad):Sd:=aJ ["gone","row","numbers","pieces","steps","most","m","one","other"] (vQ ad)
theorem GD{ad:Ad}{n:Nat}{b a:D}{M:Mem}{Q:DK}{E:DX}:BL ad [b,a] M Q E=vQ ad (aB E) { nx:=λ_ M'=>drp Q .non M',rt:=drp Q } [ap b,ap a,cm,cm,cm,cm,cm,cm,cm] M:=rfl
def wv(ad:Ad)(EE:DX):av:=
 (ai (bo<|nN "list" ca (ah aw (ac 0)<|dC<|.int 2)<|aa (aM<|aa (ac 1)<|aa (ac 2) af) af)
  (aF<|dC<|.bl true))
def zV(ad:Ad)(EE:DX):av:=
 (ai (aN (ao<|ah cB (bF bR<|aa (ah aw (ac 0)<|dC<|.int 2) af)<|ah aw (ac 0)<|dC<|.int 3) (aF<|dC<|.bl eC) aH)
  (wv ad EE))
def jS(ad:Ad):Sd:=aJ ["gone","place","number"] (zV ad)
theorem OI{ad:Ad}{n:Nat}{c a b:D}{M:Mem}{Q:DK}{E:DX}:jS ad [c,a,b] M Q E=zV ad (aB E) { nx:=λ_ M'=>drp Q .non M',rt:=drp Q } [ap c,ap a,ap b] M:=rfl
def yv(ad:Ad)(Wf Wd:Sd)(EE:DX):av:=
 (aN (k8<|eM<|aq<|aj Wd EE 3<|aa (ac 0)<|aa (ah aw (ac 1)<|dC<|.int 2)<|aa (ah aZ (ac 2)<|aM<|aa (ac 3) af) af) (aF<|dC<|.bl eC) aH)
def xu(ad:Ad)(Wf Wd:Sd)(EE:DX):av:=
 (ai (aN (ao<|ah cB (ac 4)<|dC<|.int 0) (aF<|dC<|.bl true) aH)
   (yv ad Wf Wd EE))
def A9(ad:Ad)(Wf Wd:Sd)(EE:DX):av:=
 (ai (aN (k8<|eM<|aq<|aj (jS ad) EE 3<|aa (ac 0)<|aa (ah aZ (ac 2)<|aM<|aa (ac 3) af)<|aa (ac 4) af) (aF<|dC<|.bl eC) aH)
   (xu ad Wf Wd EE))
def xI(ad:Ad)(Wf Wd:Sd)(EE:DX):av:=
 (ai (au (pX (ao<|ah cB (ah aw (ah aw (ac 0)<|dC<|.int 0)<|ah aw (ac 1)<|dC<|.int 1)<|dC<|.int 0) (dC<|.int 0)<|dC<|.int 1)<|ag 4)
   (A9 ad Wf Wd EE))
def zy(ad:Ad)(Wf Wd:Sd)(EE:DX):av:=
 (ai (cL (gs<|aa (ah aZ (ah aw (ac 0)<|dC<|.int 3)<|dC<|.int 1) af) (ag 3)<|xI ad Wf Wd EE)
  (aF<|dC<|.bl eC))
def wP(ad:Ad)(Wf Wd:Sd)(EE:DX):av:=
 (aN (k8<|eM<|aq<|aj Wf EE 3<|aa (ac 0)<|aa (ac 4)<|aa (ac 5) af) (aF<|dC<|.bl eC) aH)
def zS(ad:Ad)(Wf Wd:Sd)(EE:DX):av:=
 (aN (BG (k8<|eM<|aq<|aj (jS ad) EE 3<|aa (ac 0)<|aa (ac 5)<|aa (ac 6) af)<|k8<|eM<|aq<|aj Wd EE 3<|aa (ac 0)<|aa (ac 7)<|aa (ah aZ (ac 5)<|aM<|aa (ac 6) af) af) (aF<|dC<|.bl eC) aH)
def wu(ad:Ad)(Wf Wd:Sd)(EE:DX):av:=
 (ai (au (ah aw (aq<|bV<|aa (ah aw (ac 4)<|dC<|.int 3)<|aa (ah aw (ac 4)<|dC<|.int 2) af)<|ac 6)<|ag 7)
     (zS ad Wf Wd EE))
def xr(ad:Ad)(Wf Wd:Sd)(EE:DX):av:=
 (ai (au (pX (ao<|ah cB (ah aw (ah aw (ac 0)<|dC<|.int 0)<|ah aw (ac 4)<|dC<|.int 1)<|dC<|.int 0) (dC<|.int 0)<|dC<|.int 1)<|ag 6)
     (wu ad Wf Wd EE))
def Ai(ad:Ad)(Wf Wd:Sd)(EE:DX):av:=
 (au (ac 8)<|dq (ah aw (ac 0)<|dC<|.int 0)<|ah aw (ac 4)<|dC<|.int 1)
def v_(ad:Ad)(Wf Wd:Sd)(EE:DX):av:=
 (ai (aN (k8<|eM<|aq<|aj (jS ad) EE 3<|aa (ac 0)<|aa (ac 5)<|aa (ac 8) af) (aF<|dC<|.bl eC) aH)
     (Ai ad Wf Wd EE))
def ww(ad:Ad)(Wf Wd:Sd)(EE:DX):av:=
 (ai (au (aq<|aj (BL ad) EE 2<|aa (ac 0)<|aa (ac 4) af)<|ag 8)
     (v_ ad Wf Wd EE))
def y6(ad:Ad)(Wf Wd:Sd)(EE:DX):av:=
 (aN (ao<|ah cB (ah aw (ac 4)<|dC<|.int 0)<|dC<|.str "if") (xr ad Wf Wd EE)<|ww ad Wf Wd EE)
def ye(ad:Ad)(Wf Wd:Sd)(EE:DX):av:=
 (aN (ao<|ah cB (ah aw (ac 4)<|dC<|.int 0)<|dC<|.str "again") (wP ad Wf Wd EE)<|y6 ad Wf Wd EE)
def ub(ad:Ad)(Wf Wd:Sd)(EE:DX):av:=
 (ai (au (ah aZ (ac 2)<|aM<|aa (ac 3) af)<|ag 5)
   (ye ad Wf Wd EE))
def xF(ad:Ad)(Wf Wd:Sd)(EE:DX):av:=
 (ai (cL (nC<|aa (ac 1) af) (gZ 2<|bh (ag 3)<|bh (ag 4) gr)<|ub ad Wf Wd EE)
  (aF<|dC<|.bl true))
mutual
def Wf(ad:Ad):Nat->Sd
 |0=>λ_ _ _ _=>False
 |n+1=>aJ ["gone","row","place","turn","look"] (zy ad (Wf ad n)<|Wd ad n)
def Wd(ad:Ad):Nat->Sd
 |0=>λ_ _ _ _=>False
 |n+1=>aJ ["gone","rows","place","at","row","here","look","inner","number"] (xF ad (Wf ad n)<|Wd ad n)
end
theorem Pb{ad:Ad}{n:Nat}{c a b:D}{M:Mem}{Q:DK}{E:DX}:Wf ad (n+1) [c,a,b] M Q E=zy ad (Wf ad n) (Wd ad n) (aB E) { nx:=λ_ M'=>drp Q .non M',rt:=drp Q } [ap c,ap a,ap b,cm,cm] M:=rfl
theorem Ou{ad:Ad}{n:Nat}{c a b:D}{M:Mem}{Q:DK}{E:DX}:Wd ad (n+1) [c,a,b] M Q E=xF ad (Wf ad n) (Wd ad n) (aB E) { nx:=λ_ M'=>drp Q .non M',rt:=drp Q } [ap c,ap a,ap b,cm,cm,cm,cm,cm,cm] M:=rfl
def wF(ad:Ad)(EE:DX):av:=
 (aF<|aM<|aa (ah aw (ac 3)<|dC<|.int 2)<|aa (dC .non) af)
def zF(ad:Ad)(EE:DX):av:=
 (aF<|aM<|aa (ah aw (ac 3)<|dC<|.int 2)<|aa (bF cI<|aa (aq<|aY (bK<|ah aw (ac 0)<|dC<|.int 1) ["name"] [3] (ag 0) dG<|ah aw (ah aw (ac 1)<|dC<|.int 0)<|ac 0) af) af)
def xO(ad:Ad)(EE:DX):av:=
 (ai (aN (k8<|eM<|aq<|aj (Wd ad 24) EE 3<|aa (ac 3)<|aa (ah aw (ac 0)<|dC<|.int 3)<|aa (aM af) af) (wF ad EE) aH)
  (zF ad EE))
def yU(ad:Ad)(EE:DX):av:=
 (ai (au (bV<|aa (f_<|aa (ah aw (ac 0)<|dC<|.int 1)<|aa (ah aw (ac 1)<|dC<|.int 0) af)<|aa (ah aw (ac 1)<|dC<|.int 1)<|aa (bV af)<|aa (ac 2)<|aa (ah aw (ac 0)<|dC<|.int 0) af)<|ag 3)
  (xO ad EE))
def mQ(ad:Ad):Sd:=aJ ["plan","stand","most","gone"] (yU ad)
theorem Pv{ad:Ad}{n:Nat}{c a b:D}{M:Mem}{Q:DK}{E:DX}:mQ ad [c,a,b] M Q E=yU ad (aB E) { nx:=λ_ M'=>drp Q .non M',rt:=drp Q } [ap c,ap a,ap b,cm] M:=rfl
def xL(ad:Ad)(EE:DX):av:=
 (aF<|bF cI<|aa (aq<|aY (bK<|ac 0) ["row"] [] (ag 0) (ao<|ah uW (ah aw (ac 0)<|dC<|.int 0)<|aq<|bV<|aa (dC<|.str "if")<|aa (dC<|.str "again") af)<|ac 0) af)
def sZ(ad:Ad):Sd:=aJ ["rows"] (xL ad)
theorem Oy{ad:Ad}{n:Nat}{a:D}{M:Mem}{Q:DK}{E:DX}:sZ ad [a] M Q E=xL ad (aB E) { nx:=λ_ M'=>drp Q .non M',rt:=drp Q } [ap a] M:=rfl
def kX(ad:Ad)(EE:DX):av:=
 (aF<|aM<|aa (ah aw (ah aw (ac 4)<|dC<|.int 0)<|ac 5)<|aa (ah aw (ah aw (ac 4)<|dC<|.int 1)<|ac 5) af)
def kz(ad:Ad)(EE:DX):av:=
 (ai (au (Nw mi (ah aw (ac 0)<|dC<|.int 1)<|aa (ah aw (ac 0)<|dC<|.int 4) af)<|ag 5)
  (kX ad EE))
def kE(ad:Ad)(EE:DX):av:=
 (ai (aN (ao<|ah Ck (dC .non)<|ac 4) (aF<|dC .non) aH)
  (kz ad EE))
def zZ(ad:Ad)(EE:DX):av:=
 (ai (cE (df 4<|aY (bK<|aq<|bV<|aa (ac 1)<|aa (ac 2) af) ["stand"] [0,3] (ag 0) dG<|ah aw (oa<|aj (mQ ad) jf 3<|aa (ac 1)<|aa (ac 0)<|aa (ac 2) af)<|dC<|.int 1) 4)
  (kE ad EE))
def oK(ad:Ad):Sd:=aJ ["plan","sound","faulty","most","last","at"] (zZ ad)
theorem NM{ad:Ad}{n:Nat}{c a b e:D}{M:Mem}{Q:DK}{E:DX}:oK ad [c,a,b,e] M Q E=zZ ad (aB E) { nx:=λ_ M'=>drp Q .non M',rt:=drp Q } [ap c,ap a,ap b,ap e,cm,cm] M:=rfl
def yV(ad:Ad)(EE:DX):av:=
 (aF<|ah dw (aq<|ah aZ (ah aZ (ac 2)<|dC<|.int 1)<|aq<|aj (bi ad) EE 2<|aa (ac 0)<|aa (ah gu (ac 1)<|dC<|.int 1) af)<|ac 1)
def mz(ad:Ad):Sd:=aJ ["pot","m","number"] (yV ad)
theorem Pl{ad:Ad}{n:Nat}{c a b:D}{M:Mem}{Q:DK}{E:DX}:mz ad [c,a,b] M Q E=yV ad (aB E) { nx:=λ_ M'=>drp Q .non M',rt:=drp Q } [ap c,ap a,ap b] M:=rfl
def lS(ad:Ad)(EE:DX):av:=
 (au (ah aZ (aq<|tX (ac 0) bM<|cP<|dC<|.int 3)<|aM<|aa (ah aZ (ac 5)<|aM<|aa (ac 7) af)<|aa (ah aw (ac 0)<|dC<|.int 4) af)<|ag 0)
def ma(ad:Ad)(EE:DX):av:=
 (ai (au (aM<|aa (dC<|.str "sum")<|aa (ah aw (ac 0)<|dC<|.int 4)<|aa (ah aw (ac 0)<|dC<|.int 4)<|aa (ac 4) af)<|ag 7)
   (lS ad EE))
def lj(ad:Ad)(EE:DX):av:=
 (ai (aN (ao<|ah cB (ah aw (ac 6)<|dC<|.int 0)<|ah aw (ac 6)<|dC<|.int 1) (ma ad EE) aH)
  (aF<|ac 0))
def kC(ad:Ad)(EE:DX):av:=
 (ai (au (aq<|aj (oK ad) EE 4<|aa (ac 0)<|aa (ac 1)<|aa (ac 2)<|aa (ac 3) af)<|ag 6)
  (lj ad EE))
def kO(ad:Ad)(EE:DX):av:=
 (ai (au (ah aZ (aq<|tX (ac 0) bM<|cP<|dC<|.int 3)<|aM<|aa (ac 5)<|aa (ah aw (ac 0)<|dC<|.int 4) af)<|ag 0)
  (kC ad EE))
def y4(ad:Ad)(EE:DX):av:=
 (ai (au (bF cI<|aa (aq<|aY (bK<|aq<|aj (sZ ad) EE 1<|aa (ah aw (ac 0)<|dC<|.int 3) af) ["row"] [4] (ag 0) (ao<|ah jW (ah aw (ac 0)<|dC<|.int 1)<|ac 1)<|ac 0) af)<|ag 5)
  (kO ad EE))
def za(ad:Ad):Sd:=aJ ["plan","sound","faulty","most","name","rows","both","more"] (y4 ad)
theorem OP{ad:Ad}{n:Nat}{c f b e a:D}{M:Mem}{Q:DK}{E:DX}:za ad [c,f,b,e,a] M Q E=y4 ad (aB E) { nx:=λ_ M'=>drp Q .non M',rt:=drp Q } [ap c,ap f,ap b,ap e,ap a,cm,cm,cm] M:=rfl
def pY(ad:Ad)(EE:DX):av:=
 (au (aM<|aa (aM<|aa (dC<|.str "take")<|aa (ah aw (ac 2)<|dC<|.int 0)<|aa (dC<|.int 0) af)<|aa (aM<|aa (dC<|.str "sum")<|aa (ah aw (ac 0)<|dC<|.int 4)<|aa (ah aw (ac 0)<|dC<|.int 4)<|aa (ah aw (ac 2)<|dC<|.int 0) af) af)<|ag 1)
def nh(ad:Ad)(EE:DX):av:=
 (aF<|ah aZ (aq<|tX (ac 0) bM<|cP<|dC<|.int 3)<|aM<|aa (aq<|ah aZ (ah aw (ac 0)<|dC<|.int 3)<|ac 1)<|aa (ah aw (ac 0)<|dC<|.int 4) af)
def qY(ad:Ad)(EE:DX):av:=
 (ai (aN (ao<|ah jW (ac 2)<|aq<|bV af) (pY ad EE) aH)
  (nh ad EE))
def qC(ad:Ad)(EE:DX):av:=
 (ai (cE (df 2<|aY (bK<|ah aw (ac 0)<|dC<|.int 1) ["one"] [0] (ag 0) (ao<|ah jW (ac 0)<|ah aw (ac 1)<|dC<|.int 4)<|ac 0) 2)
  (qY ad EE))
def Hq(ad:Ad)(EE:DX):av:=
 (ai (au (aM<|aa (aM<|aa (dC<|.str "take")<|aa (ah aw (ac 0)<|dC<|.int 4)<|aa (dC<|.int 0) af) af)<|ag 1)
  (qC ad EE))
def Fi(ad:Ad):Sd:=aJ ["plan","more","rest"] (Hq ad)
theorem u_q7{ad:Ad}{n:Nat}{a:D}{M:Mem}{Q:DK}{E:DX}:Fi ad [a] M Q E=Hq ad (aB E) { nx:=λ_ M'=>drp Q .non M',rt:=drp Q } [ap a,cm,cm] M:=rfl
def kY(ad:Ad)(EE:DX):av:=
 (au (aq<|aj (mz ad) EE 3<|aa (ac 0)<|aa (ah aw (ac 3)<|dC<|.int 0)<|aa (ah aw (ac 5)<|ac 7) af)<|dq (ac 5)<|ac 7)
def lz(ad:Ad)(EE:DX):av:=
 (au (aq<|ah aZ (ac 8)<|bF ER<|aa (bF bR<|aa (ac 6) af)<|aa (ah cN (dC<|.int 2)<|ac 2) af)<|ag 8)
def kP(ad:Ad)(EE:DX):av:=
 (ai (au (aq<|aj (mz ad) EE 3<|aa (ac 0)<|aa (ah aw (ac 3)<|dC<|.int 0)<|aa (ah aw (ac 6)<|dC<|.int 0) af)<|dq (ac 6)<|dC<|.int 0)
   (lz ad EE))
def lT(ad:Ad)(EE:DX):av:=
 (au (aq<|aj (mz ad) EE 3<|aa (ac 0)<|aa (ah aw (ac 3)<|dC<|.int 0)<|aa (ah aw (ah aw (ac 4)<|dC<|.int 0)<|ac 10) af)<|dq (ac 5)<|ac 10)
def kF(ad:Ad)(EE:DX):av:=
 (au (aq<|aj (mz ad) EE 3<|aa (ac 0)<|aa (ah aw (ac 3)<|dC<|.int 0)<|aa (ah aw (ah aw (ac 4)<|dC<|.int 1)<|ac 10) af)<|dq (ac 6)<|ac 10)
def m7(ad:Ad)(EE:DX):av:=
 (ai (au (ah gu (ac 10)<|bF bR<|aa (ac 5) af)<|ag 10)
    (kF ad EE))
def lG(ad:Ad)(EE:DX):av:=
 (aN (ao<|ah vX (ac 10)<|bF bR<|aa (ac 5) af) (lT ad EE)<|m7 ad EE)
def iQ(ad:Ad)(EE:DX):av:=
 (ai (au (aq<|aj (bi ad) EE 2<|aa (ac 0)<|aa (ac 8) af)<|ag 10)
   (lG ad EE))
def lK(ad:Ad)(EE:DX):av:=
 (au (ah aZ (aq<|tX (ac 3) bM<|cP<|dC<|.int 3)<|aM<|aa (aq<|aj (sZ ad) EE 1<|aa (ah aw (ac 3)<|dC<|.int 3) af)<|aa (ah aw (ac 3)<|dC<|.int 4) af)<|ag 3)
def nc(ad:Ad)(EE:DX):av:=
 (au (aq<|aj (za ad) EE 5<|aa (ac 3)<|aa (ac 4)<|aa (ac 11)<|aa (ac 12)<|aa (ah aw (ah aw (ac 3)<|dC<|.int 1)<|ac 7) af)<|ag 3)
def nI(ad:Ad)(EE:DX):av:=
 (au (aq<|aj (Fi ad) EE 1<|aa (ac 3) af)<|ag 3)
def g7(ad:Ad)(EE:DX):av:=
 (aN (ao<|ah vX (ac 7)<|bF bR<|aa (ac 5) af) (nc ad EE)<|nI ad EE)
def gh(ad:Ad)(EE:DX):av:=
 (aF<|aM<|aa (ac 3)<|aa (ac 4)<|aa (ac 11)<|aa (ac 12) af)
def iE(ad:Ad)(EE:DX):av:=
 (ai (aN (ao<|ah cB (ah aw (ac 13)<|dC<|.int 0)<|ah aw (ac 13)<|dC<|.int 1) (g7 ad EE) aH)
  (gh ad EE))
def fS(ad:Ad)(EE:DX):av:=
 (ai (au (aq<|aj (oK ad) EE 4<|aa (ac 3)<|aa (ac 4)<|aa (ac 11)<|aa (ac 12) af)<|ag 13)
  (iE ad EE))
def g9(ad:Ad)(EE:DX):av:=
 (ai (aN (ao<|ah jI (aq<|aj (oK ad) EE 4<|aa (ac 3)<|aa (ac 4)<|aa (ac 11)<|aa (ah gu (ac 12)<|dC<|.int 4) af)<|dC .non) (lK ad EE) aH)
  (fS ad EE))
def iB(ad:Ad)(EE:DX):av:=
 (ai (au (ah aZ (dC<|.int 30)<|aq<|aj (bi ad) EE 2<|aa (ac 0)<|aa (dC<|.int 20) af)<|ag 12)
  (g9 ad EE))
def j5(ad:Ad)(EE:DX):av:=
 (ai (au (aM<|aa (bF cI<|aa (ac 5) af)<|aa (bF cI<|aa (ac 6) af) af)<|ag 11)
  (iB ad EE))
def j9(ad:Ad)(EE:DX):av:=
 (ai (cL (gs<|aa (ah gu (ac 2)<|dC<|.int 1) af) (ag 9)<|iQ ad EE)
  (j5 ad EE))
def iY(ad:Ad)(EE:DX):av:=
 (ai (aN (ao<|ah vX (ac 7)<|bF bR<|aa (ac 5) af) (kY ad EE)<|kP ad EE)
  (j9 ad EE))
def ii(ad:Ad)(EE:DX):av:=
 (ai (au (bF bR<|aa (ac 5) af)<|ag 8)
  (iY ad EE))
def jl(ad:Ad)(EE:DX):av:=
 (ai (au (aq<|aj (bi ad) EE 2<|aa (ac 0)<|aa (ah cN (dC<|.int 4)<|bF bR<|aa (ac 5) af) af)<|ag 7)
  (ii ad EE))
def jc(ad:Ad)(EE:DX):av:=
 (ai (au (bF eY<|aa (ah aw (ac 4)<|dC<|.int 1) af)<|ag 6)
  (jl ad EE))
def iN(ad:Ad)(EE:DX):av:=
 (ai (au (bF eY<|aa (ah aw (ac 4)<|dC<|.int 0) af)<|ag 5)
  (jc ad EE))
def ip(ad:Ad)(EE:DX):av:=
 (ai (au (aq<|aj (yF ad) EE 2<|aa (ac 0)<|aa (ac 3) af)<|ag 4)
  (iN ad EE))
def ja(ad:Ad)(EE:DX):av:=
 (ai (au (aq<|ah aZ (ah aZ (aq<|tX (ac 3) bM<|cP<|dC<|.int 2)<|aM<|aa (bF FA<|aa (dC<|.int 1)<|aa (ah aw (ac 3)<|dC<|.int 2) af) af)<|aq<|tX (ac 3) (cP<|dC<|.int 3) bM)<|ag 3)
  (ip ad EE))
def y2(ad:Ad)(EE:DX):av:=
 (ai (au (aq<|aj (A1 ad) EE 2<|aa (ac 0)<|aa (ac 1) af)<|ag 3)
  (ja ad EE))
def zM(ad:Ad):Sd:=aJ ["pot","most_rows","few","plan","sound","numbers","pieces","first","some","k","at","faulty","most","both"] (y2 ad)
theorem PJ{ad:Ad}{n:Nat}{c a b:D}{M:Mem}{Q:DK}{E:DX}:zM ad [c,a,b] M Q E=y2 ad (aB E) { nx:=λ_ M'=>drp Q .non M',rt:=drp Q } [ap c,ap a,ap b,cm,cm,cm,cm,cm,cm,cm,cm,cm,cm,cm] M:=rfl
def ij(ad:Ad)(EE:DX):av:=
 (K0 0 1<|aa (ah dw (ac 1)<|ac 0)<|aa (ac 0) af)
def wN(ad:Ad)(EE:DX):av:=
 (ai (dD (ao<|ah Be (ac 0)<|dC<|.int 0)<|ij ad EE)
  (aF<|ac 1))
def Ag(ad:Ad):Sd:=aJ ["one","other"] (wN ad)
theorem OJ{ad:Ad}{n:Nat}{b a:D}{M:Mem}{Q:DK}{E:DX}:Ag ad [b,a] M Q E=wN ad (aB E) { nx:=λ_ M'=>drp Q .non M',rt:=drp Q } [ap b,ap a] M:=rfl
def qZ(ad:Ad)(EE:DX):av:=
 (au (ah cN (ac 9)<|ah aw (ac 11)<|dC<|.int 1)<|ag 9)
def lq(ad:Ad)(EE:DX):av:=
 (ai (au (ah aZ (ah cN (ac 8)<|ah aw (ac 11)<|dC<|.int 1)<|ah cN (ah aw (ac 11)<|dC<|.int 0)<|ac 9)<|ag 8)
   (qZ ad EE))
def gD(ad:Ad)(EE:DX):av:=
 (ai (aN (BG (ao<|ah vX (ah aw (ac 11)<|dC<|.int 1)<|dC<|.int 1)<|ao<|ah jW (aq<|aj (Ag ad) EE 2<|aa (bF FX<|aa (ah aw (ac 11)<|dC<|.int 0) af)<|aa (ah aw (ac 11)<|dC<|.int 1) af)<|dC<|.int 1) (aF<|dC<|.bl eC) aH)
   (lq ad EE))
def l_(ad:Ad)(EE:DX):av:=
 (aF<|ah cB (aq<|aj (jY ad) EE 2<|aa (ac 13)<|aa (dC<|.int 2000) af)<|aq<|ah aZ (ac 7)<|aq<|bV<|aa (aM<|aa (ah aw (ac 3)<|dC<|.int 2)<|aa (aM<|aa (dC<|.int 0)<|aa (dC<|.int 1) af) af)<|aa (aM<|aa (ah aZ (ah aw (ac 3)<|dC<|.int 2)<|dC<|.int 1)<|aa (aM<|aa (dC<|.int 0)<|aa (dC<|.int 1) af) af) af)
def lb(ad:Ad)(EE:DX):av:=
 (ai (au (aM<|aa (ac 12)<|aa (aM<|aa (ah aw (ac 4)<|dC<|.int 0)<|aa (ah aZ (ah aw (ac 4)<|dC<|.int 1)<|aM<|aa (dC<|.int 0)<|aa (dC<|.int 1) af) af)<|aa (aM<|aa (ah aw (ac 5)<|dC<|.int 0)<|aa (ah aZ (ah aw (ac 5)<|dC<|.int 1)<|aM<|aa (dC<|.int 1)<|aa (dC<|.int 0) af) af)<|aa (ac 6) af)<|ag 13)
  (l_ ad EE))
def iS(ad:Ad)(EE:DX):av:=
 (ai (au (ah aZ (aM<|aa (ah aw (ac 3)<|dC<|.int 0)<|aa (ah aw (ac 3)<|dC<|.int 1)<|aa (ah aZ (ah aw (ac 3)<|dC<|.int 2)<|dC<|.int 2) af)<|aq<|tX (ac 3) (cP<|dC<|.int 3) bM)<|ag 12)
  (lb ad EE))
def kJ(ad:Ad)(EE:DX):av:=
 (ai (aN (BG (ao<|ah Be (ah aw (ac 3)<|dC<|.int 2)<|dC<|.int 38)<|ao<|ah G6 (dC<|.str "'pick'")<|bF pi<|aa (ah aw (ac 3)<|dC<|.int 3) af) (aF<|dC<|.bl true) aH)
  (iS ad EE))
def lQ(ad:Ad)(EE:DX):av:=
 (ai (aN (ao<|ah jW (ac 8)<|ac 9) (aF<|dC<|.bl eC) aH)
  (kJ ad EE))
def me(ad:Ad)(EE:DX):av:=
 (ai (cL (bK<|ac 7) (gZ 2<|bh (ag 10)<|bh (ag 11) gr)<|gD ad EE)
  (lQ ad EE))
def iI(ad:Ad)(EE:DX):av:=
 (ai (au (dC<|.int 0)<|ag 8)
  (ai (au (dC<|.int 1)<|ag 9)
  (me ad EE)))
def je(ad:Ad)(EE:DX):av:=
 (ai (au (aq<|aj (jY ad) EE 2<|aa (ac 2)<|aa (dC<|.int 2000) af)<|ag 7)
  (iI ad EE))
def jk(ad:Ad)(EE:DX):av:=
 (ai (au (ac 2)<|gZ 4<|bh (ag 3)<|bh (ag 4)<|bh (ag 5)<|bh (ag 6) gr)
  (je ad EE))
def j7(ad:Ad)(EE:DX):av:=
 (ai (au (aq<|aj (zM ad) EE 3<|aa (ac 1)<|aa (dC<|.int 24)<|aa (ah aZ (dC<|.int 1)<|aq<|aj (bi ad) EE 2<|aa (ac 1)<|aa (dC<|.int 5) af) af)<|ag 2)
  (jk ad EE))
def z9(ad:Ad)(EE:DX):av:=
 (ai (au (aj (yb ad) EE 1<|aa (ac 0) af)<|ag 1)
  (j7 ad EE))
def CA(ad:Ad):Sd:=aJ ["script","pot","case","plan","sound","faulty","most","found","top","bottom","thing","share","more","other"] (z9 ad)
theorem OX{ad:Ad}{n:Nat}{a:D}{M:Mem}{Q:DK}{E:DX}:CA ad [a] M Q E=z9 ad (aB E) { nx:=λ_ M'=>drp Q .non M',rt:=drp Q } [ap a,cm,cm,cm,cm,cm,cm,cm,cm,cm,cm,cm,cm,cm] M:=rfl
set_option genInjectivity false in
structure En(P:fy)(w:g4)(K:PY)(mg:YC)(base:hI)(ad:Ad):Prop where
 u0:Cls K ad.C_Ends
 u1:mg "Ends"=ap (.ref ad.C_Ends)
 u2:Cls K ad.C_Going
 u3:mg "Going"=ap (.ref ad.C_Going)
 u4:Cls K ad.C_Outcome
 u5:mg "Outcome"=ap (.ref ad.C_Outcome)
 u6:Cls K ad.C_Walk
 u7:mg "Walk"=ap (.ref ad.C_Walk)
 u8:NoAttr K ad.C_Ends "count"
 u9:NoAttr K ad.C_Ends "limit"
 u10:NoAttr K ad.C_Going "left"
 u11:NoAttr K ad.C_Going "numbers"
 u12:NoAttr K ad.C_Going "pieces"
 u13:NoAttr K ad.C_Going "todo"
 u14:NoAttr K ad.C_Going "unsettled"
 u15:NoAttr K ad.C_Outcome "faulty"
 u16:NoAttr K ad.C_Outcome "sound"
 u17:NoAttr K ad.C_Outcome "verdict"
 u18:NoAttr K ad.C_Walk "most"
 u19:NoAttr K ad.C_Walk "numbers"
 u20:NoAttr K ad.C_Walk "pieces"
 u21:NoAttr K ad.C_Walk "plan"
 u22:NoAttr K ad.C_Walk "steps"
 u23:ExcAt K ad.C_Dry
 u24:mg "Dry"=ap (.ref ad.C_Dry)
 u25:ExcAt K ad.C_NoCase
 u26:mg "NoCase"=ap (.ref ad.C_NoCase)
 u27:ExcAt K ad.C_TooMany
 u28:mg "TooMany"=ap (.ref ad.C_TooMany)
 u29:mg "abs"=cm
 u30:mg "dict"=cm
 u31:mg "enumerate"=cm
 u32:mg "isinstance"=cm
 u33:mg "len"=cm
 u34:mg "list"=cm
 u35:mg "max"=cm
 u36:mg "min"=cm
 u37:mg "range"=cm
 u38:mg "repr"=cm
 u39:mg "reversed"=cm
 u40:mg "str"=cm
 u41:mg "sum"=cm
 u42:mg "tuple"=cm
 u43:mg "zip"=cm
 f1:GI K ad.C_Walk "__init__" "Walk.__init__" NP ad.a1 ad.d1 ["self","plan","stand","most"]
 f2:GM K ad.C_Walk "note_step" "Walk.note_step" P9 ad.a2 ad.d2 ["self","place","number"]
 f3:GM K ad.C_Walk "look" "Walk.look" JE ad.a3 ad.d3 ["self","place","name"]
 f4:GF K mg "run" Jr ad.a4 ad.d4 ["plan","stand","most"]
 f5:GF K mg "mark" Iw ad.a5 ad.d5 ["plan","stand","most"]
 f6:GF K mg "do_rows" IK ad.a6 ad.d6 ["walk","rows","place"]
 f7:GA K mg "do_row_runs" "do_row" JF ad.a7 ad.d7 ["walk","row","place"]
 f8:GF K mg "do_if" I_ ad.a8 ad.d8 ["walk","row","place"]
 f9:GF K mg "do_again" IP ad.a9 ad.d9 ["walk","row","place"]
 f10:GF K mg "number_of" J3 ad.a10 ad.d10 ["plan","numbers","pieces","row"]
 f11:GF K mg "piece_read" IM ad.a11 ad.d11 ["plan","numbers","row"]
 f12:GF K mg "joined" Ix ad.a12 ad.d12 ["word","y","z","wheel"]
 f13:GF K mg "all_things" Jq ad.a13 ad.d13 ["plan"]
 f14:GF K mg "in_order" IT ad.a14 ad.d14 ["plan","things"]
 f15:GF K mg "number_in" IW ad.a15 ad.d15 ["plan","stand","thing"]
 f16:GF K mg "names_read" Jw ad.a16 ad.d16 ["row"]
 f17:GF K mg "unlike" Ih ad.a17 ad.d17 ["plan","one","other"]
 f18:GF K mg "marks" Ir ad.a18 ad.d18 ["case"]
 f19:GF K mg "unlike_of" Jh ad.a19 ad.d19 ["case"]
 f20:GF K mg "verdict_of" Im ad.a20 ad.d20 ["two","one"]
 f21:GI K ad.C_Going "__init__" "Going.__init__" O0 ad.a21 ad.d21 ["self","numbers","pieces","unsettled","todo","left"]
 f22:GM K ad.C_Going "settled" "Going.settled" Pn ad.a22 ad.d22 ["self","thing","number"]
 f23:GI K ad.C_Ends "__init__" "Ends.__init__" OB ad.a23 ad.d23 ["self","limit"]
 f24:GM K ad.C_Ends "one_more" "Ends.one_more" Nu ad.a24 ad.d24 ["self"]
 f25:GF K mg "start" Iz ad.a25 ad.d25 ["case"]
 f26:GF K mg "put_ahead" IF ad.a26 ad.d26 ["rows","todo"]
 f27:GF K mg "go_on" Je ad.a27 ad.d27 ["plan","going"]
 f28:GF K mg "asked_by" Ii ad.a28 ad.d28 ["plan","going","row"]
 f29:GA K mg "do_row_trees" "do_row" J0 ad.a29 ad.d29 ["plan","going","row"]
 f30:GF K mg "mark_of" Ji ad.a30 ad.d30 ["plan","going"]
 f31:GF K mg "both_ways" Jx ad.a31 ad.d31 ["case","going","thing"]
 f32:GV K mg "tree" Jn ad.a32 ad.d32 ["case","limit"] (500)
 f33:GF K mg "grown" Jz ad.a33 ad.d33 ["case","going","ends"]
 f34:GI K ad.C_Outcome "__init__" "Outcome.__init__" Oq ad.a34 ad.d34 ["self","verdict","sound","faulty"]
 f35:GF K mg "outcomes" IS ad.a35 ad.d35 ["case","limit"]
 f36:GF K mg "numbers_of" Jy ad.a36 ad.d36 ["bits"]
 f37:GV K mg "shares" IL ad.a37 ad.d37 ["case","limit"] (500)
 f38:GF K mg "mean_of" Iu ad.a38 ad.d38 ["cases","limit"]
 f39:GF K mg "orders_of" IZ ad.a39 ad.d39 ["case","limit"]
 f40:GF K mg "orders_up_to" IY ad.a40 ad.d40 ["count"]
 f41:GF K mg "in_lowest_terms" PC ad.a41 ad.d41 ["n","d"]
 f42:GF K mg "_law_stirred" IB ad.a42 ad.d42 ["cell","turn"]
 f43:GF K mg "_law_pot" Io ad.a43 ad.d43 ["script"]
 f44:GF K mg "_law_draw" Jc ad.a44 ad.d44 ["pot","many"]
 f45:GF K mg "_law_names" ID ad.a45 ad.d45 ["pot","many"]
 f46:GF K mg "_law_row" J2 ad.a46 ad.d46 ["pot","told"]
 f47:GF K mg "_law_block" JD ad.a47 ad.d47 ["pot","told","room","deep"]
 f48:GF K mg "_law_rows" Iy ad.a48 ad.d48 ["pot","told","room","deep","most"]
 f49:GF K mg "_law_plan" Jj ad.a49 ad.d49 ["pot","most"]
 f50:GF K mg "_law_stand" Iv ad.a50 ad.d50 ["pot","plan"]
 f51:GF K mg "_law_becomes" Nk ad.a51 ad.d51 ["gone","row"]
 f52:GF K mg "_law_stepped" IR ad.a52 ad.d52 ["gone","place","number"]
 f53:GF K mg "_law_rounds" IG ad.a53 ad.d53 ["gone","row","place"]
 f54:GF K mg "_law_done" JC ad.a54 ad.d54 ["gone","rows","place"]
 f55:GF K mg "_law_run" Ig ad.a55 ad.d55 ["plan","stand","most"]
 f56:GF K mg "_law_flat" Ja ad.a56 ad.d56 ["rows"]
 f57:GF K mg "_law_marks" JB ad.a57 ad.d57 ["plan","sound","faulty","most"]
 f58:GF K mg "_law_other" Jo ad.a58 ad.d58 ["pot","m","number"]
 f59:GF K mg "_law_by_name" Jf ad.a59 ad.d59 ["plan","sound","faulty","most","name"]
 f60:GF K mg "_law_by_piece" Pf ad.a60 ad.d60 ["plan"]
 f61:GF K mg "_law_case" IA ad.a61 ad.d61 ["pot","most_rows","few"]
 f62:GF K mg "_law_common" Jb ad.a62 ad.d62 ["one","other"]
 f63:GF K mg "law" jR ad.a63 ad.d63 ["script"]
section
section
variable {X:Cx}{B:Bd}{a b c o e:gl}{es:Yy}{ta tb tc to:bu}{t:fC}{i:Nat}{x:Str}{pos p Yr Yq:Pos}(hU:X.A.units+64<rc)(hu:X.A.units+1<rc)(hg:X.A.guards=ap [])(hc:X.calm=true)(ha:DE X B a ta)(hb:DE X B b tb)(hd:DE X B c tc)
def v0:=fY (pos:=pos) G9 ha hb
def v1:=fY (pos:=pos) Hh ha hb
def v2:=fY (pos:=pos) H_ ha hb
def v3:=fY (pos:=pos) G4 ha hb
def v4:=fY (pos:=pos) KL ha hb
def v5:=fY (pos:=pos) HM ha hb
def v6:=fY (pos:=pos) Gd ha hb
def v7:=fY (pos:=pos) Fc ha hb
def v8:=fY (pos:=pos) Hg ha hb
def v9:=fY (pos:=pos) G8 ha hb
def v10:=fY (pos:=pos) Fn ha hb
def v11:=Ke (pos:=pos) (CO hU) ha hb
def v12:=cS (X:=X) (B:=B) (p:=p) (pos:=pos) (e:=e) (es:=es) (t:=t) Bj HK
def v13:=fq (X:=X) (B:=B) (p:=p) (pos:=pos) (e:=e) (es:=es) (t:=t) tO Aq
def v14:=fq (X:=X) (B:=B) (p:=p) (pos:=pos) (e:=e) (es:=es) (t:=t) vI tD
def v15:=fq (X:=X) (B:=B) (p:=p) (pos:=pos) (e:=e) (es:=es) (t:=t) (tz hc) tT
def v16:=cS (X:=X) (B:=B) (p:=p) (pos:=pos) (e:=e) (es:=es) (t:=t) pZ mG
def v17:=fq (X:=X) (B:=B) (p:=p) (pos:=pos) (e:=e) (es:=es) (t:=t) sk tT
def v18:=cS (X:=X) (B:=B) (p:=p) (pos:=pos) (e:=e) (es:=es) (t:=t) (AB hc) FJ
def v19:=cS (X:=X) (B:=B) (p:=p) (pos:=pos) (e:=e) (es:=es) (t:=t) (AK hc) Gg
def v20:=cS (X:=X) (B:=B) (p:=p) (pos:=pos) (e:=e) (es:=es) (t:=t) (B8 hc) Gx
def v21:=cS (X:=X) (B:=B) (p:=p) (pos:=pos) (e:=e) (es:=es) (t:=t) AA FU
def v22:=cS (X:=X) (B:=B) (p:=p) (pos:=pos) (e:=e) (es:=es) (t:=t) (uC hg hU) EY
def v23:=MX (X:=X) (B:=B) (pos:=pos) Ib
def v24:=Eg (X:=X) (B:=B) (Yr:=Yr) (Yq:=Yq) (o:=o) (e:=e) (es:=es) (t:=t) (to:=to) Tg SY PySem.F.type_list_append vc
def v25:=wm (X:=X) (B:=B) (Yr:=Yr) (Yq:=Yq) (o:=o) (to:=to) Tg S6 Ve Aj
def v26:=wm (X:=X) (B:=B) (Yr:=Yr) (Yq:=Yq) (o:=o) (to:=to) PySem.F.plainAttrs_int PySem.F.slot_int_bit_length PySem.F.type_int_bit_length uT
def v27:=Eg (X:=X) (B:=B) (Yr:=Yr) (Yq:=Yq) (o:=o) (e:=e) (es:=es) (t:=t) (to:=to) Tg S6 Ve Aj
def v28:=KJ (X:=X) (B:=B) (Yr:=Yr) (Yq:=Yq) (o:=o) (e:=e) (es:=es) (to:=to) (t:=t) UT PySem.F.type_tuple_index vY
def v29:=FD (X:=X) (B:=B) (x:=x) (pos:=pos) (e:=e) (i:=i) (te:=ta) (pos':=p) yH
def v30:=xl (X:=X) (B:=B) (pos:=pos) (tpos:=p) (o:=a) (i:=b) (e:=c) (to:=ta) (ti:=tb) (te:=tc) hu ha hb hd yH
def v31:=xl (X:=X) (B:=B) (pos:=pos) (tpos:=p) (o:=a) (i:=b) (e:=c) (to:=ta) (ti:=tb) (te:=tc) hu ha hb hd Fm
def v32:=c_ (pos:=pos) Kx ha hb
def v33:=c_ (pos:=pos) (CO hU) ha hb
def v34:=c_ (pos:=pos) Md ha hb
def v35:=c_ (pos:=pos) DH ha hb
def v36:=c_ (pos:=pos) HX ha hb
def v37:=c_ (pos:=pos) (BF hU) ha hb
def v38:=c_ (pos:=pos) (N0 hU) ha hb
def v39:=c_ (pos:=pos) M_ ha hb
def v40:=c_ (pos:=pos) (Ga hU) ha hb
def v41:=c_ (pos:=pos) Kw ha hb
def v42:=c_ (pos:=pos) (Bo hU) ha hb
def v43:=c_ (pos:=pos) KP ha hb
end
local macro_rules | `(tactic| exists 2) => `(tactic| first
 |refine v0 ?_ ?_
 |refine v1 ?_ ?_
 |refine v2 ?_ ?_
 |refine v3 ?_ ?_
 |refine v4 ?_ ?_
 |refine v5 ?_ ?_
 |refine v6 ?_ ?_
 |refine v7 ?_ ?_
 |refine v8 ?_ ?_
 |refine v9 ?_ ?_
 |refine v10 ?_ ?_
 |refine v11 ?_ ?_ ?_ ?_)
local macro_rules | `(tactic| exists 3) => `(tactic| first
 |refine v12 ?_ ?_ ?_ ?_ ?_ ?_ ?_
 |refine v13 ?_ ?_ ?_ ?_ ?_ ?_ ?_
 |refine v14 ?_ ?_ ?_ ?_ ?_ ?_ ?_
 |refine v15 ?_ ?_ ?_ ?_ ?_ ?_ ?_ ?_
 |refine v16 ?_ ?_ ?_ ?_ ?_ ?_ ?_
 |refine v17 ?_ ?_ ?_ ?_ ?_ ?_ ?_
 |refine v18 ?_ ?_ ?_ ?_ ?_ ?_ ?_ ?_
 |refine v19 ?_ ?_ ?_ ?_ ?_ ?_ ?_ ?_
 |refine v20 ?_ ?_ ?_ ?_ ?_ ?_ ?_ ?_
 |refine v21 ?_ ?_ ?_ ?_ ?_ ?_ ?_
 |refine v22 ?_ ?_ ?_ ?_ ?_ ?_ ?_ ?_ ?_)
local macro_rules | `(tactic| exists 5) => `(tactic| first
 |refine v24 ?_ ?_ ?_ ?_ ?_ ?_ ?_ ?_
 |refine v25 ?_ ?_ ?_ ?_
 |refine v26 ?_ ?_ ?_ ?_
 |refine v27 ?_ ?_ ?_ ?_ ?_ ?_ ?_ ?_)
local macro_rules | `(tactic| exists 8) => `(tactic| first
 |refine v32 ?_ ?_ ?_
 |refine v33 ?_ ?_ ?_ ?_
 |refine v34 ?_ ?_ ?_
 |refine v35 ?_ ?_ ?_
 |refine v36 ?_ ?_ ?_
 |refine v37 ?_ ?_ ?_ ?_
 |refine v38 ?_ ?_ ?_ ?_
 |refine v39 ?_ ?_ ?_
 |refine v40 ?_ ?_ ?_ ?_
 |refine v41 ?_ ?_ ?_
 |refine v42 ?_ ?_ ?_ ?_
 |refine v43 ?_ ?_ ?_)
local macro_rules | `(tactic| exists 1) => `(tactic| first
 |refine dnm _ ?_ ?_ ?_ ?_
 |exact K_
 |refine Kz ?_
 |refine Pu (Ks ?_) ?_ ?_ ?_
 |exact Mu
 |refine BV ?_ ?_ ?_ ?_ ?_ ?_
 |(show DE _ _ _ (ah _ _ _);exists 2)
 |(show DE _ _ _ (bF _ _);exists 3)
 |refine LG ?_
 |refine Mv ?_
 |refine Kb ?_ ?_ ?_ ?_
 |refine DC ?_ ?_ ?_
 |exact ND
 |exact Lo
 |refine v23 ?_ ?_ ?_ ?_
 |(show DE _ _ _ (nN _ _ _ _);exists 5)
 |refine v28 ?_ ?_ ?_ ?_ ?_ ?_ ?_
 |refine Dq ?_ ?_ ?_
 |refine Mc ?_
 |refine FW ?_
 |refine vG ?_ ?_ ?_ ?_ ?_ ?_ ?_ ?_ ?_
 |refine uR ?_ ?_ ?_ ?_ ?_ ?_ ?_ ?_
 |(apply EU;focus decide)
 |apply CC
 |refine HP ?_ ?_ ?_
 |refine Gq ?_ ?_ ?_ ?_
 |apply EB
 |apply AV
 |apply E3)
local macro_rules | `(tactic| exists 7) => `(tactic| first
 |(show DT _ _ _ (ao _);exists 8)
 |refine Le ?_
 |refine L1 ?_ ?_
 |refine PM ?_)
local macro_rules | `(tactic| exists 6) => `(tactic| first
 |refine Oh ?_ ?_ ?_
 |refine MY ?_ ?_ ?_ ?_ ?_ ?_
 |refine Mj ?_ ?_ ?_ ?_ ?_ ?_ ?_ ?_ ?_ ?_
 |refine Ly ?_ ?_ ?_ ?_ ?_
 |refine KD ?_
 |refine HA ?_ ?_
 |refine Km ?_ ?_ ?_ ?_ ?_
 |refine Bt ?_ ?_ ?_ ?_
 |refine Bm ?_ ?_ ?_ ?_
 |refine L8 ?_ ?_ ?_ ?_ ?_ ?_
 |refine DM ?_ ?_ ?_
 |refine Dx ?_ ?_ ?_ ?_ ?_ ?_
 |refine Lj ?_ ?_
 |refine v29 ?_ ?_ ?_ ?_ ?_
 |refine v30 ?_ ?_ ?_ ?_ ?_
 |refine v31 ?_ ?_ ?_ ?_ ?_
 |apply Da
 |apply Ho)
local macro_rules | `(tactic| exists 9) => `(tactic| first
 |refine eZ ?_ ?_
 |refine gO ?_
 |exact HS
 |refine G5 ?_
 |refine La ?_
 |refine Kg ?_ ?_
 |refine NK ?_ ?_
 |exact Hv
 |refine Gz ?_
 |refine FM ?_ ?_ ?_ ?_
 |refine Mh ?_ ?_ ?_ ?_
 |refine JK ?_ ?_ ?_ ?_
 |refine MP ?_ ?_ ?_ ?_
 |refine CQ ?_ ?_ ?_
 |exact Gc
 |refine HB ?_ ?_ ?_ ?_
 |refine Bi ?_ ?_ ?_ ?_
 |refine Ky ?_ ?_ ?_ ?_
 |refine Kk ?_
 |apply FC.nil
 |apply FC.cons
 |exact GX
 |refine Ft ?_)
local macro_rules | `(tactic| exists 0) => `(tactic| first
 |exact Or.inl rfl
 |exact⟨_,_,_,_,_,_,_,by first|exact .g (by assumption)|exact .a (by assumption)|exact .v (by assumption),by assumption,Room.mono (by assumption) (by first|decide|lia),JG,by assumption⟩
 |exact⟨_,_,_,_,_,_,_,by first|exact .g (by assumption)|exact .a (by assumption)|exact .v (by assumption),by assumption,Room.mono (by assumption) (by first|decide|lia),Ei,uxN⟩
 |assumption
 |exact Room.mono (by assumption) (by first|decide|lia)
 |with_reducible exact JG
 |with_reducible exact Ei
 |with_reducible exact uxN
 |exact FnScope.nd (by assumption)
 |(apply nomark;decide)
 |(apply nodC;decide)
 |(apply Pa;decide)
 |exact PassesOwn.leaving
 |exact λ_ _=>rfl
 |exact Or.inr (Or.inl rfl)
 |exact Or.inr rfl
 |exact Or.inr (Or.inr rfl)
 |rfl
 |exact λ_=>rfl
 |decide
 |exact λ_ _ _=>rfl
 |exact⟨rfl,rfl,rfl,rfl⟩
 |with_reducible intro _)
local macro_rules | `(tactic| trivial) => `(tactic| first
 |eq_refl
 |(with_reducible first
 |(show DE _ _ _ _;exists 1)
 |refine da_c ?_ ?_ ?_
 |exact MH
 |(show DT _ _ _ _;exists 7)
 |(show DS _ _ _ _;exists 6)
 |exists 9)
 |exists 0)
set_option hygiene false in
local macro_rules | `(tactic| exists $t:ident, $g) => `(tactic| exact fnS rfl ($g).F ($g).b ⟨rfl, rfl, rfl, by decide +kernel, rfl, by decide +kernel, by decide +kernel⟩ fun hS _ A _ s _ _ _ _ hr ux => (by have hU := hr.units; have hu := sh hr; have hg := hr.gd; have E2 := E; cases E2; unfold $t:ident; (first | refine eZ ?_ ?_ | refine gO ?_); repeat' trivial))
set_option hygiene false in
local macro_rules | `(tactic| exists $t:ident, $g, $[$ps:ident],*) => `(tactic| exact fnS rfl ($g).F ($g).b ⟨rfl, rfl, rfl, by decide +kernel, rfl, by decide +kernel, by decide +kernel⟩ fun hS _ A _ s _ _ _ _ hr ux => (by have hU := hr.units; have hu := sh hr; have hg := hr.gd; have E2 := E; cases E2; unfold $t:ident $[$ps:ident]*; (first | refine eZ ?_ ?_ | refine gO ?_); repeat' trivial))
set_option hygiene false in
local macro_rules | `(tactic| exists ($k), $t:ident, $g, $[$ps:ident],*) => `(tactic| exact fnS (k := $k) rfl ($g).F ($g).b ⟨rfl, rfl, rfl, by decide +kernel, rfl, by decide +kernel, by decide +kernel⟩ fun hS _ A _ s _ _ _ _ hr ux => (by have hU := hr.units; have hu := sh hr; have hg := hr.gd; have E2 := E; cases E2; unfold $t:ident $[$ps:ident]*; (first | refine eZ ?_ ?_ | refine gO ?_); repeat' trivial))
variable {P:fy}{w:g4}{K:PY}{mg:YC}{base:hI}{ad:Ad}(E:En P w K mg base ad)
include E
theorem OH:cz P w mg base E.f1.F E.f1.b 1 (Ha ad):=by
 exists GB,E.f1,Cj,BX,CS
theorem Jg:cz P w mg base E.f2.F E.f2.b 1 (uU ad):=by
 exists FE,E.f2,Cr
theorem JW:cz P w mg base E.f3.F E.f3.b 2 (oo ad):=by
 have:=Jg E
 exists yL,E.f3,zk
theorem Ku:cz P w mg base E.f12.F E.f12.b 1 (zh ad):=by
 exists zt,E.f12,zX,zR,Ak,xJ,A0
theorem Ec:cz P w mg base E.f11.F E.f11.b 1 (mP ad):=by
 exists iw,E.f11,yc,zP
theorem Ez:cz P w mg base E.f10.F E.f10.b 2 (mZ ad):=by
 have:=Ku E;have:=Ec E
 exists fV,E.f10,yj,wl,zJ
theorem sJ:∀n:Nat,cz P w mg base E.f6.F E.f6.b (2+n) (We ad n)/\cz P w mg base E.f7.F E.f7.b (2+n) (Wg ad n)/\cz P w mg base E.f8.F E.f8.b (2+n) (Wh ad n)/\cz P w mg base E.f9.F E.f9.b (2+n) (Wi ad n):=by
 have:=JW E;have:=Jg E;have:=Ez E;intro n
 induction n with
 |zero=>exact⟨fB,fB,fB,fB⟩
 |succ n ih=>
  obtain⟨_,_,_,_⟩:=ih;refine⟨?_,?_,?_,?_⟩
  .exists (2+n),wI,E.f6,xE
  .exists (2+n),iF,E.f7,ya,wx,yB,Aa,yo,yO
  .exists (2+n),wZ,E.f8,z7
  .exists (2+n),yK,E.f9,z8,xC
theorem N5:cz P w mg base E.f4.F E.f4.b 27 (rD ad):=by
 have:=OH E;obtain⟨_,_,_,_⟩:=sJ E 24
 exists zf,E.f4,y_,xA
theorem MC:cz P w mg base E.f5.F E.f5.b 28 (pb ad):=by
 have:=N5 E
 exists zw,E.f5,wB,yW
theorem Ey:cz P w mg base E.f13.F E.f13.b 1 (sy ad):=by
 exists zL,E.f13
theorem KM:cz P w mg base E.f14.F E.f14.b 2 (yx ad):=by
 have:=Ey E
 exists y0,E.f14,lF
theorem F7:cz P w mg base E.f15.F E.f15.b 1 (k7 ad):=by
 exists tS,E.f15,w_
theorem N3:cz P w mg base E.f16.F E.f16.b 1 (y9 ad):=by
 exists iq,E.f16,zc,yX
theorem Mw:cz P w mg base E.f17.F E.f17.b 2 (yy ad):=by
 have:=Ey E;have:=F7 E
 exists zU,E.f17
theorem DY:cz P w mg base E.f18.F E.f18.b 29 (t7 ad):=by
 have:=MC E
 exists xR,E.f18,qS,kx,qy
theorem qp:cz P w mg base E.f19.F E.f19.b 3 (j_ ad):=by
 have:=Mw E
 exists we,E.f19
theorem LO:cz P w mg base E.f20.F E.f20.b 1 (zn ad):=by
 exists rB,E.f20,wo
theorem IC:cz P w mg base E.f21.F E.f21.b 1 (Fa ad):=by
 exists FG,E.f21,Dt,Ev,BI
theorem NW:cz P w mg base E.f22.F E.f22.b 3 (AZ ad):=by
 have:=IC E
 exists G_,E.f22,pB,qH,ve,vi
theorem Ot:cz P w mg base E.f23.F E.f23.b 1 (Lr ad):=by
 exists HJ,E.f23
theorem JA:cz P w mg base E.f24.F E.f24.b 1 (D4 ad):=by
 exists GT,E.f24,vP
theorem Ch:cz P w mg base E.f26.F E.f26.b 1 (mj ad):=by
 exists xq,E.f26,qd
theorem Ka:cz P w mg base E.f25.F E.f25.b 4 (wC ad):=by
 have:=IC E;have:=Ch E;have:=qp E
 exists A2,E.f25,qL,lO,li
theorem Kn:cz P w mg base E.f28.F E.f28.b 3 (yZ ad):=by
 have:=KM E;have:=N3 E;have:=Ec E
 exists w8,E.f28,k_,ly,kQ,pL,ph
theorem Lq:cz P w mg base E.f29.F E.f29.b 3 (xf ad):=by
 have:=Ez E;have:=Ch E
 exists xa,E.f29,qm,kZ,pT,gC,pv,Am,xp,zi
theorem JV:cz P w mg base E.f27.F E.f27.b 4 (A4 ad):=by
 have:=Kn E;have:=Lq E
 exists xD,E.f27,qG,gE,lE,qD,kU,qV
theorem Me:cz P w mg base E.f30.F E.f30.b 1 (wd ad):=by
 exists xx,E.f30
theorem LP:cz P w mg base E.f31.F E.f31.b 4 (yQ ad):=by
 have:=NW E;have:=F7 E
 exists z_,E.f31
theorem AC:∀n:Nat,cz P w mg base E.f33.F E.f33.b (4+n) (Wj ad n):=by
 have:=JA E;have:=LP E;have:=JV E;have:=Me E;intro n
 induction n with
 |zero=>exact fB
 |succ n ih=>
  exists (4+n),wX,E.f33,md,kW,m3,lA,rg
theorem MW:OkV P w mg base E.f32.F E.f32.b 30 (zE ad):=by
 have:=Ot E;have:=JA E;have:=AC E 24;have:=DY E;have:=Ka E;exact NZ rfl E.f32.F E.f32.b ⟨rfl,rfl,rfl,by decide +kernel,rfl,by decide +kernel,by decide +kernel⟩ λhS _ A _ s _ _ _ _ hr ux=>(by have hU:=hr.units;have hu:=sh hr;have hg:=hr.gd;have E2:=E;cases E2;unfold wY r8 kK pS;(first|refine eZ ?_ ?_|refine gO ?_);repeat' trivial)
theorem P0:cz P w mg base E.f34.F E.f34.b 1 (HI ad):=by
 exists GH,E.f34,ET
theorem MU:cz P w mg base E.f35.F E.f35.b 31 (zx ad):=by
 have:=P0 E;have:=DY E;have:=MW E;have:=qp E;have:=LO E
 exists y8,E.f35,iX,iW,qQ,gJ,kG,pA,lN,pE,qX,qv,pR
theorem Kd:cz P w mg base E.f36.F E.f36.b 1 (sV ad):=by
 exists wL,E.f36
theorem NY:cz P w mg base E.f41.F E.f41.b 1 (GU ad):=by
 exists HD,E.f41,vU,vx,vz,nH,vH
theorem F5:cz P w mg base E.f40.F E.f40.b 1 (t8 ad):=by
 exists zA,E.f40,pV,qo
theorem L6:cz P w mg base E.f39.F E.f39.b 32 (uh ad):=by
 have:=Kd E;have:=F5 E;have:=MU E;have:=qp E
 exists yw,E.f39,j6,lB,kI,lD,gx,kM,lU,lY,qN,pK
theorem Lh:cz P w mg base E.f38.F E.f38.b 33 (wA ad):=by
 have:=NY E;have:=L6 E;have:=F5 E;have:=qp E
 exists xH,E.f38,lh,m8,kN,ku,pP
theorem JU:OkV P w mg base E.f37.F E.f37.b 34 (jY ad):=by
 have:=Lh E;exact NZ rfl E.f37.F E.f37.b ⟨rfl,rfl,rfl,by decide +kernel,rfl,by decide +kernel,by decide +kernel⟩ λhS _ A _ s _ _ _ _ hr ux=>(by have hU:=hr.units;have hu:=sh hr;have hg:=hr.gd;have E2:=E;cases E2;unfold zd;(first|refine eZ ?_ ?_|refine gO ?_);repeat' trivial)
theorem L0:cz P w mg base E.f42.F E.f42.b 1 (mC ad):=by
 exists yI,E.f42,wV
theorem Ld:cz P w mg base E.f43.F E.f43.b 1 (yb ad):=by
 exists xk,E.f43,wO,yN,Ah
theorem g6:cz P w mg base E.f44.F E.f44.b 2 (bi ad):=by
 have:=L0 E
 exists z6,E.f44,yu,wg,A7,xc,zm,zY,zK,zg
theorem Ln:cz P w mg base E.f45.F E.f45.b 3 (zu ad):=by
 have:=g6 E
 exists xy,E.f45,xi,wJ,wy
theorem LH:cz P w mg base E.f46.F E.f46.b 3 (Ae ad):=by
 have:=g6 E
 exists yC,E.f46,tB,tE,xS,xZ,xM,wS,wH,wW,w6,yq,wz
theorem nL:∀n:Nat,cz P w mg base E.f47.F E.f47.b (3+n) (Wc ad n)/\cz P w mg base E.f48.F E.f48.b (3+n) (Wb ad n):=by
 have:=g6 E;have:=LH E;intro n
 induction n with
 |zero=>exact⟨fB,fB⟩
 |succ n ih=>
  obtain⟨_,_⟩:=ih;refine⟨?_,?_⟩
  .exists (3+n),y3,E.f47,A5,yY,xG,zN,x6,zO,xz,zC,zB
  .exists (3+n),zb,E.f48,A6,A8,xB,yJ,xb,zW,xU
theorem KW:cz P w mg base E.f49.F E.f49.b 28 (A1 ad):=by
 have:=g6 E;have:=Ln E;obtain⟨_,_⟩:=nL E 24
 exists xj,E.f49,zT,ym,yP,yR
theorem Mi:cz P w mg base E.f50.F E.f50.b 3 (yF ad):=by
 have:=g6 E
 exists yS,E.f50,yn
theorem Os:cz P w mg base E.f51.F E.f51.b 1 (BL ad):=by
 exists vQ,E.f51,Ac,xg,xV,Dc,CU,Do,Fe,C9,DL,BK,BO,F3
theorem LJ:cz P w mg base E.f52.F E.f52.b 1 (jS ad):=by
 exists zV,E.f52,wv
theorem kf:∀n:Nat,cz P w mg base E.f53.F E.f53.b (1+n) (Wf ad n)/\cz P w mg base E.f54.F E.f54.b (1+n) (Wd ad n):=by
 have:=Os E;have:=LJ E;intro n
 induction n with
 |zero=>exact⟨fB,fB⟩
 |succ n ih=>
  obtain⟨_,_⟩:=ih;refine⟨?_,?_⟩
  .exists (1+n),zy,E.f53,xI,A9,xu,yv
  .exists (1+n),xF,E.f54,ub,ye,y6,ww,v_,Ai,xr,wu,zS,wP
theorem MQ:cz P w mg base E.f55.F E.f55.b 26 (mQ ad):=by
 obtain⟨_,_⟩:=kf E 24
 exists yU,E.f55,xO,zF,wF
theorem CD:cz P w mg base E.f56.F E.f56.b 1 (sZ ad):=by
 exists xL,E.f56
theorem C0:cz P w mg base E.f57.F E.f57.b 27 (oK ad):=by
 have:=MQ E
 exists zZ,E.f57,kE,kz,kX
theorem LF:cz P w mg base E.f58.F E.f58.b 3 (mz ad):=by
 have:=g6 E
 exists yV,E.f58
theorem Mm:cz P w mg base E.f59.F E.f59.b 28 (za ad):=by
 have:=CD E;have:=C0 E
 exists y4,E.f59,kO,kC,lj,ma,lS
theorem P6:cz P w mg base E.f60.F E.f60.b 1 (Fi ad):=by
 exists Hq,E.f60,qC,qY,nh,pY
theorem JR:cz P w mg base E.f61.F E.f61.b 29 (zM ad):=by
 have:=Mm E;have:=P6 E;have:=g6 E;have:=CD E;have:=C0 E;have:=LF E;have:=KW E;have:=Mi E
 exists y2,E.f61,ja,ip,iN,jc,jl,ii,iY,j9,j5,iB,g9,fS,iE,gh,g7,nI,nc,lK,iQ,lG,m7,kF,lT,kP,lz,kY
theorem JX:cz P w mg base E.f62.F E.f62.b 1 (Ag ad):=by
 exists wN,E.f62,ij
theorem N4:cz P w mg base E.f63.F E.f63.b 35 (CA ad):=by
 have:=JR E;have:=JX E;have:=g6 E;have:=Ld E;have:=JU E
 exists z9,E.f63,j7,jk,je,iI,me,lQ,kJ,iS,lb,l_,gD,lq,qZ
end
end Tw
namespace L3
open PySem L2
theorem aP{T:Sd}{EE:DX}{ds:List D}{M:Mem}{Q:DK}{b:BxQ EE Q}{d:D}(c:∀Q' E',Q' d M->T ds M Q' E')(h:Q d M):calls T EE ds M Q b:=
 ar λQ' E' a _=>c Q' E' (a d M h)
theorem br{α:Type}{xs:List α}{i:Int}(h:0<=i):atI xs i=xs[i.toNat]?:=by
 unfold atI rA;rw[if_pos h]
 by_cases a:i<xs.length
 .rw[if_pos a];rfl
 .rw[if_neg a,QU (by lia)];rfl
@[simp] theorem atI_0 {α:Type} {xs:List α}:atI xs 0=xs[0]?:=br (by decide)
@[simp] theorem atI_1 {α:Type} {xs:List α}:atI xs 1=xs[1]?:=br (by decide)
@[simp] theorem atI_2 {α:Type} {xs:List α}:atI xs 2=xs[2]?:=br (by decide)
@[simp] theorem atI_3 {α:Type} {xs:List α}:atI xs 3=xs[3]?:=br (by decide)
@[simp] theorem atI_4 {α:Type} {xs:List α}:atI xs 4=xs[4]?:=br (by decide)
theorem cg{g:jB}{j:av}{DD:DEnds}{ok:Mem->Prop}{b:BxF g j DD ok}(I:List D->Dl->Mem->Prop)(c:∀xs U M,I xs U M->ok M)(f:∀U M,I [] U M->DD.nx U M)
  (i:∀x xs U M,I (x::xs) U M->∀D':DEnds,(∀a M',I xs a M'->D'.nx a M')->(∀a M',I xs a M'->D'.ct a M')->D'.rt=DD.rt->D'.bk=DD.nx->g x U M λδ2 M2=>j D' δ2 M2):∀xs U M,I xs U M->gY g j DD ok b xs U M
 |[],U,M,h=>⟨c _ _ _ h,f U M h⟩
 |x::xs,U,M,h=>⟨c _ _ _ h,i x xs U M h _ (λa M' e=>cg I c f i xs a M' e) (λa M' e=>cg I c f i xs a M' e) rfl rfl⟩
theorem cT{g:jB}{tt:fG}{te:bu}{ok:Mem->Prop}{Q:List D->Mem->Prop}{b:BxC g tt te ok Q}(I:List D->List D->Dl->Mem->Prop)(f:∀xs a U M,I xs a U M->ok M)(m:∀a U M,I [] a U M->Q a M)
  (n:∀x xs a U M,I (x::xs) a U M->∀N:Bool->D->Dl->Mem->Prop,(∀y e M',a.length<sizeLine->I xs (a++[y]) e M'->N true y e M')->(∀y e M',I xs a e M'->N eC y e M')->g x U M λδ2 M2=>tt δ2 M2 λc M3=>if c=true then te δ2 M3 λy M4=>N true y δ2 M4 else N eC .non δ2 M3)
  (o:∀x xs a U M,I (x::xs) a U M->a.length<sizeLine):∀xs a U M,I xs a U M->cw g tt te ok Q b xs a U M
 |[],a,U,M,h=>⟨f _ _ _ _ h,m a U M h⟩
 |x::xs,a,U,M,h=>⟨f _ _ _ _ h,n x xs a U M h (λk y e M'=>if k=true then a.length<sizeLine/\cw g tt te ok Q b xs (a++[y]) e M' else cw g tt te ok Q b xs a e M')
   (λy e M' i j=>by rw[if_pos rfl];exact⟨i,cT I f m n o xs _ e M' j⟩) (λy e M' j=>by rw[if_neg (by simp)];exact cT I f m n o xs _ e M' j) |> λz=>by simpa using z⟩
theorem aX{n:Nat}(h:n<=1000000):n<=sizeLine:=Qp h (by decide)
theorem ji{n:Nat}(h:n<1000000):n<sizeLine:=Qc h (by decide)
end L3
namespace Tw
open PySem L2 L3
variable{v:Int}{x:Str}{n:cC}
inductive Rw where
 |put (x:Str) (k:Int)|take (x:Str) (i:Int)|pick (x y:Str)|two (w x y z:Str)|ifr (x:Str) (a b:List Rw)|again (x:Str) (a:List Rw)
mutual
def Rw.d:Rw->D
 |.put x k=>.tup [.str "put",.str x,.int k]
 |.take x i=>.tup [.str "take",.str x,.int i]
 |.pick x y=>.tup [.str "pick",.str x,.str y]
 |.two w x y z=>.tup [.str w,.str x,.str y,.str z]
 |.ifr x a b=>.tup [.str "if",.str x,.tup (aA a),.tup (aA b)]
 |.again x a=>.tup [.str "again",.str x,.tup (aA a)]
def aA:List Rw->List D
 |[]=>[]
 |r::rs=>r.d::aA rs
end
theorem gy:∀a:List Rw,aA a=a.map Rw.d
 |[]=>rfl
 |r::a=>by rw[aA,gy a];rfl
abbrev cC:=List (Str×Int)
def gN(n:cC)(x:Str):Option Int:=(n.find? λp=>decide (p.1=x)).map (·.2)
def nm(n:cC)(x:Str):Int:=(gN n x).getD 0
def sN(n:cC)(x:Str)(v:Int):cC:=n.map λp=>if p.1=x then (p.1,v) else p
def dJ(n:cC):List (aG×D):=n.map λp=>(Qr p.1,D.int p.2)
theorem Js:∀{n:cC}{x:Str},x∈n.map (·.1)->gN n x=ap (nm n x)
 |[],_,h=>by simp at h
 |(y,v)::n,x,h=>by
  by_cases e:y=x
  .simp[gN,nm,e]
  .have:=Js (n:=n) (x:=x) (by simpa [Qu e,eq_comm,e] using h)
   simpa [gN,nm,e] using this
theorem bX:∀{n:cC}{x:Str},cU (dJ n) (Qr x)=(gN n x).map D.int
 |[],x=>rfl
 |(y,v)::n,x=>by
  by_cases e:y=x
  .simp[cU,dJ,gN,e]
  .have:=bX (n:=n) (x:=x)
   simpa [cU,dJ,gN,e] using this
theorem Dh:∀{n:cC}{x:Str},x∈n.map (·.1)->((dJ n).any λkv=>decide (kv.1=Qr x))=true
 |[],_,h=>by simp at h
 |(y,v)::n,x,h=>by
  by_cases e:y=x
  .simp[dJ,e]
  .have:=Dh (n:=n) (x:=x) (by simpa [Qu e,eq_comm,e] using h)
   simp only[dJ,PU,RE,Bool.or_eq_true]at this ⊢;exact .inr this
theorem lH(h:x∈n.map (·.1)):eG (dJ n) (Qr x) (.int v)=dJ (sN n x v):=by
 unfold eG;rw[Dh h,if_pos rfl];simp only[dJ,sN,Ro];apply Q6;intro p _
 by_cases e:p.1=x
 .simp[e]
 .simp[e]
theorem ig:(sN n x v).map (·.1)=n.map (·.1):=by
 simp only[sN,Ro];apply Q6;intro p _
 by_cases e:p.1=x<;>simp[e]
theorem Og{y:Str}(h:x∈n.map (·.1)):gN (sN n x v) y=if y=x then ap v else gN n y:=by
 induction n with
 |nil=>simp at h
 |cons p n ih=>
  obtain⟨k,u⟩:=p
  by_cases e:k=x
  .subst e
   by_cases a:y=k
   .subst a;simp[gN,sN]
   .simp only[if_neg a]
    have f:¬k=y:=λz=>a z.symm
    by_cases b:k∈n.map (·.1)
    .have:=ih b
     simpa [gN,sN,f,if_neg a] using this
    .simp only[gN,sN,PU,if_pos,Rb,f,decide_false]
     congr 1;have:n.map (λp=>if p.1=k then (p.1,v) else p)=n:=by
      conv=>rhs;rw[<- RA n]
      apply Q6;intro p g;have:p.1≠k:=λz=>b (by rw[<- z];exact S2 g)
      simp[this]
     rw[this]
  .have b:x∈n.map (·.1):=by simpa [Qu e,eq_comm,e] using h
   have:=ih b
   by_cases a:y=x
   .subst a;simpa [gN,sN,e] using this
   .by_cases c:k=y
    .subst c;simp[gN,sN,e]
    .simpa [gN,sN,e,c,a] using this
structure Cf where
 m:Int
 pieces:List Int
 most:Nat
structure Sx where
 nums:cC
 steps:List (List Int×Int)
def xw(w:Str)(y z m:Int):Int:=if w="sum" then (y+z) % m else if w="by" then y*z % m else if w="less" then (if y<z then 1 else 0) else if y=z then 1 else 0
def num(c:Cf)(n:cC):Rw->Int
 |.put _ k=>k
 |.take _ i=>(c.pieces[i.toNat]?).getD 0
 |.pick _ y=>(c.pieces[(nm n y % (c.pieces.length:Int)).toNat]?).getD 0
 |.two w _ y z=>xw w (nm n y) (nm n z) c.m
 |_=>0
def dY:Rw->Str
 |.put x _=>x
 |.take x _=>x
 |.pick x _=>x
 |.two _ x _ _=>x
 |.ifr x _ _=>x
 |.again x _=>x
def nt(c:Cf)(pl:Yu)(v:Int)(s:Sx):Bool×Sx:=if s.steps.length<c.most then (true,⟨s.nums,s.steps++[(pl,v)]⟩) else (eC,s)
def lk(n:cC)(x:Str):Int:=if nm n x=0 then 0 else 1
def e_(c:Cf)(x:Str)(pl:Yu)(body:Nat->Sx->Bool×Sx):Nat->Nat->Sx->Bool×Sx
 |0,_,s=>(eC,s)
 |f+1,t,s=>if (nt c (pl++[(t:Int)]) (lk s.nums x) s).1=true then
   (if lk s.nums x=1 then
    (if (body t (nt c (pl++[(t:Int)]) (lk s.nums x) s).2).1=true then e_ c x pl body f (t+1) (body t (nt c (pl++[(t:Int)]) (lk s.nums x) s).2).2 else body t (nt c (pl++[(t:Int)]) (lk s.nums x) s).2)
   else nt c (pl++[(t:Int)]) (lk s.nums x) s)
  else nt c (pl++[(t:Int)]) (lk s.nums x) s
mutual
def fF(c:Cf):Rw->List Int->Sx->Bool×Sx
 |.ifr x a b,pl,s=>if (nt c pl (lk s.nums x) s).1=true then (if lk s.nums x=1 then bS c a (pl++[lk s.nums x]) 0 (nt c pl (lk s.nums x) s).2 else bS c b (pl++[lk s.nums x]) 0 (nt c pl (lk s.nums x) s).2) else nt c pl (lk s.nums x) s
 |.again x a,pl,s=>e_ c x pl (λt s=>bS c a (pl++[(t:Int)]) 0 s) (c.most+1) 0 s
 |.put x k,pl,s=>if (nt c pl (num c s.nums<|.put x k) s).1=true then (true,⟨sN s.nums x (num c s.nums<|.put x k),(nt c pl (num c s.nums<|.put x k) s).2.steps⟩) else nt c pl (num c s.nums<|.put x k) s
 |.take x i,pl,s=>if (nt c pl (num c s.nums<|.take x i) s).1=true then (true,⟨sN s.nums x (num c s.nums<|.take x i),(nt c pl (num c s.nums<|.take x i) s).2.steps⟩) else nt c pl (num c s.nums<|.take x i) s
 |.pick x y,pl,s=>if (nt c pl (num c s.nums<|.pick x y) s).1=true then (true,⟨sN s.nums x (num c s.nums<|.pick x y),(nt c pl (num c s.nums<|.pick x y) s).2.steps⟩) else nt c pl (num c s.nums<|.pick x y) s
 |.two w x y z,pl,s=>if (nt c pl (num c s.nums<|.two w x y z) s).1=true then (true,⟨sN s.nums x (num c s.nums<|.two w x y z),(nt c pl (num c s.nums<|.two w x y z) s).2.steps⟩) else nt c pl (num c s.nums<|.two w x y z) s
def bS(c:Cf):List Rw->List Int->Nat->Sx->Bool×Sx
 |[],_,_,s=>(true,s)
 |r::rs,pl,j,s=>if (fF c r (pl++[(j:Int)]) s).1=true then bS c rs pl (j+1) (fF c r (pl++[(j:Int)]) s).2 else fF c r (pl++[(j:Int)]) s
end
def jn(c:Cf)(r:Rw)(pl:Yu)(s:Sx):Bool×Sx:=if s.steps.length<c.most then (true,⟨sN s.nums (dY r) (num c s.nums r),s.steps++[(pl,num c s.nums r)]⟩) else (eC,s)
def bj:Rw->Bool
 |.ifr _ _ _=>eC
 |.again _ _=>eC
 |_=>true
theorem bY{c:Cf}{r:Rw}{pl:Yu}{s:Sx}(h:bj r=true):fF c r pl s=jn c r pl s:=by
 cases r with
 |ifr x a b=>simp[bj]at h
 |again x a=>simp[bj]at h
 |put x k=>simp only[fF,jn,nt,dY];split<;>simp_all
 |take x k=>simp only[fF,jn,nt,dY];split<;>simp_all
 |pick x k=>simp only[fF,jn,nt,dY];split<;>simp_all
 |two w x y z=>simp only[fF,jn,nt,dY];split<;>simp_all
theorem ofs_inj(a b:String):(QI a=QI b)=(a=b):=by
 refine propext ⟨λh=>?_,λh=>by rw[h]⟩
 rw[Str.ofString_eq_byList]at h;have c:=congrArg (λx:Str=>x.cps.toList) h;simp only[Str.ofStringByList]at c;exact String.toList_inj.mp ((List.map_inj_right λx y e=>Char.toNat_inj.mp e).mp c)
end Tw
open PySem L2 L3 Tw
local macro_rules | `(tactic| simp! [$a,*]) => do let p <- ("CS BX Cj Cr zk A0 xJ Ak zR zX zP yc zJ wl yj xE yO yo Aa yB wx ya z7 xC z8 xA y_ yW wB lF w_ yX zc qy kx qS wo BI Ev Dt vi ve qH pB vP qd li lO qL ph pL kQ ly k_ zi xp Am pv gC pT kZ qm qV kU qD lE gE qG rg lA m3 kW md pS kK r8 ET pR qv qX pE lN pA kG gJ qQ iW iX vH nH vz vx vU qo pV pK qN lY lU kM gx lD kI lB j6 pP ku kN m8 lh wV Ah yN wO zg zK zY zm xc A7 wg yu wy wJ xi wz yq w6 wW wH wS xM xZ xS tE tB zB zC xz zO x6 zN xG yY A5 xU zW xb yJ xB A8 A6 yR yP ym zT yn F3 BO BK DL C9 Fe Do CU Dc xV xg Ac wv yv xu A9 xI wP zS wu xr Ai v_ ww y6 ye ub wF zF xO kX kz kE lS ma lj kC kO pY nh qY qC kY lz kP lT kF m7 lG iQ lK nc nI g7 gh iE fS g9 iB j5 j9 iY ii jl jc iN ip ja ij qZ lq gD l_ lb iS kJ lQ me iI je jk j7 mU BZ Ew Na BQ wa KB s_ Ej lx qg sF wq FX pi G6 K0 aJ startN ai aN ao eM J5 ah cB jW dv bn bv aR fJ ac dC aF pX aH k8 BM BG oI jq cN aw aO gR aq frz aZ jI i6 iG uK au ag gZ bh gr dq my aa af aM bV bF bR eY cI xW eI ER FA b6 cy bo nN ca A_ Nw mi jJ f_ ia cO KY pU jw D5 Lb tX cP bM aj cY gb bK gs nC bN df dG cE fE oa vd frzs LD qM Ck uW".splitOn " ").toArray.mapM (fun s => `(Lean.Parser.Tactic.simpLemma| ↓$(Lean.mkIdent s.toName):ident)); let q <- ("List.map_cons List.map_nil List.cons_append List.nil_append List.length_cons List.length_nil List.getElem?_cons_succ List.getElem?_cons_zero List.set_cons_succ List.set_cons_zero Nat.zero_add Nat.reduceAdd Nat.reduceSub List.replicate_succ List.replicate_zero List.append_nil true_and and_true if_true if_false Bool.false_eq_true decide_eq_true_eq decide_eq_false_iff_not Bool.not_true Bool.not_false Bool.and_true Bool.true_and Bool.and_false Bool.false_and Mem.upd_same Option.isSome_some Option.isSome_none ofs_inj String.reduceEq".splitOn " ").toArray.mapM (fun s => `(Lean.Parser.Tactic.simpLemma| $(Lean.mkIdent s.toName):ident)); let r : Lean.TSyntaxArray [`Lean.Parser.Tactic.simpStar, `Lean.Parser.Tactic.simpErase, `Lean.Parser.Tactic.simpLemma] := (p.map (⟨·.raw⟩)) ++ (q.map (⟨·.raw⟩)) ++ a.getElems; `(tactic| simp -dsimp only [$r,*])
namespace Tw
open PySem L2 L3
variable{ad:Ad}{c:Cf}{Q:DK}{E:DX}{names:Yv}{M:Mem}{n:cC}
theorem jZ{w:Str}{y z m:Int}(b:0<m)(i:0<=y)(g:y<1000)(h:Q (.int<|xw w y z m) M):zh ad [.str w,.int y,.int z,.int m] M Q E:=by
 have f:CMul y z:=.inl ⟨by lia,by lia⟩
 unfold xw at h;simp![PD,zt]
 split
 .rename_i e;rw[if_pos e]at h;exact⟨b,ak h⟩
 .rename_i e;rw[if_neg e]at h
  split
  .rename_i e;rw[if_pos e]at h;exact⟨f,b,ak h⟩
  .rename_i e;rw[if_neg e]at h
   split
   .rename_i e;rw[if_pos e]at h
    split<;>rename_i a
    .rw[if_pos a]at h;exact ak h
    .rw[if_neg a]at h;exact ak h
   .rename_i e;rw[if_neg e]at h
    split<;>rename_i a
    .rw[if_pos a]at h;exact ak h
    .rw[if_neg a]at h;exact ak h
def cK(names:Yv)(m many:Int):Rw->Prop
 |.put x k=>x∈names/\0<=k/\k<m
 |.take x i=>x∈names/\0<=i/\i<many
 |.pick x y=>x∈names/\y∈names/\0<many
 |.two w x y z=>(w="sum"\/w="by"\/w="less"\/w="same")/\x∈names/\y∈names/\z∈names
 |_=>False
structure NOk(names:Yv)(m:Int)(n:cC):Prop where
 keys:n.map (·.1)=names
 rng:∀p∈n,0<=p.2/\p.2<m
theorem NOk.at{names:Yv}{m:Int}{n:cC}(h:NOk names m n){x:Str}(f:x∈names):gN n x=ap (nm n x)/\0<=nm n x/\nm n x<m:=by
 have e:gN n x=ap (nm n x):=Js (by rw[h.keys];exact f)
 refine⟨e,?_⟩;unfold gN at e;obtain⟨p,b,a⟩:=Tz.mp e;rw[<- a];exact h.rng p (List.mem_of_find?_eq_some b)
theorem FS{w:Str}{y z m:Int}(g:2<=m):0<=xw w y z m/\xw w y z m<m:=by
 unfold xw;have b:=Q0 (y+z) (show m≠0 by lia)
 have a:=Q8 (y+z) (show 0<m by lia)
 have e:=Q0 (y*z) (show m≠0 by lia)
 have f:=Q8 (y*z) (show 0<m by lia)
 repeat' split
 all_goals lia
structure COk(c:Cf):Prop where
 m2:2<=c.m
 m1:c.m<=997
 rng:∀v∈c.pieces,0<=v/\v<c.m
 few:c.pieces.length<=1000
 most:c.most<=10000
theorem COk.piece(h:COk c){i:Nat}(a:i<c.pieces.length):c.pieces[i]?=ap ((c.pieces[i]?).getD 0)/\0<=(c.pieces[i]?).getD 0/\(c.pieces[i]?).getD 0<c.m:=by
 rw[PV a];exact⟨rfl,h.rng _<|RJ a⟩
theorem yG(h:COk c)(g:NOk names c.m n){r:Rw}(a:cK names c.m c.pieces.length r):0<=num c n r/\num c n r<c.m:=by
 cases r with
 |put x k=>exact a.2
 |take x i=>exact(h.piece (i:=i.toNat)<|by have:=a.2;lia).2
 |pick x y=>
  have b:=a.2.2;have e:=Q0 (nm n y) (show (c.pieces.length:Int)≠0 by lia)
  have f:=Q8 (nm n y) b;exact(h.piece (i:=(nm n y % (c.pieces.length:Int)).toNat)<|by lia).2
 |two w x y z=>exact FS h.m2
 |ifr=>exact a.elim
 |again=>exact a.elim
def aU(c:Cf)(names:Yv)(rows:List Rw)(mk:Str):D:=.tup [.int c.m,.tup (names.map D.str),.int (c.pieces.length:Nat),.tup (aA rows),.str mk]
theorem ci{rows:List Rw}{mk:Str}{b:eg}{r:Rw}(g:NOk names c.m n)(a:cK names c.m c.pieces.length r)(f:M b=ap (.dK<|dJ n))(h:Q (match r with|.take _ i=>.int i|.pick _ y=>.int (nm n y % (c.pieces.length:Int))|_=>.non) M):mP ad [aU c names rows mk,.ref b,r.d] M Q E:=by
 cases r with
 |put x k=>(simp![oV,iw,aU,Rw.d,atI_0,atI_2];exact ak h)
 |take x i=>(simp![oV,iw,aU,Rw.d,atI_0,atI_2];exact ak h)
 |pick x y=>
  simp![oV,iw,aU,Rw.d,atI_0,atI_2,f,bX,(g.at a.2.1).1,QZ];exact⟨a.2.2,ak h⟩
 |two w x y z=>
  obtain⟨e,_⟩:=a;rcases e with rfl|rfl|rfl|rfl<;>(simp![oV,iw,aU,Rw.d,atI_0,atI_2];exact ak h)
 |ifr=>exact a.elim
 |again=>exact a.elim
theorem mH{rows:List Rw}{mk:Str}{A:eg}{r:Rw}(f:COk c)(e:NOk names c.m n)(b:cK names c.m c.pieces.length r)(g:M A=ap (.dK<|dJ n))(h:Q (.int<|num c n r) M):mZ ad [aU c names rows mk,.ref A,.tup (c.pieces.map D.int),r.d] M Q E:=by
 have H:=f.m1;have C:=f.m2;cases r with
 |put x k=>
  simp![jU,fV,aU,Rw.d,atI_0,atI_2];exact ak h
 |take x i=>
  have a:=b;obtain⟨u,s,K⟩:=a;have j:=f.piece (i:=i.toNat) (by lia)
  have o:(c.pieces.map D.int)[i.toNat]?=ap (.int<|num c n<|.take x i):=by rw[Qj,j.1];rfl
  simp![jU,fV,aU,Rw.d,atI_0,atI_2];refine aP (d:=.int i) (λ_ _ q=>ci (c:=c) (names:=names) (rows:=rows) (mk:=mk) (r:=.take x i) e b g q) ?_;simp![br s,o];exact ak h
 |pick x y=>
  have a:=b;obtain⟨u,v,s⟩:=a;have g0:=Q0 (nm n y) (show (c.pieces.length:Int)≠0 by lia)
  have J:=Q8 (nm n y) s;have j:=f.piece (i:=(nm n y % (c.pieces.length:Int)).toNat) (by lia)
  have o:(c.pieces.map D.int)[(nm n y % (c.pieces.length:Int)).toNat]?=ap (.int<|num c n<|.pick x y):=by rw[Qj,j.1];rfl
  simp![jU,fV,aU,Rw.d,atI_0,atI_2];refine aP (d:=.int (nm n y % (c.pieces.length:Int))) (λ_ _ q=>ci (c:=c) (names:=names) (rows:=rows) (mk:=mk) (r:=.pick x y) e b g q) ?_;simp![br g0,o];exact ak h
 |two w x y z=>
  have a:=b;obtain⟨I,u,v,F⟩:=a;have G:=e.at v;have B:=e.at F;have p:((w=QI "put")=False):=by rcases I with rfl|rfl|rfl|rfl<;>exact eq_false (by decide +kernel)
  simp![jU,fV,aU,Rw.d,atI_0,atI_2,p];refine aP (d:=.non) (λ_ _ q=>ci (c:=c) (names:=names) (rows:=rows) (mk:=mk) (r:=.two w x y z) e b g q) ?_;simp![atI_0,atI_2,atI_3,g,bX,G.1,B.1,QZ];exact aP (d:=.int (num c n<|.two w x y z)) (λ_ _ q=>jZ (by lia) (by lia) (by lia) q) (ak h)
 |ifr=>exact b.elim
 |again=>exact b.elim
structure Wk where
 a:eg
 dn:eg
 ls:eg
 h1:a≠dn
 h2:a≠ls
 h3:dn≠ls
def gU(l:Yu):D:=.tup (l.map D.int)
def uZ(l:List (List Int×Int)):List D:=l.map λp=>.tup [gU p.1,.int p.2]
def wM(ad:Ad)(k:Wk)(c:Cf)(pD:D)(s:Sx)(M:Mem):Mem:=
 ((M.upd k.a<|.ins ad.C_Walk [("plan",pD),("numbers",.ref k.dn),("pieces",.tup (c.pieces.map D.int)),("most",.int (c.most:Nat)),("steps",.ref k.ls)]).upd k.dn<|.dK<|dJ s.nums).upd k.ls (.lst<|uZ s.steps)
section
variable{k:Wk}{pD:D}{s:Sx}
theorem gX:wM ad k c pD s M k.a=ap (.ins ad.C_Walk [("plan",pD),("numbers",.ref k.dn),("pieces",.tup (c.pieces.map D.int)),("most",.int (c.most:Nat)),("steps",.ref k.ls)]):=by
 unfold wM;rw[ae k.h2,ae k.h1,Mem.upd_same]
theorem ni:wM ad k c pD s M k.dn=ap (.dK<|dJ s.nums):=by unfold wM;rw[ae k.h3,Mem.upd_same]
theorem Jp:wM ad k c pD s M k.ls=ap (.lst<|uZ s.steps):=by unfold wM;rw[Mem.upd_same]
theorem CW{x:List (List Int×Int)}:(wM ad k c pD s M).upd k.ls (.lst<|uZ x)=wM ad k c pD ⟨s.nums,x⟩ M:=by unfold wM;rw[Mem.upd_upd]
theorem Hz{x:cC}:(wM ad k c pD s M).upd k.dn (.dK<|dJ x)=wM ad k c pD ⟨x,s.steps⟩ M:=by
 unfold wM;rw[aD (Qu k.h3),Mem.upd_upd]
theorem lf0:Qy ("plan":Str) [(("plan":Str),x0),(("numbers":Str),x1),(("pieces":Str),x2),(("most":Str),x3),(("steps":Str),x4)]=ap (x0:D):=rfl
theorem uo:Qy ("numbers":Str) [(("plan":Str),x0),(("numbers":Str),x1),(("pieces":Str),x2),(("most":Str),x3),(("steps":Str),x4)]=ap (x1:D):=rfl
theorem lf2:Qy ("pieces":Str) [(("plan":Str),x0),(("numbers":Str),x1),(("pieces":Str),x2),(("most":Str),x3),(("steps":Str),x4)]=ap (x2:D):=rfl
theorem lf3:Qy ("most":Str) [(("plan":Str),x0),(("numbers":Str),x1),(("pieces":Str),x2),(("most":Str),x3),(("steps":Str),x4)]=ap (x3:D):=rfl
theorem lf4:Qy ("steps":Str) [(("plan":Str),x0),(("numbers":Str),x1),(("pieces":Str),x2),(("most":Str),x3),(("steps":Str),x4)]=ap (x4:D):=rfl
theorem lfm:Qy ("note_step":Str) [(("plan":Str),x0),(("numbers":Str),x1),(("pieces":Str),x2),(("most":Str),x3),(("steps":Str),x4)]=(none:Option D):=rfl
theorem lfl:Qy ("look":Str) [(("plan":Str),x0),(("numbers":Str),x1),(("pieces":Str),x2),(("most":Str),x3),(("steps":Str),x4)]=(none:Option D):=rfl
theorem gc{pl:Yu}{v:Int}(h:c.most<=10000)(b:(nt c pl v s).1=true->Q .non (wM ad k c pD (nt c pl v s).2 M))(f:(nt c pl v s).1=eC->E ad.C_Dry (wM ad k c pD (nt c pl v s).2 M)):
  uU ad [.ref k.a,gU pl,.int v] (wM ad k c pD s M) Q E:=by
 unfold nt at b f;simp![u_q3,FE,gX,Jp,lf3,lf4,uZ,PQ]
 split
 .rename_i e
  have:¬s.steps.length<c.most:=by lia
  rw[if_neg this]at f;exact dX (f rfl)
 .rename_i e
  have g:s.steps.length<c.most:=by lia
  rw[if_pos g]at b;refine⟨aX (by decide),ji (by lia),ak ?_⟩
  have:=b rfl;rw[<- CW]at this;simpa [uZ] using this
end
end Tw
namespace L3
open PySem L2
def eB:Nat->List D->List D
 |_,[]=>[]
 |k,x::xs=>.tup [.int (k:Nat),x]::eB (k+1) xs
theorem tZ:∀(xs:List D)(k:Nat),(xs.zipIdx k).map (λp=>D.tup [.int (p.2:Nat),p.1])=eB k xs
 |[],_=>rfl
 |x::xs,k=>by rw[RI,PU,tZ xs (k+1)];rfl
theorem iK(xs:List D):uf xs=eB 0 xs:=tZ xs 0
theorem aT{xs:List D}{M:Mem}:DIt.ok ⟨xs,[]⟩ M:=λ_ h=>by cases h
end L3
namespace Tw
open PySem L2 L3
variable{ad:Ad}{ln lp rm:eg}{K:Bool->Mem->Prop}{c:Cf}{C:Cse}{D' D0:DEnds}{Q:DK}{E EE:DX}{U:Dl}{g:Gs}{a b hh left m many sd v:Int}{ns nums ps xs:Yu}{rest rows Yt rs td:List Rw}{names:Yv}{u us:List aG}{o:MO}{M M' M0 N:Mem}{L fi i j n:Nat}{T:Nat->Int}{s z:Sta}{mk x y:Str}{q:aG}{n1 n2:cC}
mutual
def cA(names:Yv)(m many:Int):Rw->Prop
 |.ifr x a b=>x∈names/\bf names m many a/\bf names m many b
 |.again x a=>x∈names/\bf names m many a
 |.put x k=>cK names m many (.put x k)
 |.take x k=>cK names m many (.take x k)
 |.pick x k=>cK names m many (.pick x k)
 |.two w x y z=>cK names m many (.two w x y z)
def bf(names:Yv)(m many:Int):List Rw->Prop
 |[]=>True
 |r::rs=>cA names m many r/\bf names m many rs
end
mutual
def hR:Rw->Nat
 |.ifr _ a b=>1+max (ei a) (ei b)
 |.again _ a=>1+ei a
 |_=>0
def ei:List Rw->Nat
 |[]=>0
 |r::rs=>max (hR r) (ei rs)
end
section
theorem CG{n:cC}(f:NOk names c.m n)(w:0<=v/\v<c.m):NOk names c.m (sN n x v):=by
 refine⟨by rw[ig];exact f.keys,λp e=>?_⟩
 simp only[sN,Qv]at e;obtain⟨q,h,rfl⟩:=e
 split
 .exact w
 .exact f.rng q h
theorem eh{pl:Yu}{s:Sx}:(nt c pl v s).2.nums=s.nums:=by unfold nt;split<;>rfl
theorem lC(f:COk c){r:Rw}(h:cK names c.m c.pieces.length r){pl:Yu}{s:Sx}(e:NOk names c.m s.nums):NOk names c.m (jn c r pl s).2.nums:=by
 unfold jn
 split
 .exact CG e (yG f e h)
 .exact e
theorem xY{x:Str}{pl:Yu}{e:Nat->Sx->Bool×Sx}(w:∀t s,NOk names c.m s.nums->NOk names c.m (e t s).2.nums):∀(f t:Nat)(s:Sx),NOk names c.m s.nums->NOk names c.m (e_ c x pl e f t s).2.nums
 |0,_,s,h=>h
 |f+1,t,s,h=>by
  have p:NOk names c.m (nt c (pl++[(t:Int)]) (lk s.nums x) s).2.nums:=by rw[eh];exact h
  unfold e_
  split
  .split
   .split
    .exact xY w f (t+1) _ (w t _ p)
    .exact w t _ p
   .exact p
  .exact p
mutual
theorem qA(e:COk c):∀(r:Rw),cA names c.m c.pieces.length r->∀(pl:Yu)(s:Sx),NOk names c.m s.nums->NOk names c.m (fF c r pl s).2.nums
 |.ifr x a b,h,pl,s,hn=>by
  have f:NOk names c.m (nt c pl (lk s.nums x) s).2.nums:=by rw[eh];exact hn
  simp only[cA]at h;unfold fF
  split
  .split
   .exact dy e a h.2.1 _ _ _ f
   .exact dy e b h.2.2 _ _ _ f
  .exact f
 |.again x a,h,pl,s,hn=>by
  simp only[cA]at h;unfold fF;exact xY (λt s p=>dy e a h.2 _ _ _ p) _ _ _ hn
 |.put x k,h,pl,s,hn=>by rw[bY rfl];exact lC e (by simpa only[cA] using h) hn
 |.take x k,h,pl,s,hn=>by rw[bY rfl];exact lC e (by simpa only[cA] using h) hn
 |.pick x k,h,pl,s,hn=>by rw[bY rfl];exact lC e (by simpa only[cA] using h) hn
 |.two w x y z,h,pl,s,hn=>by rw[bY rfl];exact lC e (by simpa only[cA] using h) hn
theorem dy(e:COk c):∀(rs:List Rw),bf names c.m c.pieces.length rs->∀(pl:Yu)(j:Nat)(s:Sx),NOk names c.m s.nums->NOk names c.m (bS c rs pl j s).2.nums
 |[],_,_,_,s,hn=>by simpa only[bS] using hn
 |r::rs,h,pl,j,s,hn=>by
  simp only[bf]at h;unfold bS
  split
  .exact dy e rs h.2 _ _ _ (qA e r h.1 _ _ hn)
  .exact qA e r h.1 _ _ hn
end
end
def Post(ad:Ad)(k:Wk)(c:Cf)(pD:D)(r:Bool×Sx)(M:Mem)(d:D)(Q:DK)(E:DX):Prop:=(r.1=true->Q d (wM ad k c pD r.2 M))/\(r.1=eC->E ad.C_Dry (wM ad k c pD r.2 M))
theorem bG{k:Wk}{f:D}{r:Bool×Sx}{d:D}{T:Sd}{ds:List D}(A:∀Q' E',Post ad k c f r M d Q' E'->T ds M0 Q' E'){b:BxQ E Q}(h:Post ad k c f r M d Q E):calls T E ds M0 Q b:=
 ar λQ' E' p w=>A Q' E' ⟨λe=>p _ _ (h.1 e),λe=>w _ _ (h.2 e)⟩
theorem Post.drp{k:Wk}{f:D}{r:Bool×Sx}{d:D}(h:Post ad k c f r M d Q E):Post ad k c f r M d (L3.drp Q) (aB E):=⟨λe=>ak (h.1 e),λe=>dX (h.2 e)⟩
section
variable{k:Wk}{s:Sx}
theorem oG{pl:Yu}(B:COk c)(A:NOk names c.m s.nums)(w:x∈names)(h:Post ad k c (aU c names Yt mk) (nt c pl (lk s.nums x) s) M (.int<|lk s.nums x) Q E):
  oo ad [.ref k.a,gU pl,.str x] (wM ad k c (aU c names Yt mk) s M) Q E:=by
 have p:=A.at w;have f:∀v:Int,v=lk s.nums x->calls (uU ad) (aB E) [.ref k.a,gU pl,.int v] (wM ad k c (aU c names Yt mk) s M) (λ_ M1=>L3.drp Q (.int v) M1) ⟨⟩:=by
  rintro v rfl
  exact bG (d:=.non) (λQ' E' z=>gc B.most z.1 z.2) ⟨λe=>ak (h.1 e),λe=>dX (h.2 e)⟩
 simp![O_,yL,gX,ni,uo,lfm,bX,p.1,QZ]
 split
 .rename_i e
  exact f 0 (by unfold lk;rw[if_pos e])
 .rename_i e
  exact f 1 (by unfold lk;rw[if_neg e])
theorem dh{pl:Yu}{r:Rw}(R:names.length<=1000)(O:COk c)(J:NOk names c.m s.nums)(A:cK names c.m c.pieces.length r)(h:Post ad k c (aU c names Yt mk) (jn c r pl s) M .non Q E):
  Wg ad (n+1) [.ref k.a,r.d,gU pl] (wM ad k c (aU c names Yt mk) s M) Q E:=by
 have fin:calls (mZ ad) (aB E) [aU c names Yt mk,.ref k.dn,.tup (c.pieces.map D.int),r.d] (wM ad k c (aU c names Yt mk) s M) (λd M'=>frz d M' λx M1=>
   ag 3 x [ap (.ref k.a),ap r.d,ap (gU pl),cm] M1 λU M2=>ai (bo<|cY ad.C_Walk "note_step" (uU ad) (aB E) 3 (ac 0)<|aa (ac 2)<|aa (ac 3) af)
    (au (ac 3)<|dq (b6 ad.C_Walk (ac 0) "numbers")<|ah aw (ac 1)<|dC<|.int 1) { nx:=λ_ M'=>L3.drp Q .non M',rt:=L3.drp Q } U M2) ⟨⟩:=by
  refine aP (d:=.int (num c s.nums r)) (λ_ _ q=>mH O J A ni q) ?_;simp![gX,lfm];refine bG (r:=nt c pl (num c s.nums r) s) (d:=.non) (λQ' E' z=>gc O.most z.1 z.2) ?_;unfold jn at h;unfold nt;have B:dY r∈s.nums.map (·.1):=by
   rw[J.keys];cases r with
   |put x k=>exact A.1
   |take x k=>exact A.1
   |pick x k=>exact A.1
   |two w x y z=>exact A.2.1
   |ifr=>exact A.elim
   |again=>exact A.elim
  split
  .rename_i H
   rw[if_pos H]at h;refine⟨λ_=>?_,λe=>by simp at e⟩
   have F:=h.1 rfl;have P:wM ad k c (aU c names Yt mk) ⟨sN s.nums (dY r) (num c s.nums r),s.steps++[(pl,num c s.nums r)]⟩ M=(wM ad k c (aU c names Yt mk) ⟨s.nums,s.steps++[(pl,num c s.nums r)]⟩ M).upd k.dn (.dK<|eG (dJ s.nums) (Qr<|dY r)<|.int<|num c s.nums r):=by
    rw[lH B,Hz]
   rw[P]at F;have p:(dJ s.nums).length<sizeLine:=by rw[dJ,PQ,<- PQ (f:=(·.1)),J.keys];exact ji (by lia)
   cases r with
   |put x kk=>simp![Rw.d,gX,ni,uo,atI_1];exact⟨p,ak F⟩
   |take x kk=>simp![Rw.d,gX,ni,uo,atI_1];exact⟨p,ak F⟩
   |pick x kk=>simp![Rw.d,gX,ni,uo,atI_1];exact⟨p,ak F⟩
   |two w x y z=>simp![Rw.d,gX,ni,uo,atI_1];exact⟨p,ak F⟩
   |ifr=>exact A.elim
   |again=>exact A.elim
  .rename_i H
   rw[if_neg H]at h;exact⟨λe=>by simp at e,λ_=>dX (h.2 rfl)⟩
 cases r with
 |put x kk=>simp![ou,iF,Rw.d,gX,lf0,uo,lf2,atI_0];exact fin
 |take x kk=>simp![ou,iF,Rw.d,gX,lf0,uo,lf2,atI_0];exact fin
 |pick x kk=>simp![ou,iF,Rw.d,gX,lf0,uo,lf2,atI_0];exact fin
 |two w x y z=>
  have G:((w=QI "if")=False):=by rcases A.1 with rfl|rfl|rfl|rfl<;>exact eq_false (by decide +kernel)
  have I:((w=QI "again")=False):=by rcases A.1 with rfl|rfl|rfl|rfl<;>exact eq_false (by decide +kernel)
  simp![ou,iF,Rw.d,gX,lf0,uo,lf2,atI_0,G,I];exact fin
 |ifr=>exact A.elim
 |again=>exact A.elim
end
section
def Gr(c:Cf)(s s':Sx):Prop:=s.steps.length<=s'.steps.length/\(s.steps.length<=c.most->s'.steps.length<=c.most)
theorem Gr.refl{s:Sx}:Gr c s s:=⟨PZ _,id⟩
theorem Gr.trans{s e f:Sx}(a:Gr c s e)(b:Gr c e f):Gr c s f:=⟨Qp a.1 b.1,λh=>b.2 (a.2 h)⟩
theorem nt_gr{pl:Yu}{s:Sx}:Gr c s (nt c pl v s).2:=by
 unfold nt
 split
 .refine⟨by simp,λ_=>?_⟩;simp;lia
 .exact Gr.refl
theorem kT{r:Rw}{pl:Yu}{s:Sx}:Gr c s (jn c r pl s).2:=by
 unfold jn
 split
 .refine⟨by simp,λ_=>?_⟩;simp;lia
 .exact Gr.refl
theorem yT{x:Str}{pl:Yu}{e:Nat->Sx->Bool×Sx}(h:∀t s,Gr c s (e t s).2):∀(f t:Nat)(s:Sx),Gr c s (e_ c x pl e f t s).2
 |0,_,s=>Gr.refl
 |f+1,t,s=>by
  unfold e_
  split
  .split
   .split
    .exact nt_gr.trans ((h t _).trans<|yT h f (t+1) _)
    .exact nt_gr.trans (h t _)
   .exact nt_gr
  .exact nt_gr
mutual
theorem pH:∀(r:Rw)(pl:Yu)(s:Sx),Gr c s (fF c r pl s).2
 |.ifr x a b,pl,s=>by
  unfold fF
  split
  .split
   .exact nt_gr.trans (fh a _ _ _)
   .exact nt_gr.trans (fh b _ _ _)
  .exact nt_gr
 |.again x a,pl,s=>by
  unfold fF;exact yT (λt s=>fh a _ _ _) _ _ _
 |.put x k,pl,s=>by rw[bY rfl];exact kT
 |.take x k,pl,s=>by rw[bY rfl];exact kT
 |.pick x k,pl,s=>by rw[bY rfl];exact kT
 |.two w x y z,pl,s=>by rw[bY rfl];exact kT
theorem fh:∀(rs:List Rw)(pl:Yu)(j:Nat)(s:Sx),Gr c s (bS c rs pl j s).2
 |[],_,_,s=>by unfold bS;exact Gr.refl
 |r::rs,pl,j,s=>by
  unfold bS
  split
  .exact(pH r _ _).trans (fh rs _ _ _)
  .exact pH r _ _
end
end
theorem bC{pl:Yu}:D.tup (pl.map D.int++[D.int v])=gU (pl++[v]):=by simp[gU]
section
variable{k:Wk}
def yl(ad:Ad)(k:Wk)(c:Cf)(names:Yv)(Yt:List Rw)(mk:Str)(n:Nat):Prop:=∀(rs:List Rw)(pl:Yu)(s:Sx)(M:Mem)(Q:DK)(E:DX),bf names c.m c.pieces.length rs->3*ei rs+2<=n->pl.length+2*ei rs+2<=1000->NOk names c.m s.nums->s.steps.length<=c.most->
 Post ad k c (aU c names Yt mk) (bS c rs pl 0 s) M .non Q E->We ad n [.ref k.a,.tup (aA rs),gU pl] (wM ad k c (aU c names Yt mk) s M) Q E
def Kj(ad:Ad)(k:Wk)(c:Cf)(names:Yv)(Yt:List Rw)(mk:Str)(n:Nat):Prop:=∀(r:Rw)(pl:Yu)(s:Sx)(M:Mem)(Q:DK)(E:DX),cA names c.m c.pieces.length r->3*hR r+1<=n->pl.length+2*hR r+1<=1000->NOk names c.m s.nums->s.steps.length<=c.most->
 Post ad k c (aU c names Yt mk) (fF c r pl s) M .non Q E->Wg ad n [.ref k.a,r.d,gU pl] (wM ad k c (aU c names Yt mk) s M) Q E
def PIf(ad:Ad)(k:Wk)(c:Cf)(names:Yv)(Yt:List Rw)(mk:Str)(n:Nat):Prop:=∀(x:Str)(a b:List Rw)(pl:Yu)(s:Sx)(M:Mem)(Q:DK)(E:DX),cA names c.m c.pieces.length (.ifr x a b)->3*hR (.ifr x a b)<=n->pl.length+2*hR (.ifr x a b)+1<=1000->NOk names c.m s.nums->s.steps.length<=c.most->
 Post ad k c (aU c names Yt mk) (fF c (.ifr x a b) pl s) M .non Q E->Wh ad n [.ref k.a,(Rw.ifr x a b).d,gU pl] (wM ad k c (aU c names Yt mk) s M) Q E
def PAg(ad:Ad)(k:Wk)(c:Cf)(names:Yv)(Yt:List Rw)(mk:Str)(n:Nat):Prop:=∀(x:Str)(a:List Rw)(pl:Yu)(s:Sx)(M:Mem)(Q:DK)(E:DX),cA names c.m c.pieces.length (.again x a)->3*hR (.again x a)<=n->pl.length+2*hR (.again x a)+1<=1000->NOk names c.m s.nums->s.steps.length<=c.most->
 Post ad k c (aU c names Yt mk) (fF c (.again x a) pl s) M .non Q E->Wi ad n [.ref k.a,(Rw.again x a).d,gU pl] (wM ad k c (aU c names Yt mk) s M) Q E
theorem AU(S:COk c)(R:Kj ad k c names Yt mk n):yl ad k c names Yt mk (n+1):=by
 intro rs pl s M Q E p O F w A h;simp![ON,wI,cL,iK]
 refine cg (λxs U M'=>∃(f:List Rw)(j:Nat)(B:Sx)(P J:Option D),xs=eB j (aA f)/\U=[ap (.ref k.a),ap (.tup<|aA rs),ap (gU pl),P,J]/\M'=wM ad k c (aU c names Yt mk) B M/\bf names c.m c.pieces.length f/\3*ei f+2<=n+1/\pl.length+2*ei f+2<=1000/\NOk names c.m B.nums/\B.steps.length<=c.most/\
  Post ad k c (aU c names Yt mk) (bS c f pl j B) M .non Q E) (λ_ _ _ _=>aT) ?_ ?_ _ _ _ ⟨rs,0,s,cm,cm,rfl,rfl,rfl,p,O,F,w,A,h⟩
 .rintro U M' ⟨f,j,B,P,J,G,rfl,rfl,p,O,F,w,A,h⟩
  cases f with
  |nil=>exact ak (by simpa [bS] using h.1 (by simp[bS]))
  |cons r rs=>simp[aA,eB]at G
 .rintro x xs U M' ⟨f,j,B,P,J,G,rfl,rfl,p,O,F,w,A,h⟩ D' I _ _ _
  cases f with
  |nil=>simp[aA,eB]at G
  |cons r f=>
   simp only[aA,eB,Ru]at G;obtain⟨rfl,rfl⟩:=G;simp only[bf]at p;have W:hR r<=ei (r::f)/\ei f<=ei (r::f):=by simp only[ei];lia
   simp![gU,PX,PQ];refine⟨aX (by decide),aX (by lia),?_⟩
   rw[bC];refine bG (r:=fF c r (pl++[(j:Int)]) B) (d:=.non) (λQ' E' z=>R r (pl++[(j:Int)]) B M Q' E' p.1 (by lia) (by simp;lia) w A z) ?_
   simp only[bS]at h;cases H:(fF c r (pl++[(j:Int)]) B).1 with
   |true=>
    rw[if_pos H]at h;refine⟨λ_=>I _ _ ⟨f,j+1,_,_,_,rfl,rfl,rfl,p.2,by lia,by lia,qA S r p.1 _ _ w,(pH r _ _).2 A,h⟩,λe=>by rw[H]at e;cases e⟩
   |false=>
    rw[if_neg (by rw[H];simp)]at h
    exact⟨λe=>(by rw[H]at e;cases e),λ_=>dX (h.2 H)⟩
theorem E7(p:names.length<=1000)(G:COk c)(H:PIf ad k c names Yt mk n)(I:PAg ad k c names Yt mk n):Kj ad k c names Yt mk (n+1):=by
 intro r pl s M Q E e J A f B h;cases r with
 |put x kk=>rw[bY rfl]at h;exact dh p G f (by simpa only[cA] using e) h
 |take x kk=>rw[bY rfl]at h;exact dh p G f (by simpa only[cA] using e) h
 |pick x kk=>rw[bY rfl]at h;exact dh p G f (by simpa only[cA] using e) h
 |two w x y z=>rw[bY rfl]at h;exact dh p G f (by simpa only[cA] using e) h
 |ifr x a b=>
  have F:=λQ' E' z=>H x a b pl s M Q' E' e (by lia) A f B z
  simp only[Rw.d]at F;simp![ou,iF,Rw.d,atI_0];exact bG F h.drp
 |again x a=>
  have F:=λQ' E' z=>I x a pl s M Q' E' e (by lia) A f B z
  simp only[Rw.d]at F;simp![ou,iF,Rw.d,atI_0];exact bG F h.drp
theorem Hj(J:COk c)(H:yl ad k c names Yt mk n):PIf ad k c names Yt mk (n+1):=by
 intro x a b pl s M Q E w I F B G h;simp only[cA]at w;simp only[hR]at I F;simp![OF,wZ,Rw.d,gX,lfl,atI_1,atI_2,atI_3];refine bG (r:=nt c pl (lk s.nums x) s) (d:=.int (lk s.nums x)) (λQ' E' z=>oG J B w.1 z) ?_;have hl:lk s.nums x=0\/lk s.nums x=1:=by unfold lk;split<;>simp
 have p:NOk names c.m (nt c pl (lk s.nums x) s).2.nums:=by rw[eh];exact B
 have f:=(nt_gr (c:=c) (pl:=pl) (v:=lk s.nums x) (s:=s)).2 G;unfold fF at h;cases A:(nt c pl (lk s.nums x) s).1 with
 |false=>
  rw[if_neg (by rw[A];simp)]at h
  exact⟨λe=>(by rw[A]at e;cases e),λ_=>dX (h.2 A)⟩
 |true=>
  rw[if_pos A]at h;refine⟨λ_=>?_,λe=>by rw[A]at e;cases e⟩
  rcases hl with hl|hl
  .rw[if_neg (by rw[hl];decide)]at h
   rw[hl]at h p f ⊢;simp![atI_2,atI_3,gU,PX,PQ,show ((0:Int)=1)=False from eq_false (by decide)]
   refine⟨aX (by decide),aX (by lia),?_⟩
   rw[bC];exact bG (λQ' E' z=>H b (pl++[0]) _ M Q' E' w.2.2 (by lia) (by simp;lia) p f z) h.drp
  .rw[if_pos hl]at h
   rw[hl]at h p f ⊢;simp![atI_2,atI_3,gU,PX,PQ];refine⟨aX (by decide),aX (by lia),?_⟩
   rw[bC];exact bG (λQ' E' z=>H a (pl++[1]) _ M Q' E' w.2.1 (by lia) (by simp;lia) p f z) h.drp
end
section
variable{k:Wk}
theorem uw(Z:COk c)(ih:yl ad k c names Yt mk n):PAg ad k c names Yt mk (n+1):=by
 intro x a pl s M Q E H hn S A G h;simp only[cA]at H;simp only[hR]at hn S;simp![OQ,yK,Rw.d,dD];refine⟨c.most+1,?_⟩;unfold fF at h
 have R:∀(f t:Nat)(s:Sx)(J:fG)(I:av)(DD:DEnds)(b:BxW J I DD),NOk names c.m s.nums->s.steps.length<=c.most->c.most<s.steps.length+f->
   J=ao (ah cB (aq<|cY ad.C_Walk "look" (oo ad) (aB E) 3 (ac 0)<|aa (ah aZ (ac 2)<|aM<|aa (ac 3) af)<|aa (ah aw (ac 1)<|dC<|.int 1) af)<|dC<|.int 1)->
   I=ai (bo<|aj (We ad n) (aB E) 3<|aa (ac 0)<|aa (ah aw (ac 1)<|dC<|.int 2)<|aa (ah aZ (ac 2)<|aM<|aa (ac 3) af) af) (D5 3 (dC<|.int 1) oi)->
   DD.nx=(λ_ M'=>L3.drp Q .non M')->
   Post ad k c (aU c names Yt mk) (e_ c x pl (λt s=>bS c a (pl++[(t:Int)]) 0 s) f t s) M .non Q E->
   b_ J I DD b f [ap (.ref k.a),ap (.tup [.str "again",.str x,.tup (aA a)]),ap (gU pl),ap (.int (t:Int))] (wM ad k c (aU c names Yt mk) s M):=by
  intro f
  induction f with
  |zero=>intro t s J I DD b A G hf;lia
  |succ f ihf=>
   intro t s J I DD b A G hf W X P h;unfold b_;subst W;simp![gX,lfl,atI_1,gU,PX,PQ];refine⟨aX (by decide),aX (by lia),?_⟩
   rw[bC];refine bG (r:=nt c (pl++[(t:Int)]) (lk s.nums x) s) (d:=.int (lk s.nums x)) (λQ' E' z=>oG Z A H.1 z) ?_;have hl:lk s.nums x=0\/lk s.nums x=1:=by unfold lk;split<;>simp
   have B:NOk names c.m (nt c (pl++[(t:Int)]) (lk s.nums x) s).2.nums:=by rw[eh];exact A
   have w:=(nt_gr (c:=c) (pl:=pl++[(t:Int)]) (v:=lk s.nums x) (s:=s)).2 G;unfold e_ at h;cases F:(nt c (pl++[(t:Int)]) (lk s.nums x) s).1 with
   |false=>
    rw[if_neg (by rw[F];simp)]at h
    exact⟨λe=>(by rw[F]at e;cases e),λ_=>dX (h.2 F)⟩
   |true=>
    rw[if_pos F]at h;refine⟨λ_=>?_,λe=>by rw[F]at e;cases e⟩
    have O:(nt c (pl++[(t:Int)]) (lk s.nums x) s).2.steps.length=s.steps.length+1:=by
     unfold nt at F ⊢
     split at F
     .rename_i q;rw[if_pos q];simp
     .cases F
    rcases hl with hl|hl
    .rw[if_neg (by rw[hl];decide)]at h
     rw[hl]at h ⊢;simp![show ((0:Int)=1)=False from eq_false (by decide)]
     rw[P];rw[hl]at F;exact ak (h.1 F)
    .rw[if_pos hl]at h
     rw[hl]at h B w O ⊢;simp![];subst X;simp![atI_2,gU,PX,PQ];refine⟨aX (by decide),aX (by lia),?_⟩
     rw[bC];refine bG (r:=bS c a (pl++[(t:Int)]) 0 (nt c (pl++[(t:Int)]) 1 s).2) (λQ' E' z=>ih a (pl++[(t:Int)]) _ M Q' E' H.2 (by lia) (by simp;lia) B w z) ?_
     have Y:=fh (c:=c) a (pl++[(t:Int)]) 0 (nt c (pl++[(t:Int)]) 1 s).2;cases p:(bS c a (pl++[(t:Int)]) 0 (nt c (pl++[(t:Int)]) 1 s).2).1 with
     |true=>
      rw[if_pos p]at h;refine⟨λ_=>?_,λe=>by rw[p]at e;cases e⟩
      simp![];exact ihf (t+1) _ _ _ _ _ (dy Z a H.2 _ _ _ B) (Y.2 w) (by have:=Y.1;lia) rfl rfl P h
     |false=>
      rw[if_neg (by rw[p];simp)]at h
      exact⟨λe=>(by rw[p]at e;cases e),λ_=>dX (h.2 p)⟩
 exact R (c.most+1) 0 s _ _ _ _ A G (by lia) rfl rfl rfl h
theorem rH(e:names.length<=1000)(f:COk c):∀n:Nat,yl ad k c names Yt mk n/\Kj ad k c names Yt mk n/\PIf ad k c names Yt mk n/\PAg ad k c names Yt mk n
 |0=>⟨λrs pl s M Q E _ h=>by lia,λr pl s M Q E _ h=>by lia,λx a b pl s M Q E _ h=>by simp only[hR]at h;lia,λx a pl s M Q E _ h=>by simp only[hR]at h;lia⟩
 |n+1=>by
  obtain⟨p,A,B,w⟩:=rH e f n;exact⟨AU f A,E7 e f B w,Hj f p,uw f p⟩
end
theorem sW:∀(names:Yv)(nums:Yu)(f:cC),names.length=nums.length->(f.map (·.1)++names).Nodup->
  ((names.map λx=>(Qr x:aG)).zip<|nums.map D.int).foldl (λa p=>eG a p.1 p.2) (dJ f)=dJ (f++names.zip nums)
 |[],nums,f,_,_=>by simp
 |x::names,[],f,h,_=>by simp at h
 |x::names,v::nums,f,h,nd=>by
  have B:x∉f.map (·.1):=by
   have:=(Uo.mp nd).2.2;exact λH=>this x H x (by simp) rfl
  have w:((dJ f).any λF=>decide (F.1=Qr x))=false:=by
   rw[List.any_eq_false];intro p A;simp only[dJ,Qv]at A;obtain⟨q,I,rfl⟩:=A;simp only[decide_eq_true_eq];intro e;have:q.1=x:=TK e;exact B (by rw[<- this];exact S2 I)
  simp only[PU,V6,QW];have G:eG (dJ f) (Qr x) (.int v)=dJ (f++[(x,v)]):=by
   unfold eG;rw[w];simp[dJ]
  rw[G,sW names nums (f++[(x,v)]) (by simpa using h) (by simpa using nd)]
  simp
theorem eE:∀names:List Str,ia (names.map D.str)=ap (names.map λx=>(Qr x:aG))
 |[]=>rfl
 |x::names=>by simp[ia,cO,eE names]
theorem fO(h:names.length=nums.length)(e:names.Nodup):CB (names.map λx=>(Qr x:aG)) (nums.map D.int)=dJ (names.zip nums):=by
 have:=sW names nums [] h (by simpa using e)
 simpa [CB,dJ] using this
theorem dp1{d:D}:bJ "plan" d []=[(("plan":Str),d)]:=rfl
theorem dp2{a d:D}:bJ "numbers" d [(("plan":Str),a)]=[(("plan":Str),a),(("numbers":Str),d)]:=rfl
theorem dp3{a b d:D}:bJ "pieces" d [(("plan":Str),a),(("numbers":Str),b)]=[(("plan":Str),a),(("numbers":Str),b),(("pieces":Str),d)]:=rfl
theorem dp4{a b e d:D}:bJ "most" d [(("plan":Str),a),(("numbers":Str),b),(("pieces":Str),e)]=[(("plan":Str),a),(("numbers":Str),b),(("pieces":Str),e),(("most":Str),d)]:=rfl
theorem dp5{a b e g d:D}:bJ "steps" d [(("plan":Str),a),(("numbers":Str),b),(("pieces":Str),e),(("most":Str),g)]=[(("plan":Str),a),(("numbers":Str),b),(("pieces":Str),e),(("most":Str),g),(("steps":Str),d)]:=rfl
def bH(nums pieces:Yu):D:=.tup [.tup (nums.map D.int),.tup (pieces.map D.int)]
section
theorem AO{a:eg}(J:M a=cm)(F:names.length=nums.length)(I:names.Nodup)(H:0<names.length)(G:names.length<=1000)(h:∀(k:Wk),k.a=a->M k.dn=cm->M k.ls=cm->Q .non (wM ad k c (aU c names rows mk) ⟨names.zip nums,[]⟩ M)):
  Ha ad [.ref a,aU c names rows mk,bH nums c.pieces,.int (c.most:Nat)] (M.upd a<|.ins ad.C_Walk []) Q E:=by
 simp![u_q8,GB,aU,bH,Mem.upd_upd,atI_0,atI_1,eE,PQ,dp1];refine⟨by decide,F,H,G,λdn p=>?_⟩
 have n1:a≠dn:=Mem.ne Mem.upd_same p;have A:M dn=none:=by rw[ae (Qu n1)]at p;exact p
 simp![ae n1,Mem.upd_same,dp2,aD (Qu n1),Mem.upd_upd,fO F I];refine⟨by simp,?_⟩
 simp![ae n1,Mem.upd_same,dp3,aD (Qu n1),Mem.upd_upd];refine⟨by simp,?_⟩
 simp![ae n1,Mem.upd_same,dp4,aD (Qu n1),Mem.upd_upd];refine⟨by simp,aX (by simp),λls f=>?_⟩
 have n2:a≠ls:=by
  intro e;subst e;rw[ae n1,Mem.upd_same]at f;cases f
 have B:dn≠ls:=by
  intro e;subst e;rw[Mem.upd_same]at f;cases f
 have w:M ls=none:=by rw[ae (Qu B),ae (Qu n2)]at f;exact f
 simp![ae n2,ae n1,Mem.upd_same,dp5];refine⟨by simp,ak ?_⟩
 have:=h ⟨a,dn,ls,n1,n2,B⟩ rfl A w;have e:wM ad ⟨a,dn,ls,n1,n2,B⟩ c (aU c names rows mk) ⟨names.zip nums,[]⟩ M=(((M.upd a<|.ins ad.C_Walk [("plan",aU c names rows mk),("numbers",.ref dn),("pieces",.tup (c.pieces.map D.int)),("most",.int (c.most:Nat))]).upd dn<|.dK<|dJ<|names.zip nums).upd ls<|.lst []).upd a (.ins ad.C_Walk [("plan",aU c names rows mk),("numbers",.ref dn),("pieces",.tup (c.pieces.map D.int)),("most",.int (c.most:Nat)),("steps",.ref ls)]):=by
  unfold wM;rw[aD (Qu n2),aD (Qu n1),Mem.upd_upd];rfl
 rw[e]at this;exact this
def dj(c:Cf)(names:Yv)(rows:List Rw)(nums:Yu):Bool×Sx:=bS c rows [] 0 ⟨names.zip nums,[]⟩
def eL(names:Yv)(r:Bool×Sx):D:=if r.1=true then .tup (names.map λx=>.int (nm r.2.nums x)) else .non
structure PlOk(c:Cf)(names:Yv)(rows:List Rw)(nums:Yu):Prop where
 co:COk c
 ln:names.length=nums.length
 nd:names.Nodup
 l0:0<names.length
 l1:names.length<=1000
 rng:∀v∈nums,0<=v/\v<c.m
 ok:bf names c.m c.pieces.length rows
 h:ei rows<=7
theorem fN:∀{names:Yv}{nums:Yu},names.length=nums.length->(names.zip nums).map (·.1)=names
 |[],[],_=>rfl
 |[],_::_,h=>by simp at h
 |_::_,[],h=>by simp at h
 |x::xs,v::vs,h=>by simp[fN (by simpa using h)]
theorem PlOk.nok(p:PlOk c names rows nums):NOk names c.m (names.zip nums):=⟨fN p.ln,λq e=>p.rng _ (Sl e).2⟩
theorem EK(p:PlOk c names rows nums)(h:∀l,M l=cm->Q (.tup [.ref l,eL names (dj c names rows nums)]) (M.upd l<|.lst<|uZ (dj c names rows nums).2.steps)):
  rD ad [aU c names rows mk,bH nums c.pieces,.int (c.most:Nat)] M Q E:=by
 simp![OL,zf];intro a Y;refine ar λQ' E' W _=>AO Y p.ln p.nd p.l0 p.l1 λk hk P F=>W _ _ ?_;subst hk;have w:∀(J:Sx),∀b o,(M.upd k.ls<|.lst<|uZ J.steps) b=ap o->wM ad k c (aU c names rows mk) J M b=ap o:=by
  intro J b o e
  by_cases R:b=k.ls
  .subst R;rw[Mem.upd_same]at e;rw[Jp];exact e
  .rw[ae R]at e
   have h2:b≠k.dn:=by rintro rfl;rw[P]at e;cases e
   have h3:b≠k.a:=by rintro rfl;rw[Y]at e;cases e
   unfold wM;rw[ae R,ae h2,ae h3];exact e
 have X:=(rH (ad:=ad) (k:=k) (Yt:=rows) (mk:=mk) p.l1 p.co 24).1 rows [] ⟨names.zip nums,[]⟩ M;unfold aU at X;simp![aU,atI_3];refine⟨aX (by decide),?_⟩
 refine ar λQ2 E2 S H=>X Q2 E2 p.ok (by have:=p.h;lia) (by have:=p.h;simp;lia) p.nok (Rq _) ⟨λe=>S _ _ ?_,λe=>H _ _ ⟨rfl,?_⟩⟩
 .have hn:NOk names c.m (dj c names rows nums).2.nums:=dy p.co rows p.ok [] 0 ⟨names.zip nums,[]⟩ p.nok
  have O:(dj c names rows nums).1=true:=e;simp![gX,lf4,atI_1,aY]
  refine cT (λxs f U M'=>∃n1 n2 G,names=n1++n2/\xs=n2.map D.str/\f=n1.map (λx=>D.int (nm (dj c names rows nums).2.nums x))/\U=[G,ap (.ref k.a)]/\M'=wM ad k c (aU c names rows mk) (dj c names rows nums).2 M)
   (λ_ _ _ _ _=>aT) ?_ ?_ ?_ _ _ _ _ ⟨[],names,cm,rfl,rfl,rfl,rfl,rfl⟩
  .rintro f U M' ⟨n1,n2,G,A,B,rfl,rfl,rfl⟩
   have:n2=[]:=by cases n2 with|nil=>rfl|cons _ _=>simp at B
   subst this;intro q W;simp![Mem.upd_upd,Mem.upd_del,aE W];refine⟨aX (by decide),⟨_,w _,?_⟩⟩
   have:=h k.ls F;unfold eL at this;rw[if_pos O]at this;have en:n1=names:=by simpa using A.symm
   rw[en];exact this
  .rintro x xs f U M' ⟨n1,n2,G,A,B,rfl,rfl,rfl⟩ N Z _
   cases n2 with
   |nil=>simp at B
   |cons y n2=>
    simp only[PU,Ru]at B;obtain⟨rfl,rfl⟩:=B;have hy:y∈names:=by rw[A];simp
    simp![gX,ni,uo,bX,(hn.at hy).1,QZ];refine Z _ _ _ ?_ ⟨n1++[y],n2,_,by simp[A],rfl,by simp,rfl,rfl⟩
    have I:=congrArg R7 A;have:=p.l1;simp at I ⊢;exact ji (by lia)
  .rintro x xs f U M' ⟨n1,n2,G,A,B,rfl,rfl,rfl⟩
   have I:=congrArg R7 A;have:=p.l1;simp at I ⊢;exact ji (by lia)
 .have O:(dj c names rows nums).1=false:=e
  simp![gX,lf4];refine⟨aX (by decide),⟨_,w _,?_⟩⟩
  have:=h k.ls F;unfold eL at this;rw[if_neg (by rw[O];simp)]at this
  exact this
end
structure Pt where
 p:eg
 q:eg
 ne:p≠q
def Has(k:Pt)(M:Mem):Prop:=∃(cells:Yu)(t h sd:Int),cells.length<=63/\M k.p=ap (.lst [.ref k.q,.int t,.int h,.int sd])/\M k.q=ap (.lst<|cells.map D.int)
def Dr(k:Pt)(M M':Mem):Prop:=Has k M'/\∀b,b≠k.p->b≠k.q->M' b=M b
theorem Has.refl{k:Pt}(h:Has k M):Dr k M M:=⟨h,λ_ _ _=>rfl⟩
theorem Dr.trans{k:Pt}{M1 M2:Mem}(a:Dr k M M1)(b:Dr k M1 M2):Dr k M M2:=⟨b.1,λx e f=>(b.2 x e f).trans (a.2 x e f)⟩
theorem Has.nep{k:Pt}(h:Has k M){l:eg}(f:M l=cm):l≠k.p/\l≠k.q:=by
 obtain⟨w,t,hh,sd,_,B,A⟩:=h;exact⟨λe=>(by rw[e,B]at f;cases f),λe=>(by rw[e,A]at f;cases f)⟩
theorem Has.upd{k:Pt}{l:eg}(h:Has k M)(f:l≠k.p/\l≠k.q):Has k (M.upd l o):=by
 obtain⟨e,t,hh,sd,B,A,w⟩:=h;exact⟨e,t,hh,sd,B,by rw[ae (Qu f.1)];exact A,by rw[ae (Qu f.2)];exact w⟩
theorem Has.del{k:Pt}{l:eg}(h:Has k M)(f:l≠k.p/\l≠k.q):Has k (M.del l):=by
 obtain⟨e,t,hh,sd,B,A,w⟩:=h;refine⟨e,t,hh,sd,B,?_,?_⟩
 .unfold Mem.del;rw[if_neg (Qu f.1)];exact A
 .unfold Mem.del;rw[if_neg (Qu f.2)];exact w
theorem Dr.none{k:Pt}(f:Has k M)(h:Dr k M M'){l:eg}(e:M l=cm):M' l=none:=by
 have:=f.nep e;rw[h.2 l this.1 this.2];exact e
theorem oM:∀(n:Nat)(e:Yu),bv n (e.map D.int)=true
 |_,[]=>by unfold bv;rfl
 |n,c::e=>by
  rw[PU];unfold bv;rw[oM n e];cases n<;>rfl
theorem j8(h:∀r,Q (.int r) M):mC ad [.int a,.int b] M Q E:=by
 simp![Oa,yI];refine⟨.inr (by decide),.inr (by decide),by decide,⟨by decide,by decide⟩,.inr (by decide),by decide,⟨by decide,by decide⟩,ak<|h _⟩
theorem FZ{α:Type}{x:α}{xs:List α}:atI (x::xs) 0=ap x:=by rw[atI_0];rfl
theorem sM(h:0<m):0<=a % m/\a % m<m:=⟨Q0 _ (by lia),Q8 _ h⟩
theorem fj{i:Int}(h:0<=i)(e:i<n):rA n i=ap i.toNat:=by unfold rA;rw[if_pos h,if_pos e]
theorem ix0:rA (n+1) 0=ap 0:=fj (by decide) (by lia)
theorem Jd:rA 4 2=ap 2:=rfl
theorem yA{s u:av}(h:s { D0 with nx:=u D0 } U M):ai s u D0 U M:=h
theorem GS{k:Pt}{t:Int}(e:U[0]?=ap (ap<|.ref k.p))(f:M k.p=ap (.lst [.ref k.q,.int t,.int hh,.int sd]))(h:D0.nx U (M.upd k.p<|.lst [.ref k.q,.int (t+1),.int hh,.int sd])):
  au (ah aZ (ah aw (ac 0)<|dC<|.int 1)<|dC<|.int 1) (dq (ac 0)<|dC<|.int 1) D0 U M:=by
 simp![e,f,atI_1,fj (n:=4) (i:=1) (by decide) (by decide),show (1:Int).toNat=1 from rfl]
 exact h
theorem xN{k:Pt}{t:Int}{F:Option D}(e:0<many)(G:many<2 ^ 62)(h:M k.p=ap (.lst [.ref k.q,.int t,.int hh,.int sd]))(B:∀r,D0.rt (.int<|r % many) M)(A:D0.rt (.int<|hh % many) (M.upd k.p<|.lst [.ref k.q,.int t,.int (hh / many),.int sd])):
  (ai (aN (ao<|ah cB (ah aw (ac 0)<|dC<|.int 2)<|dC<|.int 0) (aF<|ah dw (aq<|aj (mC ad) EE 2<|aa (ah aw (ac 0)<|dC<|.int 3)<|aa (ah aw (ac 0)<|dC<|.int 1) af)<|ac 1) aH)
  (ai (au (ah dw (ah aw (ac 0)<|dC<|.int 2)<|ac 1)<|ag 3)
  (ai (au (ah g_ (ah aw (ac 0)<|dC<|.int 2)<|ac 1)<|dq (ac 0)<|dC<|.int 2)
  (aF<|ac 3)))) D0 [ap (.ref k.p),ap (.int many),F,cm] M:=by
 simp![h,atI_1,atI_2,atI_3]
 by_cases f:hh=0
 .rw[if_pos f]
  refine ar λQ' E' w _=>j8 λr=>w _ _ ?_;simp![];exact⟨e,B r⟩
 .rw[if_neg f]
  simp![h,Jd];exact⟨e,⟨e,by lia⟩,A⟩
theorem Gi{k:Pt}{t:Int}{cells:Yu}(P:0<many)(w:M k.p=ap (.lst [.ref k.q,.int t,.int hh,.int sd]))(B:M k.q=ap (.lst<|cells.map D.int))(F:D0.nx [ap (.ref k.p),ap (.int many),cm,cm] M)(O:∀c cs,hh=0->cells=c::cs->∀r,D0.rt (.int<|r % many) (M.upd k.q<|.lst<|cs.map D.int))(J:∀c cs,hh=0->cells=c::cs->¬c<10 ^ VD 18->D0.nx [ap (.ref k.p),ap (.int many),ap (.int c),cm] ((M.upd k.q<|.lst<|cs.map D.int).upd k.p<|.lst [.ref k.q,.int t,.int c,.int sd])):
  aN (BM (ao<|ah cB (ah aw (ac 0)<|dC<|.int 2)<|dC<|.int 0)<|ao<|ah jW (ah aw (ac 0)<|dC<|.int 0)<|aq<|bV af) (ai (au (nN "list" A_ (ah aw (ac 0)<|dC<|.int 0)<|aa (dC<|.int 0) af)<|ag 2)
   (ai (aN (ao<|ah vX (ac 2)<|ah Mp (dC<|.int 10)<|dC<|.int 18) (aF<|ah dw (aq<|aj (mC ad) EE 2<|aa (ac 2)<|aa (ah aw (ac 0)<|dC<|.int 1) af)<|ac 1) aH)
   (au (ac 2)<|dq (ac 0)<|dC<|.int 2))) aH D0 [ap (.ref k.p),ap (.int many),cm,cm] M:=by
 have f:=k.ne;simp![w,atI_2,FZ]
 by_cases e:hh=0
 .rw[if_pos e]
  refine⟨aX (by decide),λp G=>?_⟩
  simp only[Mem.upd_del,aE G,B];cases cells with
  |nil=>
   simp![];exact F
  |cons c cs=>
   have I:∀A,(M.upd k.q A) k.p=ap (.lst [.ref k.q,.int t,.int hh,.int sd]):=λA=>by rw[ae f,w]
   simp![FZ,w,B,I,oM,ix0,Jd,List.eraseIdx_zero,List.tail_cons,atI_1,atI_2,atI_3];refine⟨⟨by decide,by decide,by decide⟩,?_⟩
   by_cases h:c<10 ^ VD 18
   .rw[if_pos h]
    refine ar λQ' E' H _=>j8 λr=>H _ _ ?_;simp![];exact⟨P,O c cs e rfl r⟩
   .rw[if_neg h]
    exact J c cs e rfl h
 .rw[if_neg e]
  exact F
theorem jC{k:Pt}(hp:Has k M)(G:0<many)(P:many<2 ^ 62)(h:∀r M',0<=r->r<many->Dr k M M'->Q (.int r) M'):
  bi ad [.ref k.p,.int many] M Q E:=by
 obtain⟨cells,t,hh,sd,F,Y,S⟩:=hp;have e:=k.ne;have fin:∀(r:Int)(M':Mem)(cells':Yu)(O w B:Int),cells'.length<=63->(∀b,b≠k.p->b≠k.q->M' b=M b)->M' k.p=ap (.lst [.ref k.q,.int O,.int w,.int B])->M' k.q=ap (.lst<|cells'.map D.int)->drp Q (.int<|r % many) M':=by
  intro r M' cells' O w B Z X a3 R;exact ak (h _ _ (sM G).1 (sM G).2 ⟨⟨cells',O,w,B,Z,a3,R⟩,X⟩)
 have J:∀o,(M.upd k.p o) k.q=ap (.lst<|cells.map D.int):=λo=>by rw[ae (Qu e)];exact S
 rw[Ow (n:=0)];unfold z6;refine yA (GS rfl Y ?_);dsimp only;refine yA (Gi G Mem.upd_same (J _) ?_ (λc H W I r=>?_) λc H W I hb=>?_)
 .dsimp only
  refine xN G P Mem.upd_same (λr=>?_) ?_
  .exact fin _ _ cells _ _ _ F (λb f A=>ae f) Mem.upd_same (J _)
  .exact fin _ _ cells _ _ _ F (λb f A=>by rw[ae f,ae f]) Mem.upd_same (by rw[ae (Qu e),J])
 .subst I
  exact fin _ _ H _ _ _ (by simp at F;lia) (λb f A=>by rw[ae A,ae f]) (by rw[ae e,Mem.upd_same]) Mem.upd_same
 .subst I
  dsimp only;refine xN G P Mem.upd_same (λr=>?_) ?_
  .exact fin _ _ H _ _ _ (by simp at F;lia) (λb f A=>by rw[ae f,ae A,ae f]) Mem.upd_same (by rw[ae (Qu e),Mem.upd_same])
  .exact fin _ _ H _ _ _ (by simp at F;lia) (λb f A=>by rw[ae f,ae f,ae A,ae f]) Mem.upd_same (by rw[ae (Qu e),ae (Qu e),Mem.upd_same])
theorem Gv{xs:List D}{k:Nat}:ko xs cm (ap (k:Int))=xs.take k:=by
 unfold ko;rw[HT.Em,HT.HU,List.drop_zero,Nat.sub_zero];rcases Nat.le_total k xs.length with h|h
 .rw[Nat.min_eq_left h]
 .rw[Nat.min_eq_right h,Vz (PZ _),Vz h]
theorem BS(h:∀(k:Pt) M',Has k M'->(∀b,b≠k.p->b≠k.q->M' b=M b)->Q (.ref k.p) M'):yb ad [.ml (ns.map D.int)] M Q E:=by
 have w:ko (ns.map D.int) cm (ap 63)=(ns.take 63).map D.int:=by rw[List.map_take];exact Gv (k:=63)
 simp![NB,xk,cL,w];intro a H;refine cg (λxs U M'=>∃(f:Yu)(sd:Int)(F:Option D),xs=f.map D.int/\U=[ap (.ml<|ns.map D.int),ap (.int sd),F]/\M'=M) (λ_ _ _ _=>aT) ?_ ?_ _ _ _ ⟨ns.take 63,7,cm,rfl,rfl,by rw[Mem.upd_del,aE H]⟩
 .rintro U M' ⟨f,sd,F,_,rfl,rfl⟩
  simp![w];intro b O;rw[Mem.upd_del,aE O];intro q P;refine⟨aX (by decide),λp G=>?_⟩
  have ne:p≠q:=by intro e;subst e;rw[Mem.upd_same]at G;cases G
  refine ak (h ⟨p,q,ne⟩ _ ⟨ns.take 63,0,0,sd,by simp;lia,Mem.upd_same,?_⟩ λb I J=>?_)
  .show ((M'.upd q _).upd p _) q=_
   rw[ae (Qu ne),Mem.upd_same]
  .rw[ae I,ae J]
 .rintro x xs U M' ⟨f,sd,F,B,rfl,rfl⟩ D' A _ _ _
  cases f with
  |nil=>simp at B
  |cons c f=>
   simp only[PU,Ru]at B;obtain⟨rfl,rfl⟩:=B;simp![];exact⟨.inr (by decide),by decide,A _ _ ⟨f,_,_,rfl,rfl,rfl⟩⟩
def alpha:Str:="abcdefghijklmnopqrstuvwxyz"
theorem E5:∀i<26,alpha.cps.toList[i]?=ap (97+i):=by decide +kernel
theorem B4:alpha.length<=sizeLine:=Qp (show alpha.length<=100 by decide +kernel) (by decide)
theorem rE{t:Nat}(G:names.length<=12)(h:∀(j:Nat)(p:j<names.length),names[j].cps[0]?=ap (97+(t+7*j) % 26)):names.Nodup:=by
 refine List.pairwise_iff_getElem.mpr λi j w p B e=>?_;have f:=h i w;have A:=h j p;rw[e,A]at f;have F:=QX f;lia
def sx(x:Str):Prop:=∃(n c:Nat),1<=n/\n<=8/\97<=c/\c<=122/\x=⟨RP n c⟩
theorem uB{k:Pt}{many:Nat}(hp:Has k M)(h1:many<=12)(h:∀(names:Yv)(M':Mem),names.length=many->names.Nodup->(∀x∈names,sx x)->Dr k M M'->Q (.tup<|names.map D.str) M'):zu ad [.ref k.p,.int many] M Q E:=by
 simp![Ph,xy,cL];refine ar λQ' E' Z _=>jC hp (by decide) (by decide) λturn M1 t0 t1 I=>Z _ _ ?_
 simp![];refine⟨aX (by decide),λl hl=>?_⟩
 have w:=I.1.nep hl;refine⟨by lia,by lia,?_⟩
 obtain⟨t,rfl⟩:=VF t0
 refine cg (λxs U M'=>∃(j:Nat)(Yp:Yv)(c4 S:Option D),j<=many/\xs=(Tj j (many-j)).map (λ(i:Nat)=>D.int (0+(i:Int)))/\U=[ap (.ref k.p),ap (.int (many:Nat)),ap (.int (t:Nat)),ap (.ref l),c4,S]/\Yp.length=j/\(∀(i:Nat)(H:i<Yp.length),Yp[i].cps[0]?=ap (97+(t+7*i) % 26))/\(∀x∈Yp,sx x)/\
  Has k M'/\M' l=ap (.lst<|Yp.map D.str)/\∀b,b≠k.p->b≠k.q->b≠l->M' b=M1 b) (λ_ _ _ _=>aT) ?_ ?_ _ _ _ ⟨0,[],cm,cm,Rq _,?_,rfl,rfl,?_,by simp,I.1.upd w,Mem.upd_same,λb _ _ hb=>ae hb⟩
 .rintro U M' ⟨j,Yp,c4,S,hj,e,rfl,O,X,f,hh,J,R⟩
  have:j=many:=by
   have:=congrArg R7 e;simp at this;lia
  subst this;simp![J];refine⟨M'.del l,λb o e=>?_,h Yp _ O (rE (by lia) X) f ⟨hh.del w,λb B F=>?_⟩⟩
  .unfold Mem.del at e;split at e
   .cases e
   .exact e
  .unfold Mem.del
   split
   .rename_i e;subst e;rw[<- I.2 b B F];exact hl.symm
   .rename_i e;rw[R b B F e,I.2 b B F]
 .rintro x xs U M' ⟨j,Yp,c4,S,hj,e,rfl,O,X,f,hh,J,R⟩ D' P _ _ _
  have hjl:j<many:=by
   have:=congrArg R7 e;simp at this;lia
  obtain⟨n,hn⟩:∃n,many-j=n+1:=⟨many-j-1,by lia⟩
  rw[hn,Sa,PU,Ru]at e;obtain⟨rfl,rfl⟩:=e;have A:atI alpha.cps.toList (((t:Nat)+7*(0+(j:Int))) % 26)=ap (97+(t+7*j) % 26):=by
   have:(((t:Nat):Int)+7*(0+(j:Int))) % 26=(((t+7*j) % 26:Nat):Int):=by lia
   rw[this,br (by lia),Qh,E5 _ (by lia)]
  simp only[alpha]at A;simp![A,J];refine⟨.inl (by decide),by decide,B4,?_⟩
  refine ar λQ' E' Z _=>jC hh (by decide) (by decide) λr M2 r0 r1 W=>Z _ _ ?_
  have Y:M2 l=ap (.lst<|Yp.map D.str):=by rw[W.2 l w.1 w.2];exact J
  simp![Y];refine⟨by lia,by lia,by simp;exact ji (by lia),P _ _ ⟨j+1,Yp++[⟨RP (1+r).toNat (97+(t+7*j) % 26)⟩],_,_,by lia,?_,rfl,by simp[O],?_,?_,W.1.upd w,?_,?_⟩⟩
  .rw[show many-(j+1)=n by lia]
  .intro i H
   by_cases G:i<Yp.length
   .rw[List.getElem_append_left G];exact X i G
   .have:i=Yp.length:=by simp at H;lia
    subst this;rw[List.getElem_append_right (PZ _)];simp only[Nat.sub_self,VB];rw[Array.getElem?_replicate,if_pos (by lia),O]
  .intro x hx
   rcases QC.mp hx with hx|hx
   .exact f x hx
   .simp at hx;subst hx
    exact⟨(1+r).toNat,97+(t+7*j) % 26,by lia,by lia,by lia,by lia,rfl⟩
  .rw[Mem.upd_same];simp
  .intro b B F b3
   rw[ae b3,W.2 b B F,R b B F b3]
 .simp[dU,SK]
 .intro i H;simp at H
@[simp] theorem atI_5 {α:Type} {xs:List α}:atI xs 5=xs[5]?:=br (by decide)
@[simp] theorem atI_6 {α:Type} {xs:List α}:atI xs 6=xs[6]?:=br (by decide)
@[simp] theorem atI_7 {α:Type} {xs:List α}:atI xs 7=xs[7]?:=br (by decide)
@[simp] theorem atI_8 {α:Type} {xs:List α}:atI xs 8=xs[8]?:=br (by decide)
theorem aI{r:Int}(f:0<=r)(h:r<names.length):∃y,y∈names/\atI (names.map D.str) r=ap (.str y):=by
 have e:r.toNat<names.length:=by lia
 refine⟨names[r.toNat],RJ e,?_⟩;rw[br f,Qj,PV e];rfl
structure ToldOk(names:Yv)(m many:Int):Prop where
 m2:2<=m
 m1:m<=997
 n0:0<names.length
 n1:names.length<=12
 k0:0<=many
 k1:many<=40
def iV(names:Yv)(m many:Int):D:=.tup [.int m,.tup (names.map D.str),.int many]
theorem am{b:BxQ EE Q}{k:Pt}(B:Has k M)(A:0<many)(F:many<2 ^ 62)(h:∀r M',0<=r->r<many->Dr k M M'->Q (.int r) M'):calls (bi ad) EE [.ref k.p,.int many] M Q b:=
 ar λQ' E' e _=>jC B A F λr M' f w d=>e _ _ (h r M' f w d)
theorem nB{k:Pt}(hp:Has k M)(ht:ToldOk names m many)(h:∀(r:Rw) M',cK names m many r->Dr k M M'->Q r.d M'):Ae ad [.ref k.p,iV names m many] M Q E:=by
 obtain⟨m2,m1,n0,n1,k0,k1⟩:=ht;simp![OA,yC,iV];refine⟨aX (by decide),λp Z=>?_⟩
 rw[Mem.upd_del,aE Z]
 by_cases W:0<many
 .rw[if_pos W]
  refine am hp (by decide) (by decide) λr M1 r0 r1 d1=>?_
  have hr:r=0\/r=1\/r=2\/r=3\/r=4\/r=5\/r=6\/r=7\/r=8:=by lia
  rcases hr with rfl|rfl|rfl|rfl|rfl|rfl|rfl|rfl|rfl
  .simp![atI_0,atI_1,atI_2,atI_3,atI_4,atI_5,atI_6,atI_7,atI_8,PQ]
   refine am d1.1 (by lia) (by lia) λX M2 w A d2=>?_
   obtain⟨x,e,f⟩:=aI w A;simp![f,PQ];refine am d2.1 (by lia) (by lia) λI M3 B F d3=>?_
   simp![];exact⟨aX (by decide),ak<|h (.put x I) M3 ⟨e,B,F⟩<|d1.trans<|d2.trans d3⟩
  .simp![atI_0,atI_1,atI_2,atI_3,atI_4,atI_5,atI_6,atI_7,atI_8,PQ]
   refine am d1.1 (by lia) (by lia) λX M2 w A d2=>?_
   obtain⟨x,e,f⟩:=aI w A;simp![f,PQ];refine am d2.1 (by lia) (by lia) λI M3 B F d3=>?_
   obtain⟨y,H,G⟩:=aI B F;simp![G,PQ];refine am d3.1 (by lia) (by lia) λY M4 J O S=>?_
   obtain⟨z,P,R⟩:=aI J O;simp![R];exact⟨aX (by decide),ak<|h (.two "sum" x y z) M4 ⟨(.inl rfl),e,H,P⟩<|d1.trans<|d2.trans<|d3.trans S⟩
  .simp![atI_0,atI_1,atI_2,atI_3,atI_4,atI_5,atI_6,atI_7,atI_8,PQ]
   refine am d1.1 (by lia) (by lia) λX M2 w A d2=>?_
   obtain⟨x,e,f⟩:=aI w A;simp![f,PQ];refine am d2.1 (by lia) (by lia) λI M3 B F d3=>?_
   obtain⟨y,H,G⟩:=aI B F;simp![G,PQ];refine am d3.1 (by lia) (by lia) λY M4 J O S=>?_
   obtain⟨z,P,R⟩:=aI J O;simp![R];exact⟨aX (by decide),ak<|h (.two "by" x y z) M4 ⟨(.inr<|.inl rfl),e,H,P⟩<|d1.trans<|d2.trans<|d3.trans S⟩
  .simp![atI_0,atI_1,atI_2,atI_3,atI_4,atI_5,atI_6,atI_7,atI_8,PQ]
   refine am d1.1 (by lia) (by lia) λX M2 w A d2=>?_
   obtain⟨x,e,f⟩:=aI w A;simp![f,PQ];refine am d2.1 (by lia) (by lia) λI M3 B F d3=>?_
   obtain⟨y,H,G⟩:=aI B F;simp![G,PQ];refine am d3.1 (by lia) (by lia) λY M4 J O S=>?_
   obtain⟨z,P,R⟩:=aI J O;simp![R];exact⟨aX (by decide),ak<|h (.two "less" x y z) M4 ⟨(.inr<|.inr<|.inl rfl),e,H,P⟩<|d1.trans<|d2.trans<|d3.trans S⟩
  .simp![atI_0,atI_1,atI_2,atI_3,atI_4,atI_5,atI_6,atI_7,atI_8,PQ]
   refine am d1.1 (by lia) (by lia) λX M2 w A d2=>?_
   obtain⟨x,e,f⟩:=aI w A;simp![f,PQ];refine am d2.1 (by lia) (by lia) λI M3 B F d3=>?_
   obtain⟨y,H,G⟩:=aI B F;simp![G,PQ];refine am d3.1 (by lia) (by lia) λY M4 J O S=>?_
   obtain⟨z,P,R⟩:=aI J O;simp![R];exact⟨aX (by decide),ak<|h (.two "same" x y z) M4 ⟨(.inr<|.inr<|.inr rfl),e,H,P⟩<|d1.trans<|d2.trans<|d3.trans S⟩
  .simp![atI_0,atI_1,atI_2,atI_3,atI_4,atI_5,atI_6,atI_7,atI_8,PQ]
   refine am d1.1 (by lia) (by lia) λX M2 w A d2=>?_
   obtain⟨x,e,f⟩:=aI w A;simp![f,PQ];refine am d2.1 (by lia) (by lia) λI M3 B F d3=>?_
   obtain⟨y,H,G⟩:=aI B F;simp![G,PQ];refine am d3.1 (by lia) (by lia) λY M4 J O S=>?_
   obtain⟨z,P,R⟩:=aI J O;simp![R];exact⟨aX (by decide),ak<|h (.two "sum" x y z) M4 ⟨(.inl rfl),e,H,P⟩<|d1.trans<|d2.trans<|d3.trans S⟩
  .simp![atI_0,atI_1,atI_2,atI_3,atI_4,atI_5,atI_6,atI_7,atI_8,PQ]
   refine am d1.1 (by lia) (by lia) λX M2 w A d2=>?_
   obtain⟨x,e,f⟩:=aI w A;simp![f,PQ];refine am d2.1 (by lia) (by lia) λI M3 B F d3=>?_
   simp![];exact⟨aX (by decide),ak<|h (.put x I) M3 ⟨e,B,F⟩<|d1.trans<|d2.trans d3⟩
  .simp![atI_0,atI_1,atI_2,atI_3,atI_4,atI_5,atI_6,atI_7,atI_8,PQ]
   refine am d1.1 (by lia) (by lia) λX M2 w A d2=>?_
   obtain⟨x,e,f⟩:=aI w A;simp![f,PQ];refine am d2.1 (by lia) (by lia) λI M3 B F d3=>?_
   simp![];exact⟨aX (by decide),ak<|h (.take x I) M3 ⟨e,B,F⟩<|d1.trans<|d2.trans d3⟩
  .simp![atI_0,atI_1,atI_2,atI_3,atI_4,atI_5,atI_6,atI_7,atI_8,PQ]
   refine am d1.1 (by lia) (by lia) λX M2 w A d2=>?_
   obtain⟨x,e,f⟩:=aI w A;simp![f,PQ];refine am d2.1 (by lia) (by lia) λI M3 B F d3=>?_
   obtain⟨y,H,G⟩:=aI B F;simp![G];exact⟨aX (by decide),ak<|h (.pick x y) M3 ⟨e,H,W⟩<|d1.trans<|d2.trans d3⟩
 .rw[if_neg W]
  refine am hp (by decide) (by decide) λr M1 r0 r1 d1=>?_
  have hr:r=0\/r=1\/r=2\/r=3\/r=4\/r=5\/r=6:=by lia
  rcases hr with rfl|rfl|rfl|rfl|rfl|rfl|rfl
  .simp![atI_0,atI_1,atI_2,atI_3,atI_4,atI_5,atI_6,atI_7,atI_8,PQ]
   refine am d1.1 (by lia) (by lia) λX M2 w A d2=>?_
   obtain⟨x,e,f⟩:=aI w A;simp![f,PQ];refine am d2.1 (by lia) (by lia) λI M3 B F d3=>?_
   simp![];exact⟨aX (by decide),ak<|h (.put x I) M3 ⟨e,B,F⟩<|d1.trans<|d2.trans d3⟩
  .simp![atI_0,atI_1,atI_2,atI_3,atI_4,atI_5,atI_6,atI_7,atI_8,PQ]
   refine am d1.1 (by lia) (by lia) λX M2 w A d2=>?_
   obtain⟨x,e,f⟩:=aI w A;simp![f,PQ];refine am d2.1 (by lia) (by lia) λI M3 B F d3=>?_
   obtain⟨y,H,G⟩:=aI B F;simp![G,PQ];refine am d3.1 (by lia) (by lia) λY M4 J O S=>?_
   obtain⟨z,P,R⟩:=aI J O;simp![R];exact⟨aX (by decide),ak<|h (.two "sum" x y z) M4 ⟨(.inl rfl),e,H,P⟩<|d1.trans<|d2.trans<|d3.trans S⟩
  .simp![atI_0,atI_1,atI_2,atI_3,atI_4,atI_5,atI_6,atI_7,atI_8,PQ]
   refine am d1.1 (by lia) (by lia) λX M2 w A d2=>?_
   obtain⟨x,e,f⟩:=aI w A;simp![f,PQ];refine am d2.1 (by lia) (by lia) λI M3 B F d3=>?_
   obtain⟨y,H,G⟩:=aI B F;simp![G,PQ];refine am d3.1 (by lia) (by lia) λY M4 J O S=>?_
   obtain⟨z,P,R⟩:=aI J O;simp![R];exact⟨aX (by decide),ak<|h (.two "by" x y z) M4 ⟨(.inr<|.inl rfl),e,H,P⟩<|d1.trans<|d2.trans<|d3.trans S⟩
  .simp![atI_0,atI_1,atI_2,atI_3,atI_4,atI_5,atI_6,atI_7,atI_8,PQ]
   refine am d1.1 (by lia) (by lia) λX M2 w A d2=>?_
   obtain⟨x,e,f⟩:=aI w A;simp![f,PQ];refine am d2.1 (by lia) (by lia) λI M3 B F d3=>?_
   obtain⟨y,H,G⟩:=aI B F;simp![G,PQ];refine am d3.1 (by lia) (by lia) λY M4 J O S=>?_
   obtain⟨z,P,R⟩:=aI J O;simp![R];exact⟨aX (by decide),ak<|h (.two "less" x y z) M4 ⟨(.inr<|.inr<|.inl rfl),e,H,P⟩<|d1.trans<|d2.trans<|d3.trans S⟩
  .simp![atI_0,atI_1,atI_2,atI_3,atI_4,atI_5,atI_6,atI_7,atI_8,PQ]
   refine am d1.1 (by lia) (by lia) λX M2 w A d2=>?_
   obtain⟨x,e,f⟩:=aI w A;simp![f,PQ];refine am d2.1 (by lia) (by lia) λI M3 B F d3=>?_
   obtain⟨y,H,G⟩:=aI B F;simp![G,PQ];refine am d3.1 (by lia) (by lia) λY M4 J O S=>?_
   obtain⟨z,P,R⟩:=aI J O;simp![R];exact⟨aX (by decide),ak<|h (.two "same" x y z) M4 ⟨(.inr<|.inr<|.inr rfl),e,H,P⟩<|d1.trans<|d2.trans<|d3.trans S⟩
  .simp![atI_0,atI_1,atI_2,atI_3,atI_4,atI_5,atI_6,atI_7,atI_8,PQ]
   refine am d1.1 (by lia) (by lia) λX M2 w A d2=>?_
   obtain⟨x,e,f⟩:=aI w A;simp![f,PQ];refine am d2.1 (by lia) (by lia) λI M3 B F d3=>?_
   obtain⟨y,H,G⟩:=aI B F;simp![G,PQ];refine am d3.1 (by lia) (by lia) λY M4 J O S=>?_
   obtain⟨z,P,R⟩:=aI J O;simp![R];exact⟨aX (by decide),ak<|h (.two "sum" x y z) M4 ⟨(.inl rfl),e,H,P⟩<|d1.trans<|d2.trans<|d3.trans S⟩
  .simp![atI_0,atI_1,atI_2,atI_3,atI_4,atI_5,atI_6,atI_7,atI_8,PQ]
   refine am d1.1 (by lia) (by lia) λX M2 w A d2=>?_
   obtain⟨x,e,f⟩:=aI w A;simp![f,PQ];refine am d2.1 (by lia) (by lia) λI M3 B F d3=>?_
   simp![];exact⟨aX (by decide),ak<|h (.put x I) M3 ⟨e,B,F⟩<|d1.trans<|d2.trans d3⟩
mutual
def N6:Rw->Prop
 |.ifr _ a b=>(a.length<=200/\eW a)/\b.length<=200/\eW b
 |.again _ a=>a.length<=200/\eW a
 |_=>True
def eW:List Rw->Prop
 |[]=>True
 |r::rs=>N6 r/\eW rs
end
theorem LnRs_append:∀{a b:List Rw},eW (a++b)↔eW a/\eW b
 |[],b=>by simp[eW]
 |r::a,b=>by simp[eW,LnRs_append,and_assoc]
mutual
def cR:Rw->Nat
 |.ifr _ a b=>1+cRs a+cRs b
 |.again _ a=>1+cRs a
 |.put _ _=>1
 |.take _ _=>1
 |.pick _ _=>1
 |.two _ _ _ _=>1
def cRs:List Rw->Nat
 |[]=>0
 |r::rs=>cR r+cRs rs
end
theorem cq:∀{a b:List Rw},cRs (a++b)=cRs a+cRs b
 |[],b=>by simp[cRs]
 |r::a,b=>by simp only[Qn,cRs,cq];lia
theorem Fd{r:Rw}(h:cK names m many r):cR r=1:=by
 cases r with
 |ifr=>exact h.elim
 |again=>exact h.elim
 |_=>simp only[cR]
def Rv(rm:eg)(M:Mem)(v:Int):Prop:=M rm=ap (.lst [.int v])/\0<=v
def Kp(k:Pt)(rm:eg)(M M':Mem):Prop:=Has k M'/\(∃v:Int,M' rm=ap (.lst [.int v]))/\∀b o,b≠k.p->b≠k.q->b≠rm->M b=ap o->M' b=ap o
theorem Kp.trans{k:Pt}{M1 M2:Mem}(a:Kp k rm M M1)(b:Kp k rm M1 M2):Kp k rm M M2:=⟨b.1,b.2.1,λx o f e p h=>b.2.2 x o f e p (a.2.2 x o f e p h)⟩
structure Rm(k:Pt)(rm:eg)(M:Mem):Prop where
 h:Has k M
 n1:rm≠k.p
 n2:rm≠k.q
 v:∃v:Int,M rm=ap (.lst [.int v])
theorem Rm.kp{k:Pt}(r:Rm k rm M):Kp k rm M M:=⟨r.h,r.v,λ_ _ _ _ _ e=>e⟩
theorem Rm.go{k:Pt}(r:Rm k rm M)(d:Kp k rm M M'):Rm k rm M':=⟨d.1,r.n1,r.n2,d.2.1⟩
theorem Rm.dr{k:Pt}(r:Rm k rm M)(d:Dr k M M'):Kp k rm M M':=⟨d.1,by obtain⟨v,e⟩:=r.v;exact⟨v,by rw[d.2 rm r.n1 r.n2];exact e⟩,λb o h f _ e=>by rw[d.2 b h f];exact e⟩
theorem Rm.new{k:Pt}(r:Rm k rm M){l:eg}(f:M l=cm)(o:MO):Kp k rm M (M.upd l o):=by
 have a:=r.h.nep f;obtain⟨v,e⟩:=r.v;have b:rm≠l:=Mem.ne e f;exact⟨r.h.upd a,⟨v,by rw[ae b];exact e⟩,λc o _ _ _ e=>by rw[ae (Mem.ne e f)];exact e⟩
theorem Rm.set{k:Pt}(r:Rm k rm M)(v:Int):Kp k rm M (M.upd rm<|.lst [.int v]):=
 ⟨r.h.upd ⟨r.n1,r.n2⟩,⟨v,Mem.upd_same⟩,λc o _ _ h e=>by rw[ae h];exact e⟩
section
variable{k:Pt}
def PRo(ad:Ad)(k:Pt)(rm:eg)(names:Yv)(m many:Int)(n:Nat):Prop:=∀(deep:Nat)(most:Int)(M:Mem)(Q:DK)(E:DX),deep<=4->2*(4-deep)+1<=n->0<most->most<=30->Rm k rm M->∀v:Int,Rv rm M v->
 (∀(rs:List Rw)(M':Mem),(∃v',Rv rm M' v'/\(cRs rs:Int)+v'<=v)->bf names m many rs/\eW rs->ei rs+deep<=4->rs.length<=100->Kp k rm M M'->Q (.tup<|aA rs) M')->Wb ad n [.ref k.p,iV names m many,.ref rm,.int deep,.int most] M Q E
def PBl(ad:Ad)(k:Pt)(rm:eg)(names:Yv)(m many:Int)(n:Nat):Prop:=∀(deep:Nat)(M:Mem)(Q:DK)(E:DX),deep<4->2*(4-deep)<=n->Rm k rm M->∀v:Int,Rv rm M v->
 (∀(rs:List Rw)(l:eg)(M':Mem),(∃v',Rv rm M' v'/\(cRs rs:Int)+v'<=v+4)->bf names m many rs/\eW rs->ei rs+deep<=4->rs.length<=3->Kp k rm M M'->M' l=cm->Q (.ref l) (M'.upd l<|.lst<|aA rs))->Wc ad n [.ref k.p,iV names m many,.ref rm,.int deep] M Q E
theorem OkRs_append:∀{a b:List Rw},bf names m many (a++b)↔bf names m many a/\bf names m many b
 |[],b=>by simp[bf]
 |r::a,b=>by simp[bf,OkRs_append,and_assoc]
theorem ck:∀{a b:List Rw},ei (a++b)=max (ei a) (ei b)
 |[],b=>by simp[ei]
 |r::a,b=>by simp only[Qn,ei,ck,Nat.max_assoc]
theorem bq:∀{a b:List Rw},aA (a++b)=aA a++aA b
 |[],b=>rfl
 |r::a,b=>by simp[aA,bq]
theorem bz:∀{a:List Rw},(aA a).length=a.length
 |[]=>rfl
 |r::a=>by simp[aA,bz]
theorem vV{r:Rw}(h:cK names m many r):cA names m many r:=by
 cases r with
 |ifr=>exact h.elim
 |again=>exact h.elim
 |_=>simpa only[cA] using h
theorem C1{r:Rw}(h:cK names m many r):hR r=0:=by
 cases r with
 |ifr=>exact h.elim
 |again=>exact h.elim
 |_=>simp only[hR]
theorem uP{r:Rw}(h:cK names m many r):N6 r:=by
 cases r with
 |ifr=>exact h.elim
 |again=>exact h.elim
 |_=>simp only[N6]
theorem uA(ht:ToldOk names m many)(ih:PRo ad k rm names m many n):PBl ad k rm names m many (n+1):=by
 intro e M Q E hd hn r v Y h;obtain⟨m2,m1,n0,n1,k0,k1⟩:=ht;have dd:(e:Int)+1=((e+1:Nat):Int):=by lia
 simp![NI,y3,iV,PQ];refine am r.h (by lia) (by lia) λr1 M1 a1 b1 G=>?_
 have R1:=r.go (r.dr G);have R:Rv rm M1 v:=⟨by rw[G.2 rm r.n1 r.n2];exact Y.1,Y.2⟩
 obtain⟨x,A,ex⟩:=aI a1 b1;simp![ex,dd];refine ar λQ' E' W _=>ih (e+1) 5 M1 Q' E' (by lia) (by lia) (by decide) (by decide) R1 v R λfirst M2 c2 B h2 l2 d2=>W _ _ ?_
 obtain⟨v2,H,c2⟩:=c2;have R2:=R1.go d2;simp![];refine am R2.h (by decide) (by decide) λw M3 a3 b3 J=>?_
 have R3:=R2.go (R2.dr J);have p:Rv rm M3 v2:=⟨by rw[J.2 rm r.n1 r.n2];exact H.1,H.2⟩
 simp![dd]
 by_cases hw:w<2
 .rw[if_pos hw]
  refine ar λQ' E' W _=>ih (e+1) 5 M3 Q' E' (by lia) (by lia) (by decide) (by decide) R3 v2 p λf M4 c4 X h4 l4 I=>W _ _ ?_
  obtain⟨v4,S,c4⟩:=c4;simp![];refine⟨aX (by decide),aX (by decide),λl F=>ak (h [.ifr x first f] l M4 ⟨v4,S,by simp only[cRs,cR];lia⟩ ?_ ?_ (by simp) ((r.dr G).trans<|d2.trans<|(R2.dr J).trans I) F)⟩
  .simp only[bf,cA,eW,N6];exact⟨⟨⟨A,B.1,X.1⟩,trivial⟩,⟨⟨by lia,B.2⟩,by lia,X.2⟩,trivial⟩
  .simp only[ei,hR];lia
 .rw[if_neg hw]
  by_cases O:w=2
  .rw[if_pos O]
   refine⟨aX (by decide),aX (by decide),λl F=>ak (h [.again x first] l M3 ⟨v2,p,by simp only[cRs,cR];lia⟩ ?_ ?_ (by simp) ((r.dr G).trans<|d2.trans<|R2.dr J) F)⟩
   .simp only[bf,cA,eW,N6];exact⟨⟨⟨A,B.1⟩,trivial⟩,⟨by lia,B.2⟩,trivial⟩
   .simp only[ei,hR];lia
  .rw[if_neg O]
   simp only[PQ];refine am R3.h (by lia) (by lia) λr4 M4 a4 b4 I=>?_
   have R4:=R3.go (R3.dr I);obtain⟨y,hy,ey⟩:=aI a4 b4;simp![ey];refine am R4.h (by split<;>lia) (by split<;>lia) λr5 M5 a5 b5 Z=>?_
   have P:r5<m:=by split at b5<;>lia
   simp![];refine⟨aX (by decide),aX (by decide),aX (by decide),aX (by decide),aX (by rw[bz];lia),aX (by decide),aX (by decide),λl F=>ak ?_⟩
   have:=h [.put x r5,.put y (m-1),.again x (first++[.two "sum" x x y])] l M5 ⟨v2,⟨by rw[Z.2 rm r.n1 r.n2,I.2 rm r.n1 r.n2];exact p.1,p.2⟩,by simp only[cRs,cR,cq];lia⟩ ?_ ?_ (by simp) ((r.dr G).trans<|d2.trans<|(R2.dr J).trans<|(R3.dr I).trans<|R4.dr Z) F
   .simp only[aA,Rw.d,bq]at this
    exact this
   .simp only[bf,cA,cK,OkRs_append,eW,N6,LnRs_append]
    exact⟨⟨⟨A,a5,P⟩,⟨hy,by lia,by lia⟩,⟨A,B.1,⟨.inl trivial,A,A,hy⟩,trivial⟩,trivial⟩,trivial,trivial,⟨by simp;lia,B.2,trivial,trivial⟩,trivial⟩
   .simp only[ei,hR,ck];lia
theorem EA{r:Rw}:frz r.d M Q=Q r.d M:=by cases r<;>rfl
theorem nJ(ht:ToldOk names m many)(ih:PBl ad k rm names m many n):PRo ad k rm names m many (n+1):=by
 intro H most M Q E hd hn h0 h1 r V rV h;have ht':=ht;obtain⟨m2,m1,n0,n1,k0,k1⟩:=ht;simp![NE,zb,cL];refine⟨aX (by decide),λl hl=>?_⟩
 have R1:=r.go (r.new hl<|.lst []);refine am R1.h (by lia) (by lia) λcnt M1 a1 b1 d1=>?_
 have R2:=R1.go (R1.dr d1);have nel:=r.h.nep hl;simp![];refine⟨by lia,by lia,?_⟩
 refine cg (λxs U M'=>∃(j:Nat)(f:List Rw)(l:eg)(c6:Option D),(∃v',Rv rm M' v'/\(cRs f:Int)+v'<=V)/\xs.length+j<=30/\(∀x∈xs,∃i,x=D.int i)/\U=[ap (.ref k.p),ap (iV names m many),ap (.ref rm),ap (.int H),ap (.int most),ap (.ref l),c6]/\f.length<=3*j/\(bf names m many f/\eW f)/\ei f+H<=4/\
  Kp k rm M M'/\M' l=ap (.lst<|aA f)/\l≠k.p/\l≠k.q/\l≠rm/\M l=cm) (λ_ _ _ _=>aT) ?_ ?_ _ _ _ ⟨0,[],l,cm,⟨V,⟨?_,rV.2⟩,by simp[cRs]⟩,?_,?_,rfl,by simp,by simp only[bf,eW];exact⟨trivial,trivial⟩,by simp only[ei];lia,(r.new hl _).trans (R1.dr d1),?_,nel.1,nel.2,?_,hl⟩
 .rintro U M' ⟨j,f,l,c6,hcv,hj,hx,rfl,ha,F,hh,hk,hm,nl⟩
  simp![hm];exact ak (h f M' hcv F hh (by lia) hk)
 .rintro x xs U M' ⟨j,f,l,c6,⟨v,⟨hv,v0⟩,cv⟩,hj,hx,rfl,ha,F,hh,hk,hm,n1,n2,P,Y⟩ D' S _ _ _
  simp only[Qe]at hj;have X:∀y∈xs,∃i,y=D.int i:=λy hy=>hx y (Qf _ hy);have R:=r.go hk;have hfr:∀b o,M b=ap o->b≠l:=λb o e e'=>by rw[e',Y]at e;cases e
  simp![hv,FZ,ix0,hm]
  by_cases h4:4<v
  .rw[if_pos h4]
   by_cases h5:(H:Int)<4
   .rw[if_pos h5]
    refine am R.h (by decide) (by decide) λw M2 a2 b2 d2=>?_
    have hv2:M2 rm=ap (.lst [.int v]):=by rw[d2.2 rm r.n1 r.n2];exact hv
    have hm2:M2 l=ap (.lst<|aA f):=by rw[d2.2 l n1 n2];exact hm
    have W:Kp k rm M M2:=hk.trans (R.dr d2);simp![hv2,FZ,ix0,hm2]
    by_cases h6:w=0
    .rw[if_pos h6]
     have Z:=(r.go W).set (v-4);refine ar λQ' E' hq _=>ih H _ Q' E' (by lia) (by lia) ((r.go W).go Z) (v-4) ⟨Mem.upd_same,by lia⟩ λbl l2 M3 c3 A h3 len3 k3 nl3=>hq _ _ ?_
     obtain⟨v3,O,c3⟩:=c3;have hm3:M3 l=ap (.lst<|aA f):=k3.2.2 l _ n1 n2 P (by rw[ae P];exact hm2)
     simp![Mem.upd_del,aE nl3,hm3];refine⟨by rw[bz,bz];exact aX (by lia),λl3 G=>?_⟩
     have B:=(W.trans Z).trans k3;have R3:=r.go B;have ne3:=R3.h.nep G;have ner:l3≠rm:=by
      obtain⟨u,eu⟩:=R3.v;exact λe=>by rw[e,eu]at G;cases G
     have hM3:M l3=none:=by
      cases e:M l3 with
      |none=>rfl
      |some o=>rw[B.2.2 l3 o ne3.1 ne3.2 ner e]at G;cases G
     exact S _ _ ⟨j+1,f++bl,l3,_,⟨v3,⟨by rw[ae (Qu ner)];exact O.1,O.2⟩,by rw[cq];lia⟩,by lia,X,rfl,by simp;lia,⟨OkRs_append.mpr ⟨F.1,A.1⟩,LnRs_append.mpr ⟨F.2,A.2⟩⟩,by rw[ck];lia,B.trans (R3.new G _),by rw[Mem.upd_same,bq],ne3.1,ne3.2,ner,hM3⟩
    .rw[if_neg h6]
     have J:∀o,(M2.upd rm o) l=ap (.lst<|aA f):=λo=>by rw[ae P];exact hm2
     by_cases hz:0<v
     .rw[if_pos hz]
      have Z:=(r.go W).set (v-1);simp![J];refine ar λQ' E' hq _=>nB Z.1 ht' λI M3 A d3=>hq _ _ ?_;have G:M3 l=ap (.lst<|aA f):=by rw[d3.2 l n1 n2];exact J _
      have B:=(W.trans Z).trans (((r.go W).go Z).dr d3);have O:Rv rm (M3.upd l<|.lst (aA f++[I.d])) (v-1):=⟨by rw[ae (Qu P),d3.2 rm r.n1 r.n2,Mem.upd_same],by lia⟩
      have fin:D'.nx [ap (.ref k.p),ap (iV names m many),ap (.ref rm),ap (.int H),ap (.int most),ap (.ref l),ap x] (M3.upd l<|.lst (aA f++[I.d])):=by
       refine S _ _ ⟨j+1,f++[I],l,_,⟨v-1,O,by rw[cq];simp only[cRs,Fd A];lia⟩,by lia,X,rfl,by simp;lia,⟨OkRs_append.mpr ⟨F.1,by simp only[bf];exact⟨vV A,trivial⟩⟩,LnRs_append.mpr ⟨F.2,by simp only[eW];exact⟨uP A,trivial⟩⟩⟩,by rw[ck];simp only[ei,C1 A];lia,?_,by rw[Mem.upd_same,bq];rfl,n1,n2,P,Y⟩
       refine⟨B.1.upd ⟨n1,n2⟩,?_,λb o h1 h2 h3 e=>?_⟩
       .obtain⟨u,eu⟩:=B.2.1
        exact⟨u,by rw[ae (Qu P)];exact eu⟩
       .rw[ae (hfr b o e)];exact B.2.2 b o h1 h2 h3 e
      rw[EA];simp![G];exact⟨by rw[bz];exact ji (by lia),fin⟩
     .rw[if_neg hz]
      exact S _ _ ⟨j,f,l,_,⟨v,⟨hv2,v0⟩,cv⟩,by lia,X,rfl,by lia,F,hh,W,hm2,n1,n2,P,Y⟩
   .rw[if_neg h5]
    have J:∀o,(M'.upd rm o) l=ap (.lst<|aA f):=λo=>by rw[ae P];exact hm
    by_cases hz:0<v
    .rw[if_pos hz]
     have Z:=(r.go hk).set (v-1);simp![J];refine ar λQ' E' hq _=>nB Z.1 ht' λI M3 A d3=>hq _ _ ?_;have G:M3 l=ap (.lst<|aA f):=by rw[d3.2 l n1 n2];exact J _
     have B:=(hk.trans Z).trans (((r.go hk).go Z).dr d3);have O:Rv rm (M3.upd l<|.lst (aA f++[I.d])) (v-1):=⟨by rw[ae (Qu P),d3.2 rm r.n1 r.n2,Mem.upd_same],by lia⟩
     have fin:D'.nx [ap (.ref k.p),ap (iV names m many),ap (.ref rm),ap (.int H),ap (.int most),ap (.ref l),ap x] (M3.upd l<|.lst (aA f++[I.d])):=by
      refine S _ _ ⟨j+1,f++[I],l,_,⟨v-1,O,by rw[cq];simp only[cRs,Fd A];lia⟩,by lia,X,rfl,by simp;lia,⟨OkRs_append.mpr ⟨F.1,by simp only[bf];exact⟨vV A,trivial⟩⟩,LnRs_append.mpr ⟨F.2,by simp only[eW];exact⟨uP A,trivial⟩⟩⟩,by rw[ck];simp only[ei,C1 A];lia,?_,by rw[Mem.upd_same,bq];rfl,n1,n2,P,Y⟩
      refine⟨B.1.upd ⟨n1,n2⟩,?_,λb o h1 h2 h3 e=>?_⟩
      .obtain⟨u,eu⟩:=B.2.1
       exact⟨u,by rw[ae (Qu P)];exact eu⟩
      .rw[ae (hfr b o e)];exact B.2.2 b o h1 h2 h3 e
     rw[EA];simp![G];exact⟨by rw[bz];exact ji (by lia),fin⟩
    .rw[if_neg hz]
     exact S _ _ ⟨j,f,l,_,⟨v,⟨hv,v0⟩,cv⟩,by lia,X,rfl,by lia,F,hh,hk,hm,n1,n2,P,Y⟩
  .rw[if_neg h4]
   have J:∀o,(M'.upd rm o) l=ap (.lst<|aA f):=λo=>by rw[ae P];exact hm
   by_cases hz:0<v
   .rw[if_pos hz]
    have Z:=(r.go hk).set (v-1);simp![J];refine ar λQ' E' hq _=>nB Z.1 ht' λI M3 A d3=>hq _ _ ?_;have G:M3 l=ap (.lst<|aA f):=by rw[d3.2 l n1 n2];exact J _
    have B:=(hk.trans Z).trans (((r.go hk).go Z).dr d3);have O:Rv rm (M3.upd l<|.lst (aA f++[I.d])) (v-1):=⟨by rw[ae (Qu P),d3.2 rm r.n1 r.n2,Mem.upd_same],by lia⟩
    have fin:D'.nx [ap (.ref k.p),ap (iV names m many),ap (.ref rm),ap (.int H),ap (.int most),ap (.ref l),ap x] (M3.upd l<|.lst (aA f++[I.d])):=by
     refine S _ _ ⟨j+1,f++[I],l,_,⟨v-1,O,by rw[cq];simp only[cRs,Fd A];lia⟩,by lia,X,rfl,by simp;lia,⟨OkRs_append.mpr ⟨F.1,by simp only[bf];exact⟨vV A,trivial⟩⟩,LnRs_append.mpr ⟨F.2,by simp only[eW];exact⟨uP A,trivial⟩⟩⟩,by rw[ck];simp only[ei,C1 A];lia,?_,by rw[Mem.upd_same,bq];rfl,n1,n2,P,Y⟩
     refine⟨B.1.upd ⟨n1,n2⟩,?_,λb o h1 h2 h3 e=>?_⟩
     .obtain⟨u,eu⟩:=B.2.1
      exact⟨u,by rw[ae (Qu P)];exact eu⟩
     .rw[ae (hfr b o e)];exact B.2.2 b o h1 h2 h3 e
    rw[EA];simp![G];exact⟨by rw[bz];exact ji (by lia),fin⟩
   .rw[if_neg hz]
    exact S _ _ ⟨j,f,l,_,⟨v,⟨hv,v0⟩,cv⟩,by lia,X,rfl,by lia,F,hh,hk,hm,n1,n2,P,Y⟩
 .rw[d1.2 rm r.n1 r.n2,ae (Mem.ne rV.1 hl)];exact rV.1
 .simp[dU];lia
 .intro x hx
  simp only[dU,Qv]at hx;obtain⟨i,_,rfl⟩:=hx;exact⟨_,rfl⟩
 .rw[d1.2 l nel.1 nel.2,Mem.upd_same];rfl
 .obtain⟨v,e⟩:=r.v
  exact λe'=>by rw[e',e]at hl;cases hl
theorem jE(f:ToldOk names m many):∀n:Nat,PRo ad k rm names m many n/\PBl ad k rm names m many n
 |0=>⟨λe p M Q E _ h=>by lia,λe M Q E _ h=>by lia⟩
 |n+1=>⟨nJ f (jE f n).2,uA f (jE f n).1⟩
end
section
variable{k:Pt}
def Kq(k:Pt)(M M':Mem):Prop:=Has k M'/\∀b o,b≠k.p->b≠k.q->M b=ap o->M' b=ap o
theorem Kq.trans{M1 M2:Mem}(a:Kq k M M1)(b:Kq k M1 M2):Kq k M M2:=⟨b.1,λx o f e h=>b.2 x o f e (a.2 x o f e h)⟩
theorem Dr.kq(d:Dr k M M'):Kq k M M':=⟨d.1,λb o h f e=>by rw[d.2 b h f];exact e⟩
structure PlG(m many:Int)(names:Yv)(rows:List Rw)(mk:Str):Prop where
 t:ToldOk names m many
 nd:names.Nodup
 ok:bf names m many rows
 h:ei rows<=4
 cn:cRs rows<=60
 l:rows.length<=100
 ln:eW rows
 mkm:mk∈names
 one:∀x∈names,sx x
def iP(m many:Int)(names:Yv)(rows:List Rw)(mk:Str):D:=.tup [.int m,.tup (names.map D.str),.int many,.tup (aA rows),.str mk]
theorem AH(v0:0<=v)(v60:v<=60)(hp:Has k M)(h:∀(m many:Int)(names:Yv)(rows:List Rw)(mk:Str)(M':Mem),PlG m many names rows mk->(cRs rows:Int)<=v->Kq k M M'->Q (iP m many names rows mk) M'):A1 ad [.ref k.p,.int v] M Q E:=by
 simp![OG,xj];refine am hp (by decide) (by decide) λx1 M1 a1 b1 d1=>?_
 simp![];refine am d1.1 (by decide) (by decide) λx2 M2 a2 b2 d2=>?_
 simp![];refine⟨aX (by decide),λp f=>?_⟩
 rw[Mem.upd_del,aE f];refine am d2.1 (by decide) (by decide) λJ M3 a3 b3 d3=>?_
 obtain⟨m,em,m2,m1⟩:∃m:Int,atI [D.int 2,.int 3,.int (2+x1),.int (2+x2)] J=ap (.int m)/\2<=m/\m<=997:=by
  have:J=0\/J=1\/J=2\/J=3:=by lia
  rcases this with rfl|rfl|rfl|rfl
  .exact⟨2,by simp,by lia,by lia⟩
  .exact⟨3,by simp,by lia,by lia⟩
  .exact⟨2+x1,by simp,by lia,by lia⟩
  .exact⟨2+x2,by simp,by lia,by lia⟩
 simp![em];refine⟨aX (by decide),λp f=>?_⟩
 rw[Mem.upd_del,aE f];refine am d3.1 (by decide) (by decide) λW M4 a4 b4 d4=>?_
 obtain⟨w,ew,w2,w1⟩:∃m:Int,atI [D.int 3,.int 5,.int 12] W=ap (.int m)/\0<m/\m<=12:=by
  have:W=0\/W=1\/W=2:=by lia
  rcases this with rfl|rfl|rfl
  .exact⟨3,by simp,by lia,by lia⟩
  .exact⟨5,by simp,by lia,by lia⟩
  .exact⟨12,by simp,by lia,by lia⟩
 simp![ew];refine am d4.1 w2 (by lia) λx5 M5 a5 b5 d5=>?_
 simp![];obtain⟨nn,X⟩:∃nn:Nat,(1:Int)+x5=nn:=⟨(1+x5).toNat,by lia⟩
 rw[X];refine ar λQ' E' hq _=>uB d5.1 (by lia) λnames M6 n6 nd6 on6 d6=>hq _ _ ?_
 simp![];refine am d6.1 (by decide) (by decide) λx7 M7 a7 b7 d7=>?_
 simp![];refine am d7.1 (by decide) (by decide) λx8 M8 a8 b8 d8=>?_
 simp![];refine⟨aX (by decide),λp f=>?_⟩
 rw[Mem.upd_del,aE f];refine am d8.1 (by decide) (by decide) λS M9 a9 b9 d9=>?_
 obtain⟨many,ek,k0,k1⟩:∃m:Int,atI [D.int 0,.int (1+x7),.int x8] S=ap (.int m)/\0<=m/\m<=40:=by
  have:S=0\/S=1\/S=2:=by lia
  rcases this with rfl|rfl|rfl
  .exact⟨0,by simp,by lia,by lia⟩
  .exact⟨1+x7,by simp,by lia,by lia⟩
  .exact⟨x8,by simp,by lia,by lia⟩
 simp![ek];refine⟨aX (by decide),aX (by decide),λrm O=>⟨aX (by decide),λp f=>?_⟩⟩
 rw[Mem.upd_del,aE f];have D9:=d1.trans (d2.trans<|d3.trans<|d4.trans<|d5.trans<|d6.trans<|d7.trans<|d8.trans d9);have A:=d9.1.nep O;have R9:Rm k rm (M9.upd rm<|.lst [.int v]):=⟨d9.1.upd A,A.1,A.2,v,Mem.upd_same⟩;refine am R9.h (by decide) (by decide) λB M10 a10 b10 G=>?_
 have R10:=R9.go (R9.dr G);obtain⟨R,eo,o0,o1⟩:∃m:Int,atI [D.int 6,.int 12,.int 30] B=ap (.int m)/\0<m/\m<=30:=by
  have:B=0\/B=1\/B=2:=by lia
  rcases this with rfl|rfl|rfl
  .exact⟨6,by simp,by lia,by lia⟩
  .exact⟨12,by simp,by lia,by lia⟩
  .exact⟨30,by simp,by lia,by lia⟩
 simp![eo];have ht:ToldOk names m many:=⟨m2,m1,by lia,by lia,k0,k1⟩
 refine ar λQ' E' hq _=>(jE ht 24).1 0 R M10 Q' E' (by decide) (by decide) o0 o1 R10 v ⟨by rw[G.2 rm A.1 A.2,Mem.upd_same],v0⟩ λrows M11 P F h11 l11 H=>hq _ _ ?_
 obtain⟨v11,I,P⟩:=P;have v110:=I.2;simp![PQ];refine am H.1 (by lia) (by lia) λx12 M12 a12 Z Y=>?_
 obtain⟨mk,hmk,emk⟩:=aI a12 Z;simp![emk];refine⟨aX (by decide),ak<|h m many names rows mk M12 ⟨ht,nd6,F.1,by lia,by lia,l11,F.2,hmk,on6⟩ (by lia) ?_⟩
 refine D9.kq.trans (Kq.trans ?_ Y.kq);refine⟨H.1,λb o h1 h2 e=>?_⟩;have hb:b≠rm:=Mem.ne e O;have:=(R9.dr G).2.2 b o h1 h2 hb (by rw[ae hb];exact e)
 exact H.2.2 b o h1 h2 hb this
theorem vp(S:Has k M)(pl:PlG m many names rows mk)(h:∀(nums f:Yu)(M':Mem),nums.length=names.length->(f.length:Int)=many->(∀v∈nums,0<=v/\v<m)->(∀v∈f,0<=v/\v<m)->Kq k M M'->Q (bH nums f) M'):yF ad [.ref k.p,iP m many names rows mk] M Q E:=by
 have W:=pl.t.m1;have X:=pl.t.m2;have Y:=pl.t.n1;have Z:=pl.t.k0;have t5:=pl.t.k1;simp![Py,yS,iP,aY,atI_1];refine cT (λxs e U M'=>∃(nums:Yu)(A:Option D),xs.length+nums.length=names.length/\e=nums.map D.int/\U=[A,ap (.ref k.p),ap (iP m many names rows mk)]/\Dr k M M'/\∀v∈nums,0<=v/\v<m) (λ_ _ _ _ _=>aT) ?_ ?_ ?_ _ _ _ _ ⟨[],cm,by simp,rfl,rfl,S.refl,by simp⟩
 .rintro e U M' ⟨nums,A,P,rfl,rfl,R,hv⟩
  intro p G;simp![Mem.upd_del,aE G,atI_2];refine⟨by lia,by lia,?_⟩
  refine cT (λxs e U M'=>∃(ps:Yu)(A:Option D),xs.length+ps.length=many.toNat/\e=ps.map D.int/\U=[A,ap (.ref k.p),ap (iP m many names rows mk)]/\Dr k M M'/\∀v∈ps,0<=v/\v<m) (λ_ _ _ _ _=>aT) ?_ ?_ ?_ _ _ _ _ ⟨[],cm,by simp[dU],rfl,rfl,R,by simp⟩
  .rintro e U M' ⟨ps,A,B,rfl,rfl,F,w⟩
   intro p G;simp![Mem.upd_del,aE G];refine⟨aX (by decide),ak<|h nums ps M' (by simpa using P) (by simp at B;lia) hv w F.kq⟩
  .rintro x xs e U M' ⟨ps,A,B,rfl,rfl,F,w⟩ N I _
   simp![iP,atI_0];refine am F.1 (by lia) (by lia) λr M3 H J O=>?_
   simp![];simp only[Qe]at B;refine I _ _ _ (by simp;exact ji (by lia)) ⟨ps++[r],_,by simp;lia,by simp,rfl,F.trans O,λv hv=>?_⟩
   rcases QC.mp hv with hv|hv
   .exact w v hv
   .simp at hv;subst hv;exact⟨H,J⟩
  .rintro x xs e U M' ⟨ps,A,B,rfl,rfl,F,w⟩
   simp at B ⊢;exact ji (by lia)
 .rintro x xs e U M' ⟨ps,A,B,rfl,rfl,F,w⟩ N I _
  simp![iP,atI_0];refine am F.1 (by lia) (by lia) λr M3 H J O=>?_
  simp![];simp only[Qe]at B;refine I _ _ _ (by simp;exact ji (by lia)) ⟨ps++[r],_,by simp;lia,by simp,rfl,F.trans O,λv hv=>?_⟩
  rcases QC.mp hv with hv|hv
  .exact w v hv
  .simp at hv;subst hv;exact⟨H,J⟩
 .rintro x xs e U M' ⟨ps,A,B,rfl,rfl,F,w⟩
  simp at B ⊢;exact ji (by lia)
end
section
variable{te:bu}
theorem dk{tt:fG}{ok:Mem->Prop}{Q:List D->Mem->Prop}{b:BxC (ag 0) tt te ok Q}{rest:Dl}{c:Option D}{xs:List D}(p:D->Bool)(f:D->D)(R:ok M)(W:xs.length<=100000)(P:∀x∈xs,∀K:Bool->Mem->Prop,K (p x) M->tt (ap x::rest) M K)(S:∀x∈xs,p x=true->∀K:DK,K (f x) M->te (ap x::rest) M K)(h:Q ((xs.filter p).map f) M):
  cw (ag 0) tt te ok Q b xs [] (c::rest) M:=by
 refine cT (λF w U N=>∃(us:List D)(A:Option D),xs=us++F/\w=(us.filter p).map f/\U=A::rest/\M=N) (λ_ _ _ _ z=>by obtain⟨_,_,_,_,_,rfl⟩:=z;exact R) ?_ ?_ ?_ _ _ _ _ ⟨[],c,rfl,rfl,rfl,rfl⟩
 .rintro w U N ⟨us,A,e,rfl,rfl,rfl⟩
  rw[QO]at e;subst e;exact h
 .rintro y F w U N ⟨us,A,e,rfl,rfl,rfl⟩ N' I B
  have J:y∈xs:=by rw[e];simp
  have G:=congrArg R7 e;simp only[PX,Qe]at G;have O:=QH p us;simp only[ag,Qi];refine P y J _ ?_;cases H:p y with
  |true=>
   rw[if_pos rfl];exact S y J H _ (I _ _ _ (by rw[PQ];exact ji (by lia)) ⟨us++[y],_,by simp[e],by simp[H],rfl,rfl⟩)
  |false=>
   rw[if_neg (by simp)]
   exact B .non _ _ ⟨us++[y],_,by simp[e],by simp[H],rfl,rfl⟩
 .rintro y F w U N ⟨us,A,e,rfl,rfl,rfl⟩
  have G:=congrArg R7 e;simp only[PX,Qe]at G;have O:=QH p us;rw[PQ];exact ji (by lia)
theorem gj{ok:Mem->Prop}{Q:List D->Mem->Prop}{b:BxC (ag 0) dG te ok Q}{rest:Dl}{c:Option D}{xs:List D}(f:D->D)(p:ok M)(A:xs.length<=100000)(w:∀x∈xs,∀K:DK,K (f x) M->te (ap x::rest) M K)(h:Q (xs.map f) M):cw (ag 0) dG te ok Q b xs [] (c::rest) M:=by
 refine dk (λ_=>true) f p A (λx _ K q=>q) (λx e _=>w x e) ?_;rw[Sh.mpr λ_ _=>rfl];exact h
end
instance lawKey:LawfulBEq aG where
 eq_of_beq {a b} h:=by
  cases a<;>cases b
  .exact congrArg Rx (eq_of_beq (α:=Int) h)
  .cases h
  .cases h
  .exact congrArg Qr (eq_of_beq (α:=Str) h)
 rfl {a}:=by
  cases a
  .exact beq_self_eq_true (α:=Int) _
  .exact beq_self_eq_true (α:=Str) _
def kD:aG->D
 |.inl i=>.int i
 |.inr x=>.str x
theorem CY(n:Nat)(a:aG):bn n (kD a)=true:=by cases a<;>cases n<;>rfl
theorem x_(n:Nat):∀ks:List aG,bv n (ks.map kD)=true
 |[]=>by cases n<;>rfl
 |k::ks=>by simp only[PU,bv,CY,x_ n ks,Vi]
def mxD(ks:List aG):D:=.lst (ks.map kD)
structure Cse where
 w:Int
 many:Nat
 names:List Str
 rows:List Rw
 mn:Str
 most:Nat
structure Sta where
 nums:List Int
 pieces:List Int
def Sta.d(s:Sta):D:=bH s.nums s.pieces
def Cse.cf(C:Cse)(s:Sta):Cf:=⟨C.w,s.pieces,C.most⟩
def Cse.d(C:Cse):D:=.tup [.int C.w,.tup (C.names.map D.str),.int (C.many:Nat),.tup (aA C.rows),.str C.mn]
structure Cse.Ok(C:Cse):Prop where
 m2:2<=C.w
 m1:C.w<=997
 few:C.many<=100
 most:C.most<=10000
 nd:C.names.Nodup
 l0:0<C.names.length
 l1:C.names.length<=100
 ok:bf C.names C.w C.many C.rows
 h:ei C.rows<=7
 mn:C.mn∈C.names
structure SOk(C:Cse)(s:Sta):Prop where
 ln:s.nums.length=C.names.length
 lp:s.pieces.length=C.many
 rn:∀v∈s.nums,0<=v/\v<C.w
 rp:∀v∈s.pieces,0<=v/\v<C.w
def Cd(mk:Str)(r:Bool×Sx):D:=if r.1=true then .int (nm r.2.nums mk) else .non
def Cse.run(C:Cse)(s:Sta):Bool×Sx:=dj (C.cf s) C.names C.rows s.nums
def Cse.mark(C:Cse)(s:Sta):D:=Cd C.mn (C.run s)
section
theorem Cse.Ok.pl(o:C.Ok)(k:SOk C s):PlOk (C.cf s) C.names C.rows s.nums:=
 ⟨⟨o.m2,o.m1,k.rp,by show s.pieces.length<=1000;rw[k.lp];have:=o.few;lia,o.most⟩,k.ln.symm,o.nd,o.l0,by have:=o.l1;lia,k.rn,by show bf C.names C.w s.pieces.length C.rows;rw[k.lp];exact o.ok,o.h⟩
theorem SOk.pd(k:SOk C s):C.d=aU (C.cf s) C.names C.rows C.mn:=by unfold Cse.d aU Cse.cf;rw[k.lp]
theorem uJ(C:Cse)(s:Sta):C.mark s=.non\/∃v,C.mark s=.int v:=by
 unfold Cse.mark Cd
 split
 .exact .inr ⟨_,rfl⟩
 .exact .inl rfl
theorem ui(h:Q (C.mark s) M):frz (C.mark s) M Q:=by rcases uJ C s with e|⟨v,e⟩<;>rw[e]at h ⊢<;>exact h
theorem qk{mk:Str}:∀{names:Yv},mk∈names->∃j,names.findIdx? (λy=>decide (y=mk))=ap j/\names[j]?=ap mk
 |[],h=>by simp at h
 |x::names,h=>by
  by_cases e:x=mk
  .subst e;exact⟨0,by simp[Wa],rfl⟩
  .have p:mk∈names:=by
    rcases Ql.mp h with z|z
    .exact absurd z.symm e
    .exact z
   obtain⟨j,w,f⟩:=qk p;exact⟨j+1,by simp[Wa,e,w],by simpa using f⟩
theorem fA:∀names:List Str,jJ (names.map D.str)=ap names
 |[]=>rfl
 |x::names=>by rw[PU,jJ,fA names]
def AS(names:Yv)(r:Bool×Sx):D:=.tup [.lst (uZ r.2.steps),eL names r]
theorem Eo{b:BxQ EE λd M'=>vd d M' Q}(p:PlOk c names rows nums)(h:Q (AS names<|dj c names rows nums) M):
  calls (rD ad) EE [aU c names rows mk,bH nums c.pieces,.int (c.most:Nat)] M (λd M'=>vd d M' Q) b:=by
 refine ar λQ' E' w _=>EK p λl f=>w _ _ ?_;unfold AS eL at h;unfold eL;cases e:(dj c names rows nums).1 with
 |true=>
  rw[e,if_pos rfl]at h;rw[if_pos rfl];simp![Mem.upd_del,aE f];exact h
 |false=>
  rw[e,if_neg (by simp)]at h
  rw[if_neg (by simp)]
  simp![Mem.upd_del,aE f];exact h
theorem Bu(p:PlOk c names rows nums)(B:mk∈names)(h:Q (Cd mk<|dj c names rows nums) M):pb ad [aU c names rows mk,bH nums c.pieces,.int (c.most:Nat)] M Q E:=by
 have l1:=p.l1;obtain⟨j,w,f⟩:=qk B;simp![P1,zw];refine Eo p ?_;simp![AS,atI_1];unfold Cd at h;unfold eL;cases e:(dj c names rows nums).1 with
 |true=>
  rw[e,if_pos rfl]at h;rw[if_pos rfl];simp![aU,atI_1,atI_4,fA,w];refine⟨l1,?_⟩;have A:atI (names.map λx=>D.int (nm (dj c names rows nums).2.nums x)) (j:Nat)=ap (.int<|nm (dj c names rows nums).2.nums mk):=by
   rw[br (by lia),Qh,Qj,f];rfl
  simp![A];exact ak h
 |false=>
  rw[e,if_neg (by simp)]at h
  rw[if_neg (by simp)]
  simp![];exact ak h
theorem oY{b:BxQ EE Q}(o:C.Ok)(k:SOk C s)(h:Q (C.mark s) M):calls (pb ad) EE [C.d,s.d,.int (C.most:Nat)] M Q b:=by
 refine aP (d:=C.mark s) (λQ' E' q=>?_) h;rw[k.pd];exact Bu (o.pl k) o.mn q
def bI(C:Cse)(s t:Sta):D:=.tup [C.d,s.d,t.d,.int (C.most:Nat)]
theorem N9{C:Cse}{s t:Sta}:bI C s t=.tup [C.d,s.d,t.d,.int (C.most:Nat)]:=rfl
theorem Dd{C:Cse}:C.d=.tup [.int C.w,.tup (C.names.map D.str),.int (C.many:Nat),.tup (aA C.rows),.str C.mn]:=rfl
def cZ(C:Cse):List aG:=C.names.map Qr++(QG C.many).map λ(i:Nat)=>Rx (i:Int)
def aL(C:Cse)(s:Sta):aG->Int
 |.inl i=>(s.pieces[i.toNat]?).getD 0
 |.inr x=>nm (C.names.zip s.nums) x
theorem uN:∀{names:Yv}{nums:Yu}{j:Nat}{x:Str},names.Nodup->names.length=nums.length->names[j]?=ap x->nums[j]?=ap (nm (names.zip nums) x)
 |[],_,j,x,_,_,h=>by simp at h
 |y::names,[],j,x,_,h,_=>by simp at h
 |y::names,v::nums,0,x,nd,hl,h=>by
  simp at h;subst h;simp[nm,gN]
 |y::names,v::nums,j+1,x,nd,hl,h=>by
  simp only[PN]at h ⊢;have f:=RT.mp nd;have p:¬y=x:=λe=>f.1 (e▸SM h);rw[uN f.2 (by simpa using hl) h]
  simp[nm,gN,p]
theorem dZ{k:aG}(h:k∈cZ C):(∃x,x∈C.names/\k=.inr x)\/∃i:Nat,i<C.many/\k=.inl (i:Int):=by
 rcases QC.mp h with q|q
 .obtain⟨x,f,rfl⟩:=Qv.mp q
  exact .inl ⟨x,f,rfl⟩
 .obtain⟨i,e,rfl⟩:=Qv.mp q
  exact .inr ⟨i,Ri.mp e,rfl⟩
theorem cu(o:C.Ok)(k:SOk C s){t:aG}(f:t∈cZ C):0<=aL C s t/\aL C s t<C.w:=by
 rcases dZ f with⟨x,e,rfl⟩|⟨i,hi,rfl⟩
 .exact((o.pl k).nok.at e).2
 .exact((o.pl k).co.piece (i:=(i:Int).toNat)<|by show _<s.pieces.length;rw[k.lp];lia).2
theorem dI(o:C.Ok)(k:SOk C s){t:aG}(A:t∈cZ C)(h:Q (.int<|aL C s t) M):k7 ad [C.d,s.d,kD t] M Q E:=by
 have l1:=o.l1;rcases dZ A with⟨x,w,rfl⟩|⟨i,hi,rfl⟩
 .obtain⟨j,p,f⟩:=qk w
  have e:atI (s.nums.map D.int) (j:Nat)=ap (.int<|nm (C.names.zip s.nums) x):=by
   rw[br (by lia),Qh,Qj,uN o.nd k.ln.symm f];rfl
  simp![IQ,tS,kD,Cse.d,Sta.d,bH,jD,B1,atI_0,atI_1,fA,p,To,Us,Sk,RF,TJ];refine⟨by lia,?_⟩
  simp![e];exact ak h
 .have e:atI (s.pieces.map D.int) (i:Nat)=ap (.int<|(s.pieces[(i:Int).toNat]?).getD 0):=by
   rw[br (by lia),Qh,Qj,PV (by rw[k.lp];exact hi)];rfl
  simp![IQ,tS,kD,Cse.d,Sta.d,bH,jD,B1,atI_0,atI_1,e,To,Us,Sk,RF,TJ,U1,Sy];exact ak h
end
def lM(k:Wk)(c:Cf)(s:Sx)(M:Mem):Mem:=
 ((M.upd k.a<|.lst [.ref k.dn,.tup (c.pieces.map D.int),.ref k.ls,.int (c.most:Nat),.int c.m]).upd k.dn<|.dK<|dJ s.nums).upd k.ls (.lst<|uZ s.steps)
section
variable{k:Wk}{s:Sx}
theorem kh:lM k c s M k.a=ap (.lst [.ref k.dn,.tup (c.pieces.map D.int),.ref k.ls,.int (c.most:Nat),.int c.m]):=by
 unfold lM;rw[ae k.h2,ae k.h1,Mem.upd_same]
theorem jQ:lM k c s M k.dn=ap (.dK<|dJ s.nums):=by unfold lM;rw[ae k.h3,Mem.upd_same]
theorem IU:lM k c s M k.ls=ap (.lst<|uZ s.steps):=by unfold lM;rw[Mem.upd_same]
theorem Ek{x:List (List Int×Int)}:(lM k c s M).upd k.ls (.lst<|uZ x)=lM k c ⟨s.nums,x⟩ M:=by unfold lM;rw[Mem.upd_upd]
theorem FR{x:cC}:(lM k c s M).upd k.dn (.dK<|dJ x)=lM k c ⟨x,s.steps⟩ M:=by
 unfold lM;rw[aD (Qu k.h3),Mem.upd_upd]
theorem qR{pl:Yu}(f:c.most<=10000)(e:s.steps.length<=c.most)(h:Q (.bl (nt c pl v s).1) (lM k c (nt c pl v s).2 M)):
  jS ad [.ref k.a,gU pl,.int v] (lM k c s M) Q E:=by
 unfold nt at h;simp![OI,zV,kh,IU,atI_2,atI_3,uZ,PQ]
 by_cases q:s.steps.length<c.most
 .rw[if_pos q]at h
  rw[if_neg (by lia)]
  refine⟨aX (by decide),ji (by lia),ak ?_⟩
  rw[<- Ek]at h;simpa [uZ] using h
 .rw[if_neg q]at h
  rw[if_pos (by lia)]
  exact ak h
theorem cH{b:BxQ EE Q}{pl:Yu}(p:c.most<=10000)(e:s.steps.length<=c.most)(h:Q (.bl (nt c pl v s).1) (lM k c (nt c pl v s).2 M)):
  calls (jS ad) EE [.ref k.a,gU pl,.int v] (lM k c s M) Q b:=
 ar λ_ _ f _=>qR p e (f _ _ h)
theorem tH(p:COk c){i:Int}(f:0<=i)(h:i<c.pieces.length):atI (c.pieces.map D.int) i=ap (.int<|(c.pieces[i.toNat]?).getD 0):=by
 have e:i.toNat<c.pieces.length:=by lia
 rw[br f,Qj,PV e];rfl
theorem p_{r:Rw}(p:COk c)(A:NOk names c.m s.nums)(f:cK names c.m c.pieces.length r)(h:Q (.int<|num c s.nums r) (lM k c s M)):
  BL ad [.ref k.a,r.d] (lM k c s M) Q E:=by
 have m2:=p.m2;have m1:=p.m1;cases r with
 |put x kk=>
  simp![GD,vQ,Rw.d,↓uS,kh,jQ,atI_0,atI_2,atI_3,Ur];exact ak h
 |take x i=>
  simp![GD,vQ,Rw.d,↓uS,kh,jQ,atI_0,atI_2,atI_3,Ur,tH p f.2.1 f.2.2];exact ak h
 |pick x y=>
  have B:=(A.at f.2.1).1;have I:=f.2.2;have S:=Q0 (nm s.nums y) (show (c.pieces.length:Int)≠0 by lia)
  have X:=Q8 (nm s.nums y) I;simp![GD,vQ,Rw.d,↓uS,kh,jQ,atI_0,atI_2,atI_3,Ur,bX,B,QZ,PQ,tH p S X];exact⟨I,ak h⟩
 |two w x y z=>
  obtain⟨Y,Z,J,P⟩:=f;have B:=(A.at J).1;have R:=(A.at P).1;have ry:=(A.at J).2;have W:CMul (nm s.nums y) (nm s.nums z):=.inl ⟨by lia,by lia⟩
  have F:(w="put")=False/\(w="take")=False/\(w="pick")=False:=by
   rcases Y with rfl|rfl|rfl|rfl
   .exact⟨(eq_false<|by decide +kernel),(eq_false<|by decide +kernel),(eq_false<|by decide +kernel)⟩
   .exact⟨(eq_false<|by decide +kernel),(eq_false<|by decide +kernel),(eq_false<|by decide +kernel)⟩
   .exact⟨(eq_false<|by decide +kernel),(eq_false<|by decide +kernel),(eq_false<|by decide +kernel)⟩
   .exact⟨(eq_false<|by decide +kernel),(eq_false<|by decide +kernel),(eq_false<|by decide +kernel)⟩
  simp![GD,vQ,Rw.d,↓uS,kh,jQ,atI_0,atI_2,atI_3,bX,B,R,QZ,F.1,F.2.1,F.2.2];have e:Q (.int<|xw w (nm s.nums y) (nm s.nums z) c.m) (lM k c s M):=h;unfold xw at e
  by_cases H:w="sum"
  .rw[if_pos H]at e ⊢;exact⟨by lia,ak e⟩
  .rw[if_neg H]at e ⊢
   by_cases G:w="by"
   .rw[if_pos G]at e ⊢;exact⟨W,by lia,ak e⟩
   .rw[if_neg G]at e ⊢
    by_cases O:w="less"
    .rw[if_pos O]at e ⊢
     split<;>rename_i q
     .rw[if_pos q]at e;exact ak e
     .rw[if_neg q]at e;exact ak e
    .rw[if_neg O]at e ⊢
     split<;>rename_i q
     .rw[if_pos q]at e;exact ak e
     .rw[if_neg q]at e;exact ak e
 |ifr=>exact f.elim
 |again=>exact f.elim
theorem qc{b:BxQ EE Q}{r:Rw}{d:D}(e:d=r.d)(p:COk c)(w:NOk names c.m s.nums)(A:cK names c.m c.pieces.length r)(h:Q (.int<|num c s.nums r) (lM k c s M)):
  calls (BL ad) EE [.ref k.a,d] (lM k c s M) Q b:=
 e▸ar λ_ _ f _=>p_ p w A (f _ _ h)
end
section
variable{k:Wk}
def zH(ad:Ad)(k:Wk)(c:Cf)(names:Yv)(n:Nat):Prop:=∀(rs:List Rw)(pl:Yu)(s:Sx)(M:Mem)(Q:DK)(E:DX),bf names c.m c.pieces.length rs->2*ei rs+1<=n->pl.length+2*ei rs+2<=1000->NOk names c.m s.nums->s.steps.length<=c.most->
 Q (.bl (bS c rs pl 0 s).1) (lM k c (bS c rs pl 0 s).2 M)->Wd ad n [.ref k.a,.tup (aA rs),gU pl] (lM k c s M) Q E
def LI(ad:Ad)(k:Wk)(c:Cf)(names:Yv)(n:Nat):Prop:=∀(x:Str)(a:List Rw)(pl:Yu)(s:Sx)(M:Mem)(Q:DK)(E:DX),cA names c.m c.pieces.length (.again x a)->2*hR (.again x a)<=n->pl.length+2*hR (.again x a)+1<=1000->NOk names c.m s.nums->s.steps.length<=c.most->
 Q (.bl (fF c (.again x a) pl s).1) (lM k c (fF c (.again x a) pl s).2 M)->Wf ad n [.ref k.a,(Rw.again x a).d,gU pl] (lM k c s M) Q E
theorem rO(hc:COk c)(ih:zH ad k c names n):LI ad k c names (n+1):=by
 intro x a pl s M Q E H hn hpl G F h;simp only[cA]at H;simp only[hR]at hn hpl;have W:=hc.most;simp![Pb,zy,Rw.d,↓cL,kh,atI_3];refine⟨by lia,by lia,?_⟩
 unfold fF at h
 have Z:∀(f t:Nat)(s:Sx)(g:jB)(R:av)(DD:DEnds)(ok:Mem->Prop)(b:BxF g R DD ok)(xs:List D)(c3 c4:Option D),NOk names c.m s.nums->s.steps.length<=c.most->
   xs=(Tj t f).map (λ(i:Nat)=>D.int (0+(i:Int)))->(∀M,ok M)->g=ag 3->
   R=(ai (au (pX (ao<|ah cB (ah aw (ah aw (ac 0)<|dC<|.int 0)<|ah aw (ac 1)<|dC<|.int 1)<|dC<|.int 0) (dC<|.int 0)<|dC<|.int 1)<|ag 4)
    (ai (aN (k8<|eM<|aq<|aj (jS ad) (aB E) 3<|aa (ac 0)<|aa (ah aZ (ac 2)<|aM<|aa (ac 3) af)<|aa (ac 4) af) (aF<|dC<|.bl eC) aH)
    (ai (aN (ao<|ah cB (ac 4)<|dC<|.int 0) (aF<|dC<|.bl true) aH)
    (aN (k8<|eM<|aq<|aj (Wd ad n) (aB E) 3<|aa (ac 0)<|aa (ah aw (ac 1)<|dC<|.int 2)<|aa (ah aZ (ac 2)<|aM<|aa (ac 3) af) af) (aF<|dC<|.bl eC) aH))))->
   DD.rt=L3.drp Q->(∀U M',L3.drp Q (.bl eC) M'->DD.nx U M')->
   Q (.bl (e_ c x pl (λt s=>bS c a (pl++[(t:Int)]) 0 s) f t s).1) (lM k c (e_ c x pl (λt s=>bS c a (pl++[(t:Int)]) 0 s) f t s).2 M)->
   gY g R DD ok b xs [ap (.ref k.a),ap (.tup [.str "again",.str x,.tup (aA a)]),ap (gU pl),c3,c4] (lM k c s M):=by
  intro f
  induction f with
  |zero=>
   intro t s g R DD ok b xs c3 c4 G F P w X S p O h;subst P;exact⟨w _,O _ _<|ak h⟩
  |succ f ihf=>
   intro t s g R DD ok b xs c3 c4 G F P w X S p O h;subst P X;rw[Sa,PU];refine⟨w _,?_⟩;have hv:=G.at H.1;have hlk:(if nm s.nums x=0 then (0:Int) else 1)=lk s.nums x:=rfl
   subst S;simp![kh,jQ,atI_0,atI_1,bX,hv.1,QZ,TR,gU,PX,PQ];unfold e_ at h;have A:=(nt_gr (c:=c) (pl:=pl++[(t:Int)]) (v:=lk s.nums x) (s:=s)).2 F;have B:NOk names c.m (nt c (pl++[(t:Int)]) (lk s.nums x) s).2.nums:=by rw[eh];exact G
   by_cases e:nm s.nums x=0
   .have Y:lk s.nums x=0:=by unfold lk;rw[if_pos e]
    rw[Y]at h A B;rw[if_pos e];refine⟨aX (by decide),aX (by lia),?_⟩
    rw[bC];refine cH W F ?_;cases I:(nt c (pl++[(t:Int)]) 0 s).1 with
    |false=>
     rw[if_neg (by rw[I];simp),I]at h
     simp![p];exact ak h
    |true=>
     rw[if_pos I,if_neg (by decide),I]at h
     simp![p];exact ak h
   .have Y:lk s.nums x=1:=by unfold lk;rw[if_neg e]
    rw[Y]at h A B;rw[if_neg e];refine⟨aX (by decide),aX (by lia),?_⟩
    rw[bC];refine cH W F ?_;cases I:(nt c (pl++[(t:Int)]) 1 s).1 with
    |false=>
     rw[if_neg (by rw[I];simp),I]at h
     simp![p];exact ak h
    |true=>
     rw[if_pos I,if_pos rfl]at h;simp![p,TR,(show ((1:Int)=0)=False by simp),atI_2,gU,PX,PQ]
     refine⟨aX (by decide),aX (by lia),?_⟩
     rw[bC];refine ar λQ' E' hq _=>ih a (pl++[(t:Int)]) _ M Q' E' H.2 (by lia) (by simp;lia) B A (hq _ _ ?_)
     have X:=fh (c:=c) a (pl++[(t:Int)]) 0 (nt c (pl++[(t:Int)]) 1 s).2;cases J:(bS c a (pl++[(t:Int)]) 0 (nt c (pl++[(t:Int)]) 1 s).2).1 with
     |false=>
      rw[if_neg (by rw[J];simp),J]at h
      simp![p];exact ak h
     |true=>
      rw[if_pos J]at h;simp![];exact ihf (t+1) _ _ _ _ _ _ _ _ _ (dy hc a H.2 _ _ _ B) (X.2 A) rfl w rfl rfl p O h
 refine Z (c.most+1) 0 s _ _ _ _ _ _ _ _ G F ?_ (λ_=>aT) rfl rfl rfl (λ_ _ z=>?_) h
 .simp[dU,SK]
 .exact z
theorem Hu{r:Rw}{pl:Yu}{s:Sx}:jn c r pl s=if (nt c pl (num c s.nums r) s).1=true then (true,⟨sN s.nums (dY r) (num c s.nums r),(nt c pl (num c s.nums r) s).2.steps⟩) else nt c pl (num c s.nums r) s:=by
 unfold jn nt
 by_cases q:s.steps.length<c.most
 .simp[q]
 .simp[q]
theorem MG{s:Sx}{r:Rw}(f:NOk names c.m s.nums)(e:cK names c.m c.pieces.length r):dY r∈s.nums.map (·.1):=by
 rw[f.keys];cases r with
 |put x k=>exact e.1
 |take x k=>exact e.1
 |pick x k=>exact e.1
 |two w x y z=>exact e.2.1
 |ifr=>exact e.elim
 |again=>exact e.elim
theorem AX{r:Rw}(h:cK names m many r):∃w rest,r.d=.tup (.str w::.str (dY r)::rest)/\(w="again")=False/\(w="if")=False:=by
 cases r with
 |put x k=>exact⟨_,_,rfl,(eq_false<|by decide +kernel),(eq_false<|by decide +kernel)⟩
 |take x k=>exact⟨_,_,rfl,(eq_false<|by decide +kernel),(eq_false<|by decide +kernel)⟩
 |pick x k=>exact⟨_,_,rfl,(eq_false<|by decide +kernel),(eq_false<|by decide +kernel)⟩
 |two w x y z=>
  refine⟨_,_,rfl,?_⟩;rcases h.1 with rfl|rfl|rfl|rfl
  .exact⟨(eq_false<|by decide +kernel),(eq_false<|by decide +kernel)⟩
  .exact⟨(eq_false<|by decide +kernel),(eq_false<|by decide +kernel)⟩
  .exact⟨(eq_false<|by decide +kernel),(eq_false<|by decide +kernel)⟩
  .exact⟨(eq_false<|by decide +kernel),(eq_false<|by decide +kernel)⟩
 |ifr=>exact h.elim
 |again=>exact h.elim
theorem Gb{r:Rw}(h:cA names m many r)(e:bj r=true):cK names m many r:=by
 cases r<;>first|(simp only[cA]at h;exact h)|cases e
theorem Bv(hnl:names.length<=1000)(hc:COk c)(ihd:zH ad k c names n)(ihr:LI ad k c names n):zH ad k c names (n+1):=by
 intro rs pl s M Q E G hn hpl H I h;have hcm:=hc.most;simp![Ou,xF,↓cL,iK]
 refine cg (λxs U M'=>∃(F:List Rw)(j:Nat)(B:Sx)(c3 c4 X W Z Y:Option D),xs=eB j (aA F)/\U=[ap (.ref k.a),ap (.tup<|aA rs),ap (gU pl),c3,c4,X,W,Z,Y]/\M'=lM k c B M/\bf names c.m c.pieces.length F/\2*ei F+1<=n+1/\pl.length+2*ei F+2<=1000/\NOk names c.m B.nums/\B.steps.length<=c.most/\
  Q (.bl (bS c F pl j B).1) (lM k c (bS c F pl j B).2 M)) (λ_ _ _ _=>aT) ?_ ?_ _ _ _ ⟨rs,0,s,cm,cm,cm,cm,cm,cm,rfl,rfl,rfl,G,hn,hpl,H,I,h⟩
 .rintro U M' ⟨F,j,B,c3,c4,X,W,Z,Y,e1,rfl,rfl,G,hn,hpl,H,I,h⟩
  cases F with
  |nil=>
   simp only[bS]at h;simp![];exact ak h
  |cons r rs=>simp[aA,eB]at e1
 .rintro x xs U M' ⟨F,j,B,c3,c4,X,W,Z,Y,e1,rfl,rfl,G,hn,hpl,H,I,h⟩ D' hnx _ hrt _
  cases F with
  |nil=>simp[aA,eB]at e1
  |cons r F=>
   simp only[aA,eB,Ru]at e1;obtain⟨rfl,rfl⟩:=e1;simp only[bf]at G;have h1:hR r<=ei (r::F)/\ei F<=ei (r::F):=by simp only[ei];lia
   simp only[bS]at h;have hrt':D'.rt=L3.drp Q:=hrt;have go:(fF c r (pl++[(j:Int)]) B).1=true->∀c3 c4 X W Z Y,D'.nx [ap (.ref k.a),ap (.tup<|aA rs),ap (gU pl),c3,c4,X,W,Z,Y] (lM k c (fF c r (pl++[(j:Int)]) B).2 M):=λO c3 c4 X W Z Y=>by
    rw[if_pos O]at h;exact hnx _ _ ⟨F,j+1,_,c3,c4,X,W,Z,Y,rfl,rfl,rfl,G.2,by lia,by lia,qA hc r G.1 _ _ H,(pH r _ _).2 I,h⟩
   have A:(fF c r (pl++[(j:Int)]) B).1=eC->D'.rt (.bl eC) (lM k c (fF c r (pl++[(j:Int)]) B).2 M):=λO=>by
    rw[if_neg (by rw[O];simp),O]at h
    rw[hrt'];exact ak h
   by_cases J:bj r=true
   .have hrr:=Gb G.1 J
    have hkey:=MG H hrr;obtain⟨w,rest,er,hw1,hw2⟩:=AX hrr;rw[bY J,Hu]at go A;simp![er,gU,PX,PQ,atI_0,hw1,hw2];refine⟨aX (by decide),aX (by lia),?_⟩
    refine qc er.symm hc H hrr ?_;simp![];rw[bC];refine cH hcm I ?_;cases O:(nt c (pl++[(j:Int)]) (num c B.nums r) B).1 with
    |false=>
     rw[if_neg (by rw[O];simp)]at A
     simp![];exact A O
    |true=>
     rw[if_pos O]at go;have hlen:(dJ B.nums).length<sizeLine:=by rw[dJ,PQ,<- PQ (f:=(·.1)),H.keys];exact ji (by lia)
     have e2:=FR (k:=k) (c:=c) (s:=(nt c (pl++[(j:Int)]) (num c B.nums r) B).2) (M:=M) (x:=sN B.nums (dY r) (num c B.nums r));simp![er,kh,jQ,atI_0,atI_1,eh];refine⟨hlen,?_⟩;rw[lH (v:=num c B.nums r) hkey,e2];exact go rfl _ _ _ _ _ _
   cases r with
   |again x a=>
    simp![Rw.d,gU,PX,PQ,atI_0];refine⟨aX (by decide),aX (by lia),?_⟩
    rw[bC];refine ar λQ' E' hq _=>ihr x a (pl++[(j:Int)]) B M Q' E' G.1 (by lia) (by simp;lia) H I (hq _ _ ?_)
    cases O:(fF c (.again x a) (pl++[(j:Int)]) B).1 with
    |true=>simp![];exact go O _ _ _ _ _ _
    |false=>simp![];exact A O
   |ifr x a b=>
    simp only[cA]at G;simp only[hR]at h1;have hv:=H.at G.1.1;simp![Rw.d,gU,PX,PQ,atI_0,atI_1,atI_2,atI_3,kh,jQ,bX,hv.1,QZ];refine⟨aX (by decide),aX (by lia),?_⟩
    by_cases e:nm B.nums x=0
    .have hl:lk B.nums x=0:=by unfold lk;rw[if_pos e]
     rw[if_pos e];refine⟨aX (by decide),λp hp=>?_⟩
     rw[Mem.upd_del,aE hp,bC];refine cH hcm I ?_;have eX:fF c (.ifr x a b) (pl++[(j:Int)]) B=if (nt c (pl++[(j:Int)]) 0 B).1=true then bS c b (pl++[(j:Int)]++[0]) 0 (nt c (pl++[(j:Int)]) 0 B).2 else nt c (pl++[(j:Int)]) 0 B:=by
      unfold fF;rw[hl];rfl
     rw[eX]at go A;have P:=(nt_gr (c:=c) (pl:=pl++[(j:Int)]) (v:=0) (s:=B)).2 I;have R:NOk names c.m (nt c (pl++[(j:Int)]) 0 B).2.nums:=by rw[eh];exact H
     cases O:(nt c (pl++[(j:Int)]) 0 B).1 with
     |false=>
      rw[if_neg (by rw[O];simp)]at A
      simp![];exact A O
     |true=>
      rw[if_pos O]at go A;simp![gU,PX,PQ];refine⟨aX (by decide),aX (by lia),?_⟩
      rw[bC];refine ar λQ' E' hq _=>ihd b (pl++[(j:Int)]++[0]) _ M Q' E' G.1.2.2 (by lia) (by simp;lia) R P (hq _ _ ?_)
      cases S:(bS c b (pl++[(j:Int)]++[0]) 0 (nt c (pl++[(j:Int)]) 0 B).2).1 with
      |false=>simp![];exact A S
      |true=>simp![];exact go S _ _ _ _ _ _
    .have hl:lk B.nums x=1:=by unfold lk;rw[if_neg e]
     rw[if_neg e];refine⟨aX (by decide),λp hp=>?_⟩
     rw[Mem.upd_del,aE hp,bC];refine cH hcm I ?_;have eX:fF c (.ifr x a b) (pl++[(j:Int)]) B=if (nt c (pl++[(j:Int)]) 1 B).1=true then bS c a (pl++[(j:Int)]++[1]) 0 (nt c (pl++[(j:Int)]) 1 B).2 else nt c (pl++[(j:Int)]) 1 B:=by
      unfold fF;rw[hl];rfl
     rw[eX]at go A;have P:=(nt_gr (c:=c) (pl:=pl++[(j:Int)]) (v:=1) (s:=B)).2 I;have R:NOk names c.m (nt c (pl++[(j:Int)]) 1 B).2.nums:=by rw[eh];exact H
     cases O:(nt c (pl++[(j:Int)]) 1 B).1 with
     |false=>
      rw[if_neg (by rw[O];simp)]at A
      simp![];exact A O
     |true=>
      rw[if_pos O]at go A;simp![gU,PX,PQ];refine⟨aX (by decide),aX (by lia),?_⟩
      rw[bC];refine ar λQ' E' hq _=>ihd a (pl++[(j:Int)]++[1]) _ M Q' E' G.1.2.1 (by lia) (by simp;lia) R P (hq _ _ ?_)
      cases S:(bS c a (pl++[(j:Int)]++[1]) 0 (nt c (pl++[(j:Int)]) 1 B).2).1 with
      |false=>simp![];exact A S
      |true=>simp![];exact go S _ _ _ _ _ _
   |put x kk=>exact absurd rfl J
   |take x kk=>exact absurd rfl J
   |pick x y=>exact absurd rfl J
   |two w x y z=>exact absurd rfl J
theorem rC(e:names.length<=1000)(f:COk c):∀n:Nat,zH ad k c names n/\LI ad k c names n
 |0=>⟨λrs pl s M Q E _ h=>by lia,λx a pl s M Q E _ h=>by simp only[hR]at h;lia⟩
 |n+1=>by
  obtain⟨p,w⟩:=rC e f n;exact⟨Bv e f p w,rO f p⟩
end
section
theorem JP{k:Wk}{s:Sx}(h:M k.a=cm)(p:M k.dn=cm):∀b o,(M.upd k.ls<|.lst<|uZ s.steps) b=ap o->lM k c s M b=ap o:=by
 intro b o e
 by_cases f:b=k.ls
 .subst f;rw[Mem.upd_same]at e;rw[IU];exact e
 .rw[ae f]at e
  unfold lM;rw[ae f,ae (Mem.ne e p),ae (Mem.ne e h)];exact e
theorem tV(p:PlOk c names rows nums)(h:∀l,M l=cm->Q (.tup [.ref l,eL names (dj c names rows nums)]) (M.upd l<|.lst<|uZ (dj c names rows nums).2.steps)):
  mQ ad [aU c names rows mk,bH nums c.pieces,.int (c.most:Nat)] M Q E:=by
 have hl1:=p.l1;simp![Pv,yU,aU,bH,atI_0,atI_1,atI_3,eE,PQ];refine⟨p.ln,p.l0,p.l1,λdn S=>?_⟩;simp![fO p.ln p.nd];refine⟨aX (by decide),λls e=>⟨aX (by decide),λa F=>⟨aX (by decide),?_⟩⟩⟩
 have W:dn≠ls:=by rintro rfl;rw[Mem.upd_same]at e;cases e
 have O:M ls=none:=by rw[ae (Qu W)]at e;exact e
 have n2:a≠ls:=by rintro rfl;rw[Mem.upd_same]at F;cases F
 have n1:a≠dn:=by rintro rfl;rw[ae W,Mem.upd_same]at F;cases F
 have X:M a=none:=by rw[ae n2,ae n1]at F;exact F
 obtain⟨k,I,J,H⟩:∃k:Wk,k.a=a/\k.dn=dn/\k.ls=ls:=⟨⟨a,dn,ls,n1,n2,W⟩,rfl,rfl,rfl⟩;have e0:((M.upd dn<|.dK<|dJ<|names.zip nums).upd ls<|.lst []).upd a (.lst [.ref dn,.tup (c.pieces.map D.int),.ref ls,.int (c.most:Nat),.int c.m])=lM k c ⟨names.zip nums,[]⟩ M:=by
  unfold lM;rw[I,J,H,aD (Qu n2),aD (Qu n1)];rfl
 rw[e0];have hD:=(rC (ad:=ad) (k:=k) p.l1 p.co 24).1 rows [] ⟨names.zip nums,[]⟩ M;have hn:NOk names c.m (dj c names rows nums).2.nums:=dy p.co rows p.ok [] 0 ⟨names.zip nums,[]⟩ p.nok;have G:=h ls O;subst I J H;have w:=JP (c:=c) (k:=k) (s:=(dj c names rows nums).2) X S;refine ar λQ' E' Y _=>hD Q' E' p.ok (by have:=p.h;lia) (by have:=p.h;simp;lia) p.nok (Rq _) (Y _ _ ?_)
 have er:bS c rows [] 0 ⟨names.zip nums,[]⟩=dj c names rows nums:=rfl;rw[er];unfold eL at G;cases Z:(dj c names rows nums).1 with
 |false=>
  rw[Z,if_neg (by simp)]at G
  simp![kh,atI_2];exact⟨aX (by decide),⟨_,w,G⟩⟩
 |true=>
  rw[Z,if_pos rfl]at G;simp![kh,atI_1,atI_2,↓aY]
  refine cT (λxs f U M'=>∃n1 n2 R,names=n1++n2/\xs=n2.map D.str/\f=n1.map (λx=>D.int (nm (dj c names rows nums).2.nums x))/\U=[R,ap (.ref k.a)]/\M'=lM k c (dj c names rows nums).2 M)
   (λ_ _ _ _ _=>aT) ?_ ?_ ?_ _ _ _ _ ⟨[],names,cm,rfl,rfl,rfl,rfl,rfl⟩
  .rintro f U M' ⟨n1,n2,R,A,B,rfl,rfl,rfl⟩ q Y
   have:n2=[]:=by cases n2 with|nil=>rfl|cons _ _=>simp at B
   subst this;have en:n1=names:=by simpa using A.symm
   subst en;simp![Mem.upd_del,aE Y];exact⟨aX (by decide),⟨_,w,G⟩⟩
  .rintro x xs f U M' ⟨n1,n2,R,A,B,rfl,rfl,rfl⟩ N hN _
   cases n2 with
   |nil=>simp at B
   |cons y n2=>
    simp only[PU,Ru]at B;obtain⟨rfl,rfl⟩:=B;have hy:=(hn.at (x:=y)<|by rw[A];simp).1
    have P:n1.length+n2.length+1=names.length:=by rw[A];simp;lia
    simp![kh,jQ,atI_0,bX,hy,QZ];exact hN _ _ _ (by rw[PQ];exact ji (by lia)) ⟨n1++[y],n2,_,by rw[A];simp,rfl,by simp,rfl,rfl⟩
  .rintro x xs f U M' ⟨n1,n2,R,A,B,rfl,rfl,rfl⟩
   have P:n1.length+n2.length=names.length:=by rw[A];simp
   rw[PQ];exact ji (by lia)
theorem sE{b:BxQ EE λd M'=>vd d M' Q}(p:PlOk c names rows nums)(h:Q (AS names<|dj c names rows nums) M):
  calls (mQ ad) EE [aU c names rows mk,bH nums c.pieces,.int (c.most:Nat)] M (λd M'=>vd d M' Q) b:=by
 refine ar λQ' E' w _=>tV p λl f=>w _ _ ?_;unfold AS eL at h;unfold eL;cases e:(dj c names rows nums).1 with
 |true=>
  rw[e,if_pos rfl]at h;rw[if_pos rfl];simp![Mem.upd_del,aE f];exact h
 |false=>
  rw[e,if_neg (by simp)]at h
  rw[if_neg (by simp)]
  simp![Mem.upd_del,aE f];exact h
end
theorem whT{f:fG}{e:av}{p:BxW f e D'}(w:∀K:Bool->Mem->Prop,K true M->f U M K)(h:e { D' with nx:=b_ f e D' p n,ct:=b_ f e D' p n,bk:=D'.nx } U M):b_ f e D' p (n+1) U M:=by
 unfold b_;refine w _ ?_;rw[if_pos rfl];exact h
theorem whF{e:fG}{f:av}{w:BxW e f D'}(p:∀K:Bool->Mem->Prop,K eC M->e U M K)(h:D'.nx U M):b_ e f D' w (n+1) U M:=by
 unfold b_;refine p _ ?_;rw[if_neg (by simp)]
 exact h
theorem cD{p:eg}{xs:List D}(e:M p=cm)(h:Q (.lst xs) M):frz (.ref p) (M.upd p<|.lst xs) Q:=by
 simp only[frz,Mem.upd_same,Mem.upd_del,aE e];exact h
section
variable{t:Sta}{ks:List aG}
def aC(C:Cse)(s t:Sta):List aG:=(cZ C).filter λk=>decide (aL C s k≠aL C t k)
theorem sX(o:C.Ok)(h:∀p,M p=cm->Q (.ref p) (M.upd p<|.lst<|(cZ C).map kD)):sy ad [C.d] M Q E:=by
 have l1:=o.l1;have few:=o.few;rw[Ni (n:=0)];unfold zL Cse.d;simp![atI_1,atI_2];intro F f;simp only[Mem.upd_del,aE f];refine⟨⟨by lia,by lia⟩,λG A=>?_⟩
 simp only[Mem.upd_del,aE A];refine⟨aX (by simp[dU];lia),λw B=>ak ?_⟩
 have:=h w B;have e:(cZ C).map kD=C.names.map D.str++dU 0 (VD (C.many:Nat)):=by simp only[cZ,dU,Sm,Ro,Qh];congr 1;exact Q6 λi _=>by simp[kD]
 rw[e]at this;exact this
theorem Eu(o:C.Ok)(G:SOk C s)(F:SOk C t)(h:∀p,M p=cm->Q (.ref p) (M.upd p<|.lst<|(aC C s t).map kD)):yy ad [C.d,s.d,t.d] M Q E:=by
 have l1:=o.l1;have few:=o.few;have H:(cZ C).length=C.names.length+C.many:=by simp[cZ]
 rw[NF (n:=0)];unfold zU;simp only[aF,aY,bK,aq,aj,aa,ac,af,PN,dt];refine⟨rfl,ar λQ' E' B _=>sX o λp f=>B _ _ (cD f ?_)⟩;simp only[aO,bN,bw,PU,Qt,Qn,Qo,PN,dt,Q4];refine dk (λd=>match cO d with|some k=>decide (aL C s k≠aL C t k)|none=>eC) id aT (by simp;lia) (λx w K q=>?_) (λx w _ K q=>q) ?_
 .obtain⟨k,A,rfl⟩:=Qv.mp w
  simp only[ao,ah,aq,aj,aa,ac,af,PN,dt];refine⟨rfl,aP (λ_ _ q=>dI o G A q) ?_⟩;refine⟨rfl,aP (λ_ _ q=>dI o F A q) ?_⟩;show bn 60 (.int _)=true/\bn 60 (.int _)=true/\_;refine⟨rfl,rfl,?_⟩;have e:cO (kD k)=ap k:=by cases k<;>rfl
  simp only[e]at q;simpa [dv,aR] using q
 .intro p f
  have e:(((cZ C).map kD).filter λd=>match cO d with|some k=>decide (aL C s k≠aL C t k)|none=>eC).map id=(aC C s t).map kD:=by
   rw[RA,Rk];congr 1;refine RZ λk _=>?_;cases k<;>rfl
  rw[e];exact ak (h p f)
theorem n8(o:C.Ok)(A:SOk C s)(w:SOk C t)(p:C.mark s=.int a)(B:C.mark t=.int b)(e:a≠b)(h:Q (.tup [.int a,.int b]) M):t7 ad [bI C s t] M Q E:=by
 rw[NN (n:=0)];unfold xR qS;generalize f:kx ad (aB E)=K;simp![bI,atI_0,atI_1,atI_2,atI_3];refine oY o A (ui ?_);rw[p];simp![];refine oY o w (ui ?_);rw[B];simp![Qi];rw[<- f];unfold kx qy;simp![e,decide_false];exact⟨aX (by decide),ak h⟩
theorem kj{m:D}(e:m=.non\/∃v,m=.int v)(h:Q (.str (if aR m (.int a)=true then "sound" else if aR m (.int b)=true then "faulty" else "other")) M):zn ad [.tup [.int a,.int b],m] M Q E:=by
 rcases e with rfl|⟨v,rfl⟩
 .simp![Jm,rB,atI_0,atI_1]
  exact ak h
 .simp![Jm,rB,atI_0,atI_1]
  simp only[aR,decide_eq_true_eq]at h
  split
  .rename_i q;rw[if_pos q]at h;exact ak h
  .rename_i q;rw[if_neg q]at h
   split
   .rename_i q;rw[if_pos q]at h;exact ak h
   .rename_i q;rw[if_neg q]at h;exact ak h
end
section
variable{κ:Type}[DecidableEq κ]
theorem HR{f:List (κ×D)}{k j:κ}{v:D}:(cU (eG f k v) j).isSome=(decide (j=k)||(cU f j).isSome):=by
 unfold eG
 split
 .rename_i h
  induction f with
  |nil=>simp at h
  |cons p r ih=>
   obtain⟨B,I⟩:=p;simp only[PU,cU,Rb] at*
   by_cases e:B=k
   .subst e
    by_cases w:B=j
    .subst w;simp
    .have F:¬j=B:=λz=>w z.symm
     simp only[if_pos,w,decide_false,F,RF]
     by_cases G:(r.any λA=>decide (A.1=B))=true
     .have:=ih G
      simp only[F,decide_false,RF]at this;exact this
     .have:r.map (λA=>if A.1=B then (A.1,v) else A)=r:=by
       conv=>rhs;rw[<- RA r]
       refine Q6 λq H=>?_;have:¬q.1=B:=λz=>G (List.any_eq_true.mpr ⟨q,H,by simp[z]⟩)
       simp[this]
      rw[this]
   .rw[if_neg e]
    by_cases w:B=j
    .subst w;simp
    .simp only[w,decide_false]
     exact ih (by simpa [e] using h)
 .rename_i h
  unfold cU;rw[List.find?_append];cases q:f.find? λA=>decide (A.1=j) with
  |some x=>simp
  |none=>
   by_cases e:j=k
   .subst e;simp
   .have w:¬k=j:=λz=>e z.symm
    simp[e,w]
theorem mK{f:List (κ×D)}{j:κ}:∀{a0:List (κ×D)},(cU (f.foldl (λa p=>eG a p.1 p.2) a0) j).isSome=(decide (j∈f.map (·.1))||(cU a0 j).isSome):=by
 induction f with
 |nil=>simp
 |cons p r ih=>
  intro a0;rw[QW,ih,HR,PU]
  by_cases e:j=p.1
  .simp[e]
  .simp only[Ql,e,false_or,decide_false,RF]
theorem A3{f:List (κ×D)}:∀{a0:List (κ×D)},(a0.map (·.1)++f.map (·.1)).Nodup->f.foldl (λa p=>eG a p.1 p.2) a0=a0++f:=by
 induction f with
 |nil=>simp
 |cons p r ih=>
  intro a0 h;rw[QW];have e:eG a0 p.1 p.2=a0++[p]:=by
   unfold eG;rw[if_neg];intro z;obtain⟨q,w,e⟩:=List.any_eq_true.mp z;have e:=of_decide_eq_true e;rw[PU]at h;exact(Uo.mp h).2.2 q.1 (S2 w) p.1 Qm e
  rw[e,ih]
  .simp
  .simpa using h
end
def uD(u:List aG):List (aG×D):=u.map λk=>(k,D.bl true)
theorem lW:(uD u).map (·.1)=u:=by
 unfold uD;rw[Ro];exact RA u
theorem kA{k:aG}:(cU (uD u) k).isSome=decide (k∈u):=by
 have:=@mK aG _ (uD u) k [];rw[lW]at this
 induction u with
 |nil=>rfl
 |cons a r ih=>
  unfold uD cU;rw[PU,Rb]
  by_cases e:a=k
  .subst e;simp
  .have f:¬k=a:=λz=>e z.symm
   simp only[e,decide_false,Ql,f,false_or];exact ih (@mK aG _ (uD r) k [] |>.trans (by rw[lW]))
theorem sR{k:aG}:on (uD u) k=uD (u.filter λx=>decide (x≠k)):=by
 unfold on uD;rw[Rk];rfl
theorem jN:∀ks:List aG,sI (ks.map λk=>D.tup [kD k,.bl true])=ap (uD ks)
 |[]=>rfl
 |k::ks=>by
  have e:cO (kD k)=ap k:=by cases k<;>rfl
  simp only[PU,sI,e,jN ks];rfl
section
variable{t:Sta}
theorem eR{k:aG}:cO (kD k)=ap k:=by cases k<;>rfl
theorem qb{a:eg}{e:List (aG×D)}{k:aG}(h:M a=ap (.dK e)):qM M (kD k) (.ref a)=ap (cU e k).isSome:=by
 unfold qM;have:aO M (.ref a)=none:=by simp only[aO,h]
 rw[this];unfold pU;simp only[h,eR]
theorem qt{ks:List aG}(o:C.Ok)(P:ks.length<=1000)(h:∀p,M p=cm->Q (.ref p) (M.upd p<|.lst<|((cZ C).filter λk=>decide (k∈ks)).map kD)):yx ad [C.d,mxD ks] M Q E:=by
 have l1:=o.l1;have few:=o.few;have W:(cZ C).length=C.names.length+C.many:=by simp[cZ]
 rw[Px (n:=0)];unfold y0;generalize I:lF ad (aB E)=K;unfold mxD;simp only[ai,au,bF,aa,aq,aY,bK,ac,af,PN,dt,aO,bN,bw,PU,Qt,Qn,Qo];refine gj (λd=>.tup [d,.bl true]) aT (by simp;lia) (λx A K q=>?_) ?_
 .simp only[aM,aa,ac,dC,af,PN,dt]
  exact⟨aX (by simp),q⟩
 .intro p J
  refine cD J ?_;have e:(ks.map kD).map (λd=>D.tup [d,.bl true])=ks.map λk=>D.tup [kD k,.bl true]:=by simp
  rw[e];simp only[fH,BD,gR,jN];refine⟨trivial,by simp[uD];lia,λG F=>?_⟩
  simp only[ag,Qi];rw[<- I];unfold lF;simp only[aF,aY,bK,aq,aj,aa,ac,af,PN,dt];refine⟨rfl,ar λQ' E' O _=>sX o λR H=>O _ _ (cD H ?_)⟩;simp only[aO,bN,bw,PU,Qt,Qn,Qo,PN,dt,Q4];refine dk (λd=>match cO d with|some k=>decide (k∈ks)|none=>eC) id aT (by simp;lia) (λx A K q=>?_) (λx A _ K q=>q) ?_
  .obtain⟨k,P,rfl⟩:=Qv.mp A
   simp only[eR]at q;simp only[ao,ah,ac,PN,dt,Ck,qb (Mem.upd_same),mK,lW];simpa [cU] using q
  .intro f w
   have e:(((cZ C).map kD).filter λd=>match cO d with|some k=>decide (k∈ks)|none=>eC).map id=((cZ C).filter λk=>decide (k∈ks)).map kD:=by
    rw[RA,Rk];congr 1;refine RZ λk _=>?_;simp only[Function.comp,eR]
   rw[e];have n1:f≠G:=λz=>by rw[z,Mem.upd_same]at w;cases w
   rw[ae n1]at w;refine⟨M.upd f (.lst<|((cZ C).filter λk=>decide (k∈ks)).map kD),λb S e=>?_,h f w⟩
   by_cases B:b=f
   .subst B;rw[Mem.upd_same]at e ⊢;exact e
   .rw[ae B]at e ⊢
    rw[ae (λz=>by rw[z,F]at e;cases e)]
    exact e
def da:Rw->List Str
 |.pick _ y=>[y]
 |.two _ _ y z=>[y,z]
 |.ifr x _ _=>[x]
 |.again x _=>[x]
 |_=>[]
theorem mE{r:Rw}(A:cA names m many r)(h:∀p,M p=cm->Q (.ref p) (M.upd p<|.lst<|(da r).map D.str)):y9 ad [r.d] M Q E:=by
 cases r with
 |put x k=>simp![oX,iq,Rw.d,atI_0];exact⟨aX (by decide),λp e=>ak (h p e)⟩
 |take x i=>simp![oX,iq,Rw.d,atI_0];exact⟨aX (by decide),λp e=>ak (h p e)⟩
 |pick x y=>simp![oX,iq,Rw.d,atI_0];exact λp e=>ak (h p e)
 |two w x y z=>
  obtain⟨f,_⟩:=A;rcases f with rfl|rfl|rfl|rfl<;>(simp![oX,iq,Rw.d,atI_0];exact λp e=>ak (h p e))
 |ifr x a b=>simp![oX,iq,Rw.d,atI_0,atI_1];exact⟨aX (by decide),λp e=>ak (h p e)⟩
 |again x a=>simp![oX,iq,Rw.d,atI_0,atI_1];exact⟨aX (by decide),λp e=>ak (h p e)⟩
end
structure Gk where
 a:eg
 dn:eg
 lp:eg
 du:eg
 h1:a≠dn
 h2:a≠lp
 h3:a≠du
 h4:dn≠lp
 h5:dn≠du
 h6:lp≠du
structure Gs where
 n:cC
 ps:List Int
 u:List aG
 td:List Rw
 left:Int
def nM:List Rw->D
 |[]=>.non
 |r::rs=>.tup [r.d,nM rs]
def gF(k:Gk)(td:D)(left:Int):List (Str×D):=[("numbers",.ref k.dn),("pieces",.ref k.lp),("unsettled",.ref k.du),("todo",td),("left",.int left)]
def gM(ad:Ad)(k:Gk)(g:Gs)(M:Mem):Mem:=(((M.upd k.a<|.ins ad.C_Going<|gF k (nM g.td) g.left).upd k.dn<|.dK<|dJ g.n).upd k.lp<|.lst<|g.ps.map D.int).upd k.du (.dK<|uD g.u)
section
variable{k:Gk}
theorem gn:gM ad k g M k.du=ap (.dK<|uD g.u):=by unfold gM;rw[Mem.upd_same]
theorem ow:gM ad k g M k.lp=ap (.lst<|g.ps.map D.int):=by unfold gM;rw[ae k.h6,Mem.upd_same]
theorem fT:gM ad k g M k.dn=ap (.dK<|dJ g.n):=by unfold gM;rw[ae k.h5,ae k.h4,Mem.upd_same]
theorem cM:gM ad k g M k.a=ap (.ins ad.C_Going<|gF k (nM g.td) g.left):=by unfold gM;rw[ae k.h3,ae k.h2,ae k.h1,Mem.upd_same]
theorem ki{b:eg}(e:b≠k.a)(h:b≠k.dn)(f:b≠k.lp)(p:b≠k.du):gM ad k g M b=M b:=by
 unfold gM;rw[ae p,ae f,ae h,ae e]
structure Gk.Fr(k:Gk)(M:Mem):Prop where
 a:M k.a=cm
 dn:M k.dn=cm
 lp:M k.lp=cm
 du:M k.du=cm
theorem cb{b:eg}(h:gM ad k g M b=cm):b≠k.a/\b≠k.dn/\b≠k.lp/\b≠k.du/\M b=none:=by
 have e:b≠k.a:=λz=>by rw[z,cM]at h;cases h
 have p:b≠k.dn:=λz=>by rw[z,fT]at h;cases h
 have w:b≠k.lp:=λz=>by rw[z,ow]at h;cases h
 have f:b≠k.du:=λz=>by rw[z,gn]at h;cases h
 rw[ki e p w f]at h;exact⟨e,p,w,f,h⟩
theorem dE(f:k.Fr M){b:eg}(e:M b=ap o):gM ad k g M b=ap o:=by
 rw[ki (λz=>by rw[z,f.a]at e;cases e) (λz=>by rw[z,f.dn]at e;cases e) (λz=>by rw[z,f.lp]at e;cases e) (λz=>by rw[z,f.du]at e;cases e)]
 exact e
theorem qU(f:k.Fr M){b:eg}{h:MO}(e:M b=ap o):(gM ad k g M).upd b h=gM ad k g (M.upd b h):=by
 have n1:k.a≠b:=λz=>by rw[<- z,f.a]at e;cases e
 have n2:k.dn≠b:=λz=>by rw[<- z,f.dn]at e;cases e
 have w:k.lp≠b:=λz=>by rw[<- z,f.lp]at e;cases e
 have p:k.du≠b:=λz=>by rw[<- z,f.du]at e;cases e
 unfold gM;rw[aD p,aD w,aD n2,aD n1]
theorem zD:(gM ad k g M).upd k.a (.ins ad.C_Going<|gF k (nM td) left)=gM ad k { g with td:=td,left:=left } M:=by
 unfold gM;rw[aD (Qu k.h3),aD (Qu k.h2),aD (Qu k.h1),Mem.upd_upd]
theorem IJ{n:cC}:(gM ad k g M).upd k.dn (.dK<|dJ n)=gM ad k { g with n:=n } M:=by
 unfold gM;rw[aD (Qu k.h5),aD (Qu k.h4),Mem.upd_upd]
theorem Ng:(gM ad k g M).upd k.lp (.lst<|ps.map D.int)=gM ad k { g with ps:=ps } M:=by
 unfold gM;rw[aD (Qu k.h6),Mem.upd_upd]
theorem Ij:(gM ad k g M).upd k.du (.dK<|uD u)=gM ad k { g with u:=u } M:=by
 unfold gM;rw[Mem.upd_upd]
end
section
variable{k:Gk}{td:D}
theorem J1:Qy ("numbers":Str) (gF k td left)=ap (.ref k.dn):=rfl
theorem gf1:Qy ("pieces":Str) (gF k td left)=ap (.ref k.lp):=rfl
theorem J9:Qy ("unsettled":Str) (gF k td left)=ap (.ref k.du):=rfl
theorem Lv:Qy ("todo":Str) (gF k td left)=ap td:=rfl
theorem gf4:Qy ("left":Str) (gF k td left)=ap (.int left):=rfl
theorem gfs:Qy ("settled":Str) (gF k td left)=none:=rfl
theorem KN{d:D}:bJ "todo" d (gF k td left)=gF k d left:=rfl
theorem gfp4:bJ "left" (.int v) (gF k td left)=gF k td v:=rfl
theorem gfl:(gF k td left).length=5:=rfl
end
section
variable{t:Sta}
theorem eK(h:Q (nM (rs++td)) M):mj ad [.tup (aA rs),nM td] M Q E:=by
 rw[Pj (n:=0)];unfold xq;simp only[ai,cL,KB,aa,ac,af,PN,dt];refine cg (λA U N=>∃(c:Option D)(us p:List Rw),rs=us++p/\A=(aA us).reverse/\U=[ap (.tup<|aA rs),ap (nM (p++td)),c]/\N=M) (λ_ _ _ _=>aT) ?_ ?_ _ _ _ ⟨cm,rs,[],by simp,rfl,rfl,rfl⟩
 .rintro U N ⟨c,us,p,w,f,rfl,rfl⟩
  have:us=[]:=by
   cases us with
   |nil=>rfl
   |cons a b=>rw[aA]at f;simp at f
  subst this;rw[Qo]at w;subst w;simp only[aF,ac,PN,dt];exact ak h
 .rintro y A U N ⟨c,us,p,w,f,rfl,rfl⟩ D' B _ _ _
  obtain⟨e,r,rfl⟩:∃e r,us=e++[r]:=by
   rcases List.eq_nil_or_concat us with z|⟨e,r,z⟩
   .subst z;rw[aA]at f;simp at f
   .exact⟨e,r,by simpa using z⟩
  rw[gy,Sm,List.reverse_append]at f;simp only[PU,Qt,List.reverse_cons,List.reverse_nil,Qo,Qn,Ru]at f;obtain⟨rfl,rfl⟩:=f;simp only[ag,Qi];unfold qd;simp only[au,aM,aa,ac,af,ag,Qi,PN,dt];exact⟨aX (by simp),B _ _ ⟨_,e,r::p,by simp[w],by rw[gy],rfl,rfl⟩⟩
end
structure GOk(C:Cse)(g:Gs):Prop where
 n:NOk C.names C.w g.n
 lp:g.ps.length=C.many
 rp:∀v∈g.ps,0<=v/\v<C.w
 td:bf C.names C.w C.many g.td
def Gs.cf(C:Cse)(g:Gs):Cf:=⟨C.w,g.ps,C.most⟩
section
theorem GOk.pd(k:GOk C g):C.d=aU (g.cf C) C.names C.rows C.mn:=by unfold Cse.d aU Gs.cf;rw[k.lp]
theorem GOk.co(k:GOk C g)(o:C.Ok):COk (g.cf C):=⟨o.m2,o.m1,k.rp,by show g.ps.length<=_;rw[k.lp];have:=o.few;lia,o.most⟩
def xh(C:Cse)(n:cC):Rw->Option Int
 |.take _ i=>ap i
 |.pick _ y=>ap (nm n y % (C.many:Int))
 |_=>cm
def Ki(o:Option Int):D:=match o with
 |some i=>.int i
 |none=>.non
theorem gL{r:Rw}(h:cA names m many r)(e:bj r=true):cK names m many r:=by
 cases r<;>first|exact h|cases e
end
section
variable{t:Sta}{r:Rw}
theorem jV{p:eg}(k:GOk C g)(B:cA C.names C.w C.many r)(A:M p=ap (.dK<|dJ g.n))(h:Q (Ki<|xh C g.n r) M):mP ad [C.d,.ref p,r.d] M Q E:=by
 cases f:bj r with
 |true=>
  rw[k.pd];refine ci (c:=g.cf C) (names:=C.names) k.n (by have:=gL B f;rw[<- k.lp]at this;exact this) A ?_
  have e:((g.cf C).pieces.length:Int)=(C.many:Int):=by show ((g.ps.length:Nat):Int)=_;rw[k.lp]
  cases r with
  |pick x y=>
   show Q (.int<|nm g.n y % ((g.cf C).pieces.length:Int)) M;rw[e];exact h
  |_=>exact h
 |false=>
  cases r with
  |ifr x a b=>simp![oV,iw,Cse.d,Rw.d,atI_0,atI_2];exact ak h
  |again x a=>simp![oV,iw,Cse.d,Rw.d,atI_0,atI_2];exact ak h
  |_=>cases f
theorem uV{J:eg}(o:C.Ok)(k:GOk C g)(S:cA C.names C.w C.many r)(O:bj r=true)(X:M J=ap (.dK<|dJ g.n))(W:M lp=ap (.lst<|g.ps.map D.int))(h:Q (.int<|num (g.cf C) g.n r) M):
  mZ ad [C.d,.ref J,.ref lp,r.d] M Q E:=by
 have Z:=o.m1;have hm2:=o.m2;have hc:=k.co o;have e:=gL S O;have I:=k.lp;have A:∀i:Nat,i<C.many->(g.ps.map D.int)[i]?=ap (.int<|(g.ps[i]?).getD 0):=λi hi=>by
  rw[Qj,PV (by lia)];rfl
 have p:∀{K:DK},K (Ki<|xh C g.n r) M->∀Q' E',(∀d M,K d M->Q' d M)->mP ad [C.d,.ref J,r.d] M Q' E':=λ{K} q Q' E' f=>jV k S X (f _ _ q);have B:=@Dd C;cases r with
 |put x v=>
  simp![jU,fV,B,Rw.d,atI_0,atI_2];exact ak h
 |take x i=>
  obtain⟨P,H,h1⟩:=e;have G:=A i.toNat (by lia)
  rw[Rw.d]at p ⊢;simp![jU,fV,atI_0,atI_2];refine ar λQ' E' f _=>p (K:=λd M=>_) ?_ Q' E' f;simp![xh,Ki,W,br H,G];exact ak h
 |pick x y=>
  obtain⟨P,R,H⟩:=e;have g0:=Q0 (nm g.n y) (show (C.many:Int)≠0 by lia)
  have g1:=Q8 (nm g.n y) H;have G:=A (nm g.n y % (C.many:Int)).toNat (by lia)
  have Y:num (g.cf C) g.n (.pick x y)=(g.ps[(nm g.n y % (C.many:Int)).toNat]?).getD 0:=by show (g.ps[(nm g.n y % (g.ps.length:Int)).toNat]?).getD 0=_;rw[I]
  rw[Y]at h;rw[Rw.d]at p ⊢;simp![jU,fV,atI_0,atI_2];refine ar λQ' E' f _=>p (K:=λd M=>_) ?_ Q' E' f;simp![xh,Ki,W,br g0,G];exact ak h
 |two w x y z=>
  obtain⟨hw,P,R,hz⟩:=e;have a1:=k.n.at R;have a2:=k.n.at hz;have F:((w=QI "put")=False):=by rcases hw with rfl|rfl|rfl|rfl<;>exact eq_false (by decide +kernel)
  rw[Rw.d]at p ⊢;simp![jU,fV,atI_0,atI_2,F];refine ar λQ' E' f _=>p (K:=λd M=>_) ?_ Q' E' f;simp![xh,Ki,B,atI_0,atI_2,atI_3,X,bX,a1.1,a2.1,QZ];exact aP (d:=.int (num (g.cf C) g.n<|.two w x y z)) (λ_ _ q=>jZ (by lia) (by lia) (by lia) q) (ak h)
 |ifr=>cases O
 |again=>cases O
end
def dO(C:Cse)(g:Gs)(r:Rw):Option aG:=
 if g.u=[] then cm else match (cZ C).filter λk=>decide (k∈((da r).filter λx=>decide ((Qr x:aG)∈g.u)).map Qr) with
  |k::_=>ap k
  |[]=>match xh C g.n r with
   |some i=>if (Rx i:aG)∈g.u then ap (.inl i) else cm
   |none=>cm
def Bw:Option aG->D
 |some k=>kD k
 |none=>.non
section
variable{t:Sta}{r:Rw}{k:Gk}
theorem zp(h:cA names m many r):∀x∈da r,x∈names:=by
 cases r with
 |put=>simp[da]
 |take=>simp[da]
 |pick x y=>intro z e;simp[da]at e;subst e;exact h.2.1
 |two w x y z=>intro v f;simp[da]at f;rcases f with rfl|rfl;exact h.2.2.1;exact h.2.2.2
 |ifr x a b=>intro z e;simp[da]at e;subst e;exact h.1
 |again x a=>intro z e;simp[da]at e;subst e;exact h.1
theorem Du:(da r).length<=2:=by cases r<;>simp[da]
theorem JO:(uD u).isEmpty=u.isEmpty:=by cases u<;>rfl
theorem C5:qM (gM ad k g M) (.str x) (.ref k.du)=ap (decide ((Qr x:aG)∈g.u)):=by
 have:=qb (k:=.inr x) (gn (ad:=ad) (k:=k) (g:=g) (M:=M));rw[kA]at this;exact this
theorem ql(o:C.Ok)(ok:GOk C g)(W:cA C.names C.w C.many r)(h:Q (Bw<|dO C g r) (gM ad k g M)):yZ ad [C.d,.ref k.a,r.d] (gM ad k g M) Q E:=by
 have J:=zp W;have R:=Du (r:=r);rw[Ny (n:=0)];unfold w8;generalize I:k_ ad (aB E)=K5;simp only[ai,aN,k8,eM,b6,ac,PN,dt,cM,J9,J5,gn,JO];refine⟨trivial,?_⟩;unfold dO at h;cases hu:g.u with
 |nil=>
  rw[if_pos hu]at h;simp only[UA,SI,Bool.not_false,if_true,aF,dC];exact ak h
 |cons u0 ur=>
  rw[if_neg (by rw[hu];simp)]at h
  rw[if_neg (by simp)]
  simp only[aH];rw[<- I];unfold k_;generalize O:ly ad (aB E)=K4;simp only[ai,cE,df,aY,bK,aq,aj,aa,ac,af,PN,dt];refine⟨rfl,ar λQ' E' P _=>mE W λp f=>P _ _ (cD f ?_)⟩;simp only[aO,bN,bw,PU,Qt,Qn,Qo,PN,dt,Q4];refine dk (λd=>match d with|.str x=>decide ((Qr x:aG)∈g.u)|_=>eC) id aT (by simp;lia) (λx A K q=>?_) (λx A _ K q=>q) ?_
  .obtain⟨y,hy,rfl⟩:=Qv.mp A
   simp only[ao,ah,ac,b6,PN,dt,cM,J9,Ck,C5];exact⟨trivial,q⟩
  .intro p f
   generalize H:((da r).filter λx=>decide ((Qr x:aG)∈g.u))=fnd at h;have e:(((da r).map D.str).filter λd=>match d with|.str x=>decide ((Qr x:aG)∈g.u)|_=>eC).map id=(fnd.map Qr).map kD:=by
    rw[RA,Rk,<- H,Ro];rfl
   have hfn:∀x∈fnd,x∈C.names:=λx A=>by rw[<- H]at A;exact J x (Qa.mp A).1
   have hfl:fnd.length<=2:=by rw[<- H];exact Qp (QH _ _) R
   rw[e];simp only[fE,Qi,PN,dt];refine cD (Q:=λd M'=>K4 _ [ap C.d,ap (.ref k.a),ap r.d,ap d,cm] M') f ?_;rw[<- O];unfold ly;generalize S:kQ ad (aB E)=K3;simp only[ai,aN,eM,ac,PN,dt,J5];cases F:fnd with
   |nil=>
    have hz:((cZ C).filter λk=>decide (k∈(fnd.map Qr:List aG)))=[]:=by rw[F];simp
    rw[hz]at h;simp only[Qt,UA,SI];rw[if_neg (by simp)]
    simp only[aH];rw[<- S];unfold kQ pL;simp only[ai,au,aq,aj,aa,ac,af,b6,PN,dt,cM,J1];refine⟨trivial,rfl,aP (λ_ _ q=>jV ok W fT q) ?_⟩;cases f:xh C g.n r with
    |none=>
     simp only[f]at h;simp only[Ki,frz,ag,Qi,aF,pX,ao,ah,ac,dC,b6,PN,dt,cM,J9,BQ,wa,gn];refine⟨trivial,?_⟩;rw[if_neg (by simp)]
     exact ak h
    |some i=>
     simp only[f]at h;have G:=qb (k:=.inl i) (gn (ad:=ad) (k:=k) (g:=g) (M:=M));rw[kA]at G;simp only[kD]at G;simp only[Ki,frz,ag,Qi,aF,pX,ao,ah,ac,dC,b6,PN,dt,cM,J9,BQ,wa,G];refine⟨trivial,?_⟩
     by_cases c:(Rx i:aG)∈g.u
     .rw[if_pos c]at h
      rw[if_pos (by simpa using c)]
      exact ak h
     .rw[if_neg c]at h
      rw[if_neg (by simpa using c)]
      exact ak h
   |cons f0 fr=>
    have B:∃X Z,((cZ C).filter λk=>decide (k∈(fnd.map Qr:List aG)))=X::Z:=by
     have:(Qr f0:aG)∈(cZ C).filter λk=>decide (k∈(fnd.map Qr:List aG)):=by
      refine Qa.mpr ⟨TX _ (S2<|hfn f0<|by rw[F];simp),?_⟩
      rw[F];simp
     cases q:(cZ C).filter λk=>decide (k∈(fnd.map Qr:List aG)) with
     |nil=>rw[q]at this;cases this
     |cons a b=>exact⟨a,b,rfl⟩
    obtain⟨X,Z,Y⟩:=B;rw[Y]at h;simp only at h;have hne:((f0::fr).map (Qr:Str->aG)).map kD≠[]:=by simp
    rw[if_pos (by simp)]
    unfold ph;simp only[aF,ah,aq,aj,aa,ac,af,dC,PN,dt];refine⟨rfl,ar λQ' E' P _=>qt (ks:=(f0::fr).map Qr) o (by rw[<- F,PQ];lia) λp f=>P _ _ (cD f ?_)⟩
    rw[<- F,Y];simp only[aw,aO,PU,atI_0,dt];exact ak h
end
theorem okRs_app{names:Yv}{m many:Int}:∀{a b:List Rw},bf names m many (a++b)↔bf names m many a/\bf names m many b
 |[],b=>by simp[bf]
 |r::a,b=>by simp[bf,okRs_app,and_assoc]
def jP(C:Cse)(g:Gs)(rest:List Rw):Rw->Gs
 |.ifr x a b=>{ g with left:=g.left-1,td:=(if nm g.n x=0 then b else a)++rest }
 |.again x a=>{ g with left:=g.left-1,td:=if nm g.n x=0 then rest else a++(.again x a::rest) }
 |r=>{ g with left:=g.left-1,td:=rest,n:=sN g.n (dY r) (num (g.cf C) g.n r),u:=g.u.filter λk=>decide (k≠.inr (dY r)) }
theorem mm{r:Rw}:(jP C g rest r).left=g.left-1:=by cases r<;>rfl
section
variable{t:Sta}{r:Rw}{k:Gk}
theorem Cw(o:C.Ok)(ok:GOk C g)(f:cA C.names C.w C.many r)(e:bj r=true):0<=num (g.cf C) g.n r/\num (g.cf C) g.n r<C.w:=
 yG (ok.co o) (names:=C.names) ok.n (by have:=gL f e;rw[<- ok.lp]at this;exact this)
theorem qx(o:C.Ok)(ok:GOk C g)(e:g.td=r::rest):GOk C (jP C g rest r):=by
 have h:=ok.td;rw[e]at h;obtain⟨A,f⟩:=h;have p:bj r=true->GOk C { g with left:=g.left-1,td:=rest,n:=sN g.n (dY r) (num (g.cf C) g.n r),u:=g.u.filter λk=>decide (k≠.inr (dY r)) }:=λB=>
  ⟨CG (c:=g.cf C) ok.n (Cw o ok A B),ok.lp,ok.rp,f⟩
 cases r with
 |ifr x a b=>
  refine⟨ok.n,ok.lp,ok.rp,okRs_app.mpr ⟨?_,f⟩⟩
  split
  .exact A.2.2
  .exact A.2.1
 |again x a=>
  refine⟨ok.n,ok.lp,ok.rp,?_⟩;show bf _ _ _ (if nm g.n x=0 then rest else a++(.again x a::rest))
  split
  .exact f
  .exact okRs_app.mpr ⟨A.2,A,f⟩
 |put x v=>exact p rfl
 |take x v=>exact p rfl
 |pick x y=>exact p rfl
 |two w x y z=>exact p rfl
theorem vt(h:cK names m many r):dY r∈names:=by
 cases r with
 |put x v=>exact h.1
 |take x v=>exact h.1
 |pick x v=>exact h.1
 |two w x y z=>exact h.2.1
 |ifr=>exact h.elim
 |again=>exact h.elim
theorem Fb:Na (gM ad k g M) (.ref k.du)=true:=by simp only[Na,gn]
theorem Fs{k:aG}(h:k∉u):u.filter (λx=>decide (x≠k))=u:=Sh.mpr λx e=>by
 have:x≠k:=λz=>h (z▸e);simp[this]
theorem KO(o:C.Ok)(ok:GOk C g)(p:cA C.names C.w C.many r)(f:bj r=true)(h:D'.nx [ap C.d,ap (.ref k.a),ap r.d] (gM ad k { g with n:=sN g.n (dY r) (num (g.cf C) g.n r),u:=g.u.filter λk=>decide (k≠.inr (dY r)) } M)):
  gC ad EE D' [ap C.d,ap (.ref k.a),ap r.d] (gM ad k g M):=by
 have B:=vt (gL p f);have e:∀{M:Mem}{K:DK},K (.str<|dY r) M->aw r.d (.int 1) M K:=λq=>by
  cases r with
  |ifr=>cases f
  |again=>cases f
  |_=>simp only[Rw.d,aw,aO,atI_1,PN,dt];exact q
 have keys:dY r∈g.n.map (·.1):=by rw[ok.n.keys];exact B
 unfold gC pv;simp only[ai,au,aq,aj,aa,ac,af,b6,PN,dt,cM,J1,gf1];refine⟨trivial,trivial,rfl,aP (λ_ _ q=>uV o ok p f fT ow q) ?_⟩;simp only[frz,dq,b6,ah,ac,dC,PN,dt,cM,J1];refine⟨trivial,e ?_⟩;have A:(dJ g.n).length<sizeLine:=by
  have H:(dJ g.n).length=C.names.length:=by rw[<- ok.n.keys];simp[dJ]
  have:=o.l1;exact ji (by lia)
 simp only[my,fT,cO,lH keys,IJ];refine⟨A,?_⟩;simp only[bo,Ew,b6,ah,ac,dC,PN,dt,cM,J9,Fb];refine⟨trivial,trivial,e ?_⟩;simp only[gn,cO];cases F:cU (uD g.u) (.inr<|dY r) with
 |some v=>simp only[sR,Ij];exact h
 |none=>
  have G:(Qr (dY r):aG)∉g.u:=λz=>by
   have:=kA (u:=g.u) (k:=.inr (dY r));rw[F]at this;simp[z]at this
  rw[Fs G]at h;exact h
theorem vm(o:C.Ok)(ok:GOk C g)(e:g.td=r::rest)(h:Q .non (gM ad k (jP C g rest r) M)):xf ad [C.d,.ref k.a,r.d] (gM ad k g M) Q E:=by
 have G:=ok.td;rw[e]at G;obtain⟨H,A⟩:=G;have p:GOk C { g with td:=rest,left:=g.left-1 }:=⟨ok.n,ok.lp,ok.rp,A⟩;rw[Pw (n:=0)];unfold xa qm;generalize Y:kZ ad (aB E)=K;have O:nM g.td=.tup [r.d,nM rest]:=by rw[e];rfl
 have u1:=zD (ad:=ad) (k:=k) (g:=g) (M:=M) (td:=g.td) (left:=g.left-1);simp only[ai,qg,cy,b6,ah,ac,dC,PN,dt,cM,gf4,gfl,gfp4,u1];refine⟨trivial,by decide,trivial,trivial,?_⟩
 have Z:=zD (ad:=ad) (k:=k) (g:={ g with left:=g.left-1 }) (M:=M) (td:=rest) (left:=g.left-1);simp only[Lv,O,aw,aO,atI_1,PN,dt,cM,gfl,KN,Z];refine⟨trivial,by decide,?_⟩
 rw[<- Y];unfold kZ pT;have B:bj r=true->∀{D':DEnds}{EE:DX},D'.nx [ap C.d,ap (.ref k.a),ap r.d] (gM ad k (jP C g rest r) M)->gC ad EE D' [ap C.d,ap (.ref k.a),ap r.d] (gM ad k { g with td:=rest,left:=g.left-1 } M):=λF D' EE q=>KO o p H F (by
  cases r with
  |ifr=>cases F
  |again=>cases F
  |_=>exact q)
 generalize J:gC ad (aB E)=K5;have f:bj r=true->K5 { nx:=λ_ M'=>drp Q .non M',rt:=drp Q } [ap C.d,ap (.ref k.a),ap r.d] (gM ad k { g with td:=rest,left:=g.left-1 } M):=λF=>by
  rw[<- J];exact B F (ak h)
 cases r with
 |ifr x a b=>
  have I:x∈C.names:=H.1;have S:=(p.n.at I).1;have P:=λl=>zD (ad:=ad) (k:=k) (g:={ g with td:=rest,left:=g.left-1 }) (M:=M) (td:=l) (left:=g.left-1);have fin:∀l:List Rw,(jP C g rest<|.ifr x a b).td=l++rest->calls (mj ad) (aB E) [.tup (aA l),nM rest] (gM ad k { g with td:=rest,left:=g.left-1 } M) (λd M'=>frz d M' λy M1=>match M1 k.a with
    |some (MO.ins C' fs)=>C'=ad.C_Going/\fs.length<1000/\drp Q D.non (M1.upd k.a<|MO.ins ad.C_Going<|bJ (QI "todo") y fs)
    |_=>False) ⟨⟩:=λl X=>by
   refine aP (λ_ _ q=>eK q) ?_;have R:∀{l:List Rw}{M:Mem}{Q:DK},Q (nM l) M->frz (nM l) M Q:=λ{l} {M} {Q} q=>by cases l<;>exact q
   refine R ?_;simp only[cM,gfl,KN,P];rw[<- X];exact⟨trivial,by decide,ak h⟩
  simp only[Rw.d];simp![atI_0,atI_1,atI_2,atI_3,cM,J1,Lv,fT,bX,S,QZ]
  by_cases c:nm g.n x=0
  .simp only[c,decide_true,if_true]
   exact fin b (by simp only[jP,c,if_true])
  .simp only[c,decide_false]
   exact fin a (by simp only[jP,c,if_false])
 |again x a=>
  have I:x∈C.names:=H.1;have S:=(p.n.at I).1;have P:=λl=>zD (ad:=ad) (k:=k) (g:={ g with td:=rest,left:=g.left-1 }) (M:=M) (td:=l) (left:=g.left-1);simp only[Rw.d];simp![atI_0,atI_1,atI_2,cM,J1,Lv,fT,bX,S,QZ]
  by_cases c:nm g.n x=0
  .simp only[c,decide_true,SI]
   refine ak ?_;have:jP C g rest (.again x a)={ g with td:=rest,left:=g.left-1 }:=by simp only[jP,c,if_true]
   rw[<- this];exact h
  .simp only[c,decide_false,Bool.not_false,if_true]
   refine⟨aX (by decide),?_⟩
   refine aP (λ_ _ q=>eK (td:=.again x a::rest) q) ?_;have R:∀{l:List Rw}{M:Mem}{Q:DK},Q (nM l) M->frz (nM l) M Q:=λ{l} {M} {Q} q=>by cases l<;>exact q
   refine R ?_;simp only[ac,PN,dt,cM,gfl,KN,P];have:jP C g rest (.again x a)={ g with td:=a++(.again x a::rest),left:=g.left-1 }:=by simp only[jP,c,if_false]
   rw[<- this];exact⟨trivial,by decide,ak h⟩
 |put x v=>simp only[Rw.d]at f ⊢;simp![atI_0];exact f rfl
 |take x v=>simp only[Rw.d]at f ⊢;simp![atI_0];exact f rfl
 |pick x y=>simp only[Rw.d]at f ⊢;simp![atI_0];exact f rfl
 |two w x y z=>
  obtain⟨W,_⟩:=H;have h1:((w=QI "if")=False):=by rcases W with rfl|rfl|rfl|rfl<;>exact eq_false (by decide +kernel)
  have h2:((w=QI "again")=False):=by rcases W with rfl|rfl|rfl|rfl<;>exact eq_false (by decide +kernel)
  simp only[Rw.d]at f ⊢;simp![atI_0,h1,h2];exact f rfl
end
def bE(C:Cse):Nat->Gs->Option aG×Gs
 |0,g=>(cm,g)
 |f+1,g=>match g.td with
  |[]=>(if (Qr C.mn:aG)∈g.u then ap (.inr C.mn) else cm,g)
  |r::rest=>if g.left<=0 then (cm,g) else match dO C g r with
   |some k=>(ap k,g)
   |none=>bE C f (jP C g rest r)
section
variable{t:Sta}{k:Gk}
theorem EG:iG (nM td)=td.isEmpty:=by cases td<;>rfl
theorem m4(o:C.Ok):∀(f:Nat)(g:Gs),GOk C g->GOk C (bE C f g).2
 |0,g,h=>h
 |f+1,g,h=>by
  unfold bE;cases e:g.td with
  |nil=>exact h
  |cons r rest=>
   dsimp only
   split
   .exact h
   .cases a:dO C g r with
    |some k=>exact h
    |none=>exact m4 o f _ (qx o h e)
theorem Fv{r:Rw}{G F:Option D}(o:C.Ok)(ok:GOk C g)(e:g.td=r::rest)(R:g.left<=0->D'.rt .non (gM ad k g M))(S:¬g.left<=0->∀q,dO C g r=ap q->D'.rt (kD q) (gM ad k g M))(h3:¬g.left<=0->dO C g r=cm->∀G F,D'.nx [ap C.d,ap (.ref k.a),G,F] (gM ad k (jP C g rest r) M)):gE ad EE D' [ap C.d,ap (.ref k.a),G,F] (gM ad k g M):=by
 have f:=ok.td;rw[e]at f;obtain⟨I,A⟩:=f;have p:nM g.td=.tup [r.d,nM rest]:=by rw[e];rfl
 unfold gE;generalize w:lE ad EE=K4;simp only[ai,aN,ao,ah,b6,ac,dC,oLe,jq,PN,dt,cM,gf4];refine⟨trivial,?_⟩
 by_cases h:g.left<=0
 .rw[if_pos (by simpa using h)]
  exact R h
 .rw[if_neg (by simpa using h)]
  simp only[aH];rw[<- w];unfold lE qD;generalize B:kU ad EE=K2;simp only[ai,au,ah,b6,ac,dC,PN,dt,cM,Lv,p,aw,aO,atI_0,ag,Qi,aq,aj,aa,af];refine⟨trivial,rfl,aP (λ_ _ q=>ql o ok I q) ?_⟩;have P:∀{q:Option aG}{M:Mem}{Q:DK},Q (Bw q) M->frz (Bw q) M Q:=λ{q} {M} {Q} z=>by
   cases q with
   |none=>exact z
   |some k=>cases k<;>exact z
  refine P ?_;rw[<- B];unfold kU qV;have O:iG (Bw<|dO C g r)=(dO C g r).isNone:=by
   cases dO C g r with
   |none=>rfl
   |some k=>cases k<;>rfl
  simp only[ai,aN,ao,ah,ac,dC,i6,PN,dt,O];cases H:dO C g r with
  |some q=>
   rw[if_pos (by simp)]
   exact S h q H
  |none=>
   rw[if_neg (by simp)]
   simp only[aH,bo,aj,aa,ac,af,PN,dt];exact⟨rfl,ar λQ' E' J _=>vm o ok e (J _ _<|h3 h H _ _)⟩
theorem pc{EE:DX}{D':DEnds}{H:BxW (ao<|ah i6 (b6 ad.C_Going (ac 1) "todo")<|dC .non) (gE ad EE) D'}(o:C.Ok):∀(f:Nat)(g:Gs)(p h:Option D),GOk C g->g.left<f->
  (∀p h g',(bE C f g)=(if (Qr C.mn:aG)∈g'.u then ap (.inr C.mn) else cm,g')->g'.td=[]->D'.nx [ap C.d,ap (.ref k.a),p,h] (gM ad k g' M))->
  (∀g' q,bE C f g=(q,g')->D'.rt (Bw q) (gM ad k g' M))->0<=g.left->
  b_ (ao<|ah i6 (b6 ad.C_Going (ac 1) "todo")<|dC .non) (gE ad EE) D' H (f+1) [ap C.d,ap (.ref k.a),p,h] (gM ad k g M)
 |0,g,p,h,ok,hf,h1,h2,h0=>by lia
 |f+1,g,p,h,ok,hf,h1,h2,h0=>by
  have A:∀K:Bool->Mem->Prop,K (!g.td.isEmpty) (gM ad k g M)->ao (ah i6 (b6 ad.C_Going (ac 1) "todo")<|dC .non) [ap C.d,ap (.ref k.a),p,h] (gM ad k g M) K:=λK q=>by
   simp only[ao,ah,b6,ac,dC,PN,dt,cM,Lv,i6,EG];exact⟨trivial,q⟩
  cases e:g.td with
  |nil=>
   refine whF (λK q=>A K (by rw[e];exact q)) (h1 p h g ?_ e)
   unfold bE;rw[e]
  |cons r rest=>
   have w:bE C (f+1) g=if g.left<=0 then (cm,g) else match dO C g r with
    |some k=>(ap k,g)
    |none=>bE C f (jP C g rest r):=by conv=>lhs;unfold bE;rw[e]
   have G:(jP C g rest r).left=g.left-1:=mm;refine whT (λK q=>A K (by rw[e];exact q)) (Fv o ok e (λB=>?_) (λB q F=>?_) λB F p h=>?_)
   .rw[if_pos B]at w
    exact h2 g cm w
   .rw[if_neg B,F]at w
    exact h2 g (ap q) w
   .rw[if_neg B,F]at w
    exact pc o f _ _ _ (qx o ok e) (by lia) (λp h g' q=>h1 p h g' (w.trans q)) (λg' q z=>h2 g' q (w.trans z)) (by lia)
theorem AY{f:Nat}(o:C.Ok)(ok:GOk C g)(A:0<=g.left)(B:g.left<f)(h:Q (Bw (bE C f g).1) (gM ad k (bE C f g).2 M)):A4 ad [C.d,.ref k.a] (gM ad k g M) Q E:=by
 rw[No (n:=0)];unfold xD;simp only[ai,dD];refine⟨f+1,pc o f g _ _ ok B (λG F w e _=>?_) (λw q e=>?_) A⟩
 .unfold qG
  rw[e]at h;have p:=@Dd C;simp only[p,aF,pX,ao,ah,b6,ac,dC,PN,dt,aw,aO,atI_4,cM,J9,Ck,C5];refine⟨trivial,?_⟩
  by_cases c:(Qr C.mn:aG)∈w.u
  .simp only[if_pos c,Bw,kD]at h
   rw[if_pos (by simpa using c)]
   exact ak h
  .simp only[if_neg c,Bw]at h
   rw[if_neg (by simpa using c)]
   exact ak h
 .rw[e]at h
  exact ak h
def Kl(C:Cse)(g:Gs):D:=if g.td=[] then .int (nm g.n C.mn) else .non
theorem tQ(o:C.Ok)(ok:GOk C g)(h:Q (Kl C g) (gM ad k g M)):wd ad [C.d,.ref k.a] (gM ad k g M) Q E:=by
 have p:=(ok.n.at o.mn).1;have f:=@Dd C;rw[Nr (n:=0)];unfold xx;simp only[f,aF,pX,ao,ah,b6,ac,dC,PN,dt,cM,Lv,jI,EG];refine⟨trivial,?_⟩;unfold Kl at h;cases e:g.td with
 |nil=>
  rw[if_pos e]at h;simp only[UA,if_true,J1,aw,aO,atI_4,PN,dt,fT,pU,cO,bX,p,QZ];exact⟨trivial,ak h⟩
 |cons r rest=>
  rw[if_neg (by rw[e];simp)]at h
  rw[if_neg (by simp)]
  exact ak h
end
def cj(g:Gs)(q:aG)(v:Int):Gs:=match q with
 |.inl i=>{ g with u:=g.u.filter λk=>decide (k≠q),ps:=g.ps.set i.toNat v }
 |.inr x=>{ g with u:=g.u.filter λk=>decide (k≠q),n:=sN g.n x v }
section
variable{t:Sta}{k:Gk}
theorem lR(ok:GOk C g)(e:0<=v/\v<C.w):GOk C (cj g q v):=by
 cases q with
 |inl i=>
  refine⟨ok.n,by show (g.ps.set _ _).length=_;rw[RU];exact ok.lp,λz f=>?_,ok.td⟩
  rcases Va f with h|h
  .exact ok.rp z h
  .rw[h];exact e
 |inr x=>exact⟨CG (c:=g.cf C) ok.n e,ok.lp,ok.rp,ok.td⟩
theorem dR:(cj g q v).u=g.u.filter λk=>decide (k≠q):=by cases q<;>rfl
theorem eT:(cj g q v).left=g.left:=by cases q<;>rfl
theorem mr{x:eg}{d1 d2 e td:D}(h:Q .non (M.upd x<|.ins ad.C_Going [("numbers",d1),("pieces",d2),("unsettled",e),("todo",td),("left",.int left)])):
  Fa ad [.ref x,d1,d2,e,td,.int left] (M.upd x<|.ins ad.C_Going []) Q E:=by
 have p:bJ ("numbers":Str) d1 []=[(("numbers":Str),d1)]:=rfl;have f:bJ ("pieces":Str) d2 [(("numbers":Str),d1)]=[(("numbers":Str),d1),(("pieces":Str),d2)]:=rfl;have A:bJ ("unsettled":Str) e [(("numbers":Str),d1),(("pieces":Str),d2)]=[(("numbers":Str),d1),(("pieces":Str),d2),(("unsettled":Str),e)]:=rfl;have B:bJ ("todo":Str) td [(("numbers":Str),d1),(("pieces":Str),d2),(("unsettled":Str),e)]=[(("numbers":Str),d1),(("pieces":Str),d2),(("unsettled":Str),e),(("todo":Str),td)]:=rfl;have w:bJ ("left":Str) (.int left) [(("numbers":Str),d1),(("pieces":Str),d2),(("unsettled":Str),e),(("todo":Str),td)]=[(("numbers":Str),d1),(("pieces":Str),d2),(("unsettled":Str),e),(("todo":Str),td),(("left":Str),.int left)]:=rfl;rw[u_q2 (n:=0)];unfold FG;simp![Mem.upd_same,Mem.upd_upd,p,f,A,B,w,QN,Qe];exact⟨by decide,by decide,by decide,by decide,by decide,ak h⟩
structure Gat(ad:Ad)(k:Gk)(g:Gs)(N:Mem):Prop where
 a:N k.a=ap (.ins ad.C_Going<|gF k (nM g.td) g.left)
 dn:N k.dn=ap (.dK<|dJ g.n)
 lp:N k.lp=ap (.lst<|g.ps.map D.int)
 du:N k.du=ap (.dK<|uD g.u)
theorem Gat.of:Gat ad k g (gM ad k g M):=⟨cM,fT,ow,gn⟩
theorem Gat.more{k1:Gk}{e:Gs}(h:Gat ad k g M)(f:k1.Fr M):Gat ad k g (gM ad k1 e M):=⟨dE f h.a,dE f h.dn,dE f h.lp,dE f h.du⟩
theorem qK(at':Gat ad k g N)(o:C.Ok)(ok:GOk C g)(hk:q∈cZ C)(hu:q∈g.u)(h:∀Y:Gk,Y.Fr N->Q (.ref Y.a) (gM ad Y (cj g q v) N)):
  AZ ad [.ref k.a,kD q,.int v] N Q E:=by
 obtain⟨O,hdn,W,P⟩:=at';rw[u_q5 (n:=0)];unfold G_;generalize hK:pB ad (aB E)=K;simp only[ai,au,gb,aa,af,bF,b6,ac,PN,dt,O,J1,mU,hdn];refine⟨trivial,λp S=>?_⟩;have a1:k.a≠p:=Mem.ne O S;have l1:k.lp≠p:=Mem.ne W S;have u1:k.du≠p:=Mem.ne P S;simp only[ae a1,O,gf1,eY,aO,ae l1,W];refine⟨trivial,λB X=>?_⟩;have G:p≠B:=Mem.ne Mem.upd_same X;rw[ae G.symm]at X;have a2:k.a≠B:=Mem.ne O X;have u2:k.du≠B:=Mem.ne P X;simp only[ae a2,ae a1,O,J9,ae u2,ae u1,P];refine⟨trivial,λF R=>?_⟩;have H:B≠F:=Mem.ne Mem.upd_same R;rw[ae H.symm]at R;have I:p≠F:=Mem.ne Mem.upd_same R;rw[ae I.symm]at R;have a3:k.a≠F:=Mem.ne O R;simp only[ae a3,ae a2,ae a1,O,Lv,gf4];refine⟨trivial,trivial,rfl,λx J=>?_⟩;have e:F≠x:=Mem.ne Mem.upd_same J;rw[ae e.symm]at J;have f:B≠x:=Mem.ne Mem.upd_same J;rw[ae f.symm]at J;have A:p≠x:=Mem.ne Mem.upd_same J;rw[ae A.symm]at J;refine ar λQ' E' hq _=>mr (hq _ _ ?_);have Z:((((N.upd p<|.dK<|dJ g.n).upd B<|.lst<|g.ps.map D.int).upd F<|.dK<|uD g.u).upd x<|.ins ad.C_Going [("numbers",.ref p),("pieces",.ref B),("unsettled",.ref F),("todo",nM g.td),("left",.int g.left)])=gM ad ⟨x,p,B,F,A.symm,f.symm,e.symm,G,I,H⟩ g N:=by
  unfold gM gF;rw[aD e,aD f,aD A]
 rw[Z];have hfr:Gk.Fr ⟨x,p,B,F,A.symm,f.symm,e.symm,G,I,H⟩ N:=⟨J,S,X,R⟩;have hh:=h _ hfr;generalize hk':(⟨x,p,B,F,A.symm,f.symm,e.symm,G,I,H⟩:Gk)=Y at *;have ex:x=Y.a:=by rw[<- hk']
 rw[ex];simp only[ag,Qi];rw[<- hK];unfold pB;generalize hK3:qH ad (aB E)=K3;have hv:∃w,cU (uD g.u) q=ap w:=Rz.mp (by rw[kA];simpa using hu)
 obtain⟨w,hv⟩:=hv;simp only[ai,bo,BZ,b6,ac,PN,dt,cM,J9,Fb,gn,eR,hv,sR,Ij];refine⟨trivial,trivial,?_⟩;rw[<- hK3];unfold qH vi ve;rcases dZ hk with⟨y,hy,rfl⟩|⟨i,hi,rfl⟩
 .have keys:y∈g.n.map (·.1):=by rw[ok.n.keys];exact hy
  have nl:(dJ g.n).length<sizeLine:=by
   have S:(dJ g.n).length=C.names.length:=by rw[<- ok.n.keys];simp[dJ]
   have:=o.l1;exact ji (by lia)
  simp only[kD]at hh ⊢;simp![jD,B1,To,Us,Sk,RF,TJ,cM,J1,fT,lH keys,IJ];exact⟨nl,ak hh⟩
 .have e3:rA (g.ps.map D.int).length (i:Nat)=ap i:=by
   rw[fj (by lia) (by rw[PQ,ok.lp];lia),Qh]
  have e4:(g.ps.map D.int).set i (.int v)=(g.ps.set i v).map D.int:=by rw[List.map_set]
  simp only[kD]at hh ⊢;simp![jD,B1,To,Us,Sk,RF,TJ,U1,Sy,cM,gf1,ow,e3,e4,Ng];exact ak hh
end
def eO(ad:Ad)(L c:Nat):MO:=.ins ad.C_Ends [("limit",.int (L:Nat)),("count",.int (c:Nat))]
inductive Tr where
 |e (m:D)|a (q:aG) (x y:Tr)
def Tr.d:Tr->D
 |.e m=>.tup [.str "end",m]
 |.a q x y=>.tup [.str "ask",kD q,x.d,y.d]
def Tr.asks:Tr->Nat
 |.e _=>0
 |.a _ x y=>1+x.asks+y.asks
def bZ(C:Cse)(s t:Sta):Nat->Gs->Tr
 |0,_=>.e .non
 |n+1,g=>match (bE C (C.most+1) g).1 with
  |none=>.e (Kl C (bE C (C.most+1) g).2)
  |some q=>.a q (bZ C s t n<|cj (bE C (C.most+1) g).2 q<|aL C s q) (bZ C s t n<|cj (bE C (C.most+1) g).2 q<|aL C t q)
section
variable{t:Sta}{k:Gk}
theorem iA{e:eg}{c:Nat}(f:M e=ap (eO ad L c))(G:c+1<=L)(h:Q .non (M.upd e<|eO ad L (c+1))):D4 ad [.ref e] M Q E:=by
 have A:Qy ("count":Str) [(("limit":Str),D.int (L:Nat)),(("count":Str),D.int (c:Nat))]=ap (.int (c:Nat)):=rfl;have B:∀v,bJ ("count":Str) (.int v) [(("limit":Str),D.int (L:Nat)),(("count":Str),D.int (c:Nat))]=[(("limit":Str),D.int (L:Nat)),(("count":Str),D.int v)]:=λ_=>rfl;have w:∀v,Qy ("count":Str) [(("limit":Str),D.int (L:Nat)),(("count":Str),D.int v)]=ap (.int v):=λ_=>rfl;have p:∀v,Qy ("limit":Str) [(("limit":Str),D.int (L:Nat)),(("count":Str),D.int v)]=ap (.int (L:Nat)):=λ_=>rfl;have F:decide (((L:Nat):Int)<((c:Nat):Int)+1)=false:=decide_eq_false (by lia)
 unfold eO at f h;rw[u_q4 (n:=0)];unfold GT vP;simp only[ai,pQ,aN,ao,ah,b6,ac,dC,aH,dt,f,A,B,w,p,Mem.upd_same,Be,jq,F];refine⟨trivial,by simp,trivial,trivial,trivial,?_⟩
 rw[if_neg (by simp)]
 refine ak ?_;have e:(((c:Nat):Int)+1)=((c+1:Nat):Int):=by lia
 rw[e];exact h
theorem DV{a:eg}{fs:List (Str×D)}{Cl:eg}{m:Str}{T:Sd}{e:bu}{t:fC}(p:∀K:DK,K (.ref a) M->e U M K)(f:M a=ap (.ins Cl fs))(w:fs.lookup m=cm)(h:t U M λds M2=>ds.length+1=n/\calls T EE (.ref a::ds) M2 Q ⟨⟩):cY Cl m T EE n e t U M Q:=by
 unfold cY;refine p _ ?_;simp only[f];exact⟨trivial,w,h⟩
theorem Pd{K:DK}(f:Gat ad k g N)(o:C.Ok)(G:SOk C z)(ok:GOk C g)(w:q∈cZ C)(F:q∈g.u)(h:∀k1:Gk,k1.Fr N->K (.ref k1.a) (gM ad k1 (cj g q<|aL C z q) N)):
  aq (cY ad.C_Going "settled" (AZ ad) jf 3 (ac 2)<|aa (ac 1)<|aa (aq<|aj (k7 ad) jf 3<|aa (ah aw (ac 3)<|dC<|.int 0)<|aa (ac 0)<|aa (ac 1) af) af) [ap z.d,ap (kD q),ap (.ref k.a),ap (bI C s t)] N K:=by
 have fi:∀{v:Int}{M:Mem}{Q:DK},Q (.int v) M->frz (.int v) M Q:=λz=>z;have B:∀{a:eg}{M:Mem}{Q:DK}{fs:List (Str×D)},M a=ap (.ins ad.C_Going fs)->Q (.ref a) M->frz (.ref a) M Q:=λ{a M Q fs} e z=>by simp only[frz,e];exact z
 unfold aq;refine DV (λK q=>q) f.a gfs ?_;unfold bI;simp only[aa,ac,aj,af,ah,dC,PN,dt,aw,aO,atI_0];refine⟨rfl,aP (λ_ _ z=>dI o G w z)<|fi ?_⟩;exact⟨rfl,ar λQ' E' A _=>qK f o ok w F λk1 p=>A _ _ (B cM<|h k1 p)⟩
theorem nY(w:Gat ad k g N)(o:C.Ok)(O:SOk C s)(S:SOk C t)(ok:GOk C g)(P:q∈cZ C)(R:q∈g.u)(h:∀(k1 k2:Gk)(p:eg),k1.Fr N->k2.Fr (gM ad k1 (cj g q<|aL C s q) N)->gM ad k2 (cj g q<|aL C t q) (gM ad k1 (cj g q<|aL C s q) N) p=cm->
   Q (.ref p) ((gM ad k2 (cj g q<|aL C t q)<|gM ad k1 (cj g q<|aL C s q) N).upd p<|.lst [.ref k1.a,.ref k2.a])):
  yQ ad [bI C s t,.ref k.a,kD q] N Q E:=by
 have e:=@N9 C s t;rw[Pp (n:=0)];unfold z_;simp only[aF,aY,bK,tX,cP,bM,ac,dC,PN,dt,bw,PU,Qt,Qn,Qo,Q4];have H:ko [C.d,s.d,t.d,D.int (C.most:Nat)] (ap 1) (ap 3)=[s.d,t.d]:=rfl;generalize B:aq (cY ad.C_Going "settled" (AZ ad) jf 3 (ac 2)<|aa (ac 1)<|aa (aq<|aj (k7 ad) jf 3<|aa (ah aw (ac 3)<|dC<|.int 0)<|aa (ac 0)<|aa (ac 1) af) af)=te;have F:∀{N:Mem}{z:Sta}{K:DK},Gat ad k g N->SOk C z->(∀k1:Gk,k1.Fr N->K (.ref k1.a) (gM ad k1 (cj g q<|aL C z q) N))->te [ap z.d,ap (kD q),ap (.ref k.a),ap (bI C s t)] N K:=λ{N z K} J I hh=>by
  rw[<- B];exact Pd J o I ok P R hh
 simp only[e,aq,ac,dC,dt,Lb,H,frz,aO,bN];rw[<- e];unfold cw;refine⟨aT,?_⟩;simp only[ag,Qi,dG,if_true];refine F w O λk1 f=>⟨ji (by simp),?_⟩
 unfold cw;refine⟨aT,?_⟩;simp only[ag,Qi,dG,if_true];refine F (w.more f) S λk2 A=>⟨ji (by simp),?_⟩
 unfold cw;exact⟨aT,λp G=>ak (h k1 k2 p f A G)⟩
end
theorem mF{b:eg}(h:M b=ap o):M.upd b o=M:=by
 funext c;unfold Mem.upd
 split
 .rename_i e;rw[e,h]
 .rfl
theorem FF{k1 k2:Gk}{A B:Gs}(h:k2.Fr (gM ad k1 A N)):gM ad k2 B (gM ad k1 A N)=gM ad k1 A (gM ad k2 B N):=by
 obtain⟨O,H,P,F,_⟩:=cb h.a;obtain⟨G,R,X,I,_⟩:=cb h.dn;obtain⟨S,c2,c3,c4,_⟩:=cb h.lp;obtain⟨J,W,Z,Y,_⟩:=cb h.du;funext b
 by_cases f:b=k2.a
 .subst f;rw[cM,ki O H P F,cM]
 by_cases e:b=k2.dn
 .subst e;rw[fT,ki G R X I,fT]
 by_cases p:b=k2.lp
 .subst p;rw[ow,ki S c2 c3 c4,ow]
 by_cases w:b=k2.du
 .subst w;rw[gn,ki J W Z Y,gn]
 rw[ki f e p w];unfold gM;simp only[Mem.upd,f,e,p,w,if_false]
section
variable{t:Sta}{k:Gk}
theorem Lu{r:Rw}(h:dO C g r=ap q):q∈g.u:=by
 unfold dO at h
 split at h
 .cases h
 .split at h
  .rename_i w p e
   cases h;have:q∈(cZ C).filter λk=>decide (k∈((da r).filter λx=>decide ((Qr x:aG)∈g.u)).map Qr):=by rw[e];simp
   have:=(Qa.mp this).2;obtain⟨x,f,rfl⟩:=Qv.mp (of_decide_eq_true this);exact of_decide_eq_true (Qa.mp f).2
  .split at h
   .split at h
    .rename_i c;cases h;exact c
    .cases h
   .cases h
theorem OR{r:Rw}:(jP C g rest r).u.length<=g.u.length/\∀x∈(jP C g rest r).u,x∈g.u:=by
 have f:∀z:aG,(g.u.filter λk=>decide (k≠z)).length<=g.u.length/\∀x∈g.u.filter (λk=>decide (k≠z)),x∈g.u:=λz=>⟨QH _ _,λx e=>(Qa.mp e).1⟩;cases r with
 |ifr=>exact⟨PZ _,λ_ h=>h⟩
 |again=>exact⟨PZ _,λ_ h=>h⟩
 |_=>exact f _
theorem i8:∀(f:Nat)(g:Gs),((bE C f g).2.u.length<=g.u.length/\∀x∈(bE C f g).2.u,x∈g.u)/\(0<=g.left->0<=(bE C f g).2.left/\(bE C f g).2.left<=g.left)/\∀q,(bE C f g).1=ap q->q∈(bE C f g).2.u
 |0,g=>⟨⟨PZ _,λ_ h=>h⟩,λh=>⟨h,Ss _⟩,λq h=>by cases h⟩
 |f+1,g=>by
  unfold bE;cases e:g.td with
  |nil=>
   refine⟨⟨PZ _,λ_ h=>h⟩,λh=>⟨h,Ss _⟩,λq h=>?_⟩;dsimp only at h ⊢
   split at h
   .rename_i c;cases h;exact c
   .cases h
  |cons r rest=>
   dsimp only
   split
   .exact⟨⟨PZ _,λ_ h=>h⟩,λh=>⟨h,Ss _⟩,λq h=>by cases h⟩
   .rename_i J
    cases a:dO C g r with
    |some k=>
     refine⟨⟨PZ _,λ_ h=>h⟩,λh=>⟨h,Ss _⟩,λq h=>?_⟩;cases h;exact Lu a
    |none=>
     obtain⟨⟨B,G⟩,H,F⟩:=i8 f (jP C g rest r);obtain⟨p,A⟩:=OR (C:=C) (g:=g) (r:=r) (rest:=rest);have I:(jP C g rest r).left=g.left-1:=mm;refine⟨⟨Qp B p,λx w=>A x (G x w)⟩,λh=>?_,F⟩;have:=H (by lia)
     exact⟨this.1,by dsimp only;lia⟩
theorem pO(h:q∈u):(u.filter λk=>decide (k≠q)).length<u.length:=by
 rw[List.length_filter_lt_length_iff_exists];exact⟨q,h,by simp⟩
theorem i9{e:eg}{L:Nat}(o:C.Ok)(hs:SOk C s)(ht:SOk C t):∀(n:Nat)(g:Gs)(k:Gk)(M:Mem)(c:Nat)(Q:DK)(E:DX),GOk C g->0<=g.left->g.left<=C.most->(∀x∈g.u,x∈cZ C)->g.u.length<n->M e=ap (eO ad L c)->k.Fr M->
  c+(bZ C s t n g).asks<=L->Q (bZ C s t n g).d (M.upd e<|eO ad L (c+(bZ C s t n g).asks))->Wj ad n [bI C s t,.ref k.a,.ref e] (gM ad k g M) Q E
 |0,g,k,M,c,Q,E,ok,h0,hm,hu,hn,he,hf,hc,h=>by lia
 |n+1,g,k,M,c,Q,E,ok,h0,hm,hu,hn,he,hf,hc,h=>by
  have hcs:=@N9 C s t;have G:=m4 o (C.most+1) g ok;obtain⟨⟨hlen,A⟩,Z,W⟩:=i8 (C:=C) (C.most+1) g;rw[Nl];unfold wX;generalize hK5:md ad (Wj ad n) (aB E)=K5;simp only[ai,au,aq,aj,aa,af,ah,ac,dC,PN,dt,hcs,aw,aO,atI_0];refine⟨rfl,ar λQ' E' I _=>AY (f:=C.most+1) o ok h0 (by lia) (I _ _ ?_)⟩
  have fo:∀{q:Option aG}{M:Mem}{Q:DK},Q (Bw q) M->frz (Bw q) M Q:=λ{q} {M} {Q} z=>by
   cases q with
   |none=>exact z
   |some k=>cases k<;>exact z
  refine fo ?_;simp only[ag,Qi];rw[<- hK5];unfold bZ at h hc;generalize hgo:bE C (C.most+1) g=go at *;obtain⟨a,F⟩:=go;dsimp only at *;unfold md;generalize hK4:kW ad (Wj ad n) (aB E)=K4;cases a with
  |none=>
   unfold rg;simp only[ai,aN,ao,ah,ac,dC,Bw,jI,iG,if_true,aF,aM,aa,af,aj,PN,dt,aw,aO,atI_0];refine⟨rfl,aP (λ_ _ z=>tQ o G z) ⟨aX (by simp),?_⟩⟩
   simp only[Tr.asks,Tr.d,VQ,mF he]at h;exact⟨M,λb ob eb=>dE hf eb,h⟩
  |some q=>
   have R:=W q rfl;have O:=hu q (A q R);have fl:=pO R;simp only[Tr.asks,Tr.d]at h hc;have nn:iG (kD q)=false:=by cases q<;>rfl
   simp only[ai,aN,ao,ah,ac,dC,Bw,jI,nn,aH,PN,dt];rw[if_neg (by simp),<- hK4]
   unfold kW;generalize hK3:m3 ad (Wj ad n) (aB E)=K3;simp only[ai,bo];have lo:Qy ("one_more":Str) [(("limit":Str),D.int (L:Nat)),(("count":Str),D.int (c:Nat))]=none:=rfl;refine DV (a:=e) (fs:=[("limit",.int (L:Nat)),("count",.int (c:Nat))]) (λK q=>q) (dE hf he) lo ?_;simp only[af];refine⟨rfl,ar λQ' E' I _=>iA (dE hf he) (by lia) (I _ _ ?_)⟩
   rw[qU hf he,<- hK3];have X:(M.upd e<|eO ad L (c+1)) e=ap (eO ad L (c+1)):=Mem.upd_same;have B:∀{o':MO},k.Fr (M.upd e o'):=λ{o'}=>⟨by rw[ae (λz=>by rw[<- z,hf.a]at he;cases he)];exact hf.a,by rw[ae (λz=>by rw[<- z,hf.dn]at he;cases he)];exact hf.dn,by rw[ae (λz=>by rw[<- z,hf.lp]at he;cases he)];exact hf.lp,by rw[ae (λz=>by rw[<- z,hf.du]at he;cases he)];exact hf.du⟩
   unfold m3;generalize hK2:lA ad (Wj ad n) (aB E)=K2;simp only[ai,au,aq,aj,aa,af,ac,PN,dt];refine⟨rfl,ar λQ' E' I _=>nY .of o hs ht G O R λk1 k2 p h1 H hp=>I _ _ (cD hp ?_)⟩;simp only[ag,Qi];rw[<- hK2];unfold lA;simp only[aF,aM,aa,af,aj,ac,dC,ah,PN,dt,aw,aO,atI_0,atI_1];generalize hg1:cj F q (aL C s q)=g1 at *;generalize hg2:cj F q (aL C t q)=g2 at *;have J:g1.u.length<n/\(∀x∈g1.u,x∈cZ C)/\g1.left=F.left/\GOk C g1:=by
    rw[<- hg1];exact⟨by rw[dR];lia,λx S=>by rw[dR]at S;exact hu x (A x (Qa.mp S).1),eT,lR G<|cu o hs O⟩
   have P:g2.u.length<n/\(∀x∈g2.u,x∈cZ C)/\g2.left=F.left/\GOk C g2:=by
    rw[<- hg2];exact⟨by rw[dR];lia,λx S=>by rw[dR]at S;exact hu x (A x (Qa.mp S).1),eT,lR G<|cu o ht O⟩
   have hll:=Z h0;rw[FF H];have w:k2.Fr (gM ad k F<|M.upd e<|eO ad L (c+1)):=⟨(cb H.a).2.2.2.2,(cb H.dn).2.2.2.2,(cb H.lp).2.2.2.2,(cb H.du).2.2.2.2⟩;obtain⟨a1,a2,a3,a4,_⟩:=cb H.a;obtain⟨b1,b2,b3,b4,_⟩:=cb H.dn;obtain⟨c1,c2,c3,c4,_⟩:=cb H.lp;obtain⟨d1,d2,d3,d4,_⟩:=cb H.du;have h1N:k1.Fr (gM ad k2 g2<|gM ad k F<|M.upd e<|eO ad L (c+1)):=⟨by rw[ki a1.symm b1.symm c1.symm d1.symm];exact h1.a,by rw[ki a2.symm b2.symm c2.symm d2.symm];exact h1.dn,by rw[ki a3.symm b3.symm c3.symm d3.symm];exact h1.lp,by rw[ki a4.symm b4.symm c4.symm d4.symm];exact h1.du⟩
   have heN:gM ad k F (M.upd e<|eO ad L (c+1)) e=ap (eO ad L (c+1)):=dE B X;refine⟨rfl,ar λQ' E' I _=>i9 o hs ht n g1 k1 _ (c+1) _ _ J.2.2.2 (by lia) (by lia) J.2.1 J.1 (dE w heN) h1N (by lia) (I _ _ ?_)⟩
   rw[qU w heN,qU B X,Mem.upd_upd];have Y:k2.Fr (gM ad k F<|M.upd e<|eO ad L (c+1+(bZ C s t n g1).asks)):=by
    have z:∀{b:eg},gM ad k F (M.upd e<|eO ad L (c+1)) b=cm->gM ad k F (M.upd e<|eO ad L (c+1+(bZ C s t n g1).asks)) b=none:=λ{b} hb=>by
     obtain⟨n1,n2,n3,n4,n5⟩:=cb hb;rw[ki n1 n2 n3 n4];have:b≠e:=λz=>by rw[z,Mem.upd_same]at n5;cases n5
     rw[ae this]at n5 ⊢;exact n5
    exact⟨z w.a,z w.dn,z w.lp,z w.du⟩
   refine⟨rfl,ar λQ' E' I _=>i9 o hs ht n g2 k2 _ (c+1+(bZ C s t n g1).asks) _ _ P.2.2.2 (by lia) (by lia) P.2.1 P.1 (dE B Mem.upd_same) Y (by lia) (I _ _ ?_)⟩
   rw[qU B Mem.upd_same,Mem.upd_upd];refine⟨aX (by simp),M.upd e (eO ad L (c+(1+(bZ C s t n g1).asks+(bZ C s t n g2).asks))),λb ob eb=>?_,h⟩
   have ec:c+1+(bZ C s t n g1).asks+(bZ C s t n g2).asks=c+(1+(bZ C s t n g1).asks+(bZ C s t n g2).asks):=by lia
   rw[ec];exact dE B eb
end
def g0(C:Cse)(s t:Sta):Gs:=⟨C.names.zip s.nums,s.pieces,aC C s t,C.rows,(C.most:Nat)⟩
section
variable{t:Sta}
theorem yE(o:C.Ok):(aC C s t).Nodup:=by
 refine UK _ ?_;show (cZ C).Nodup;unfold cZ;rw[Uo];refine⟨?_,?_,?_⟩
 .exact U0 _ (λa b h z=>h (TK z)) o.nd
 .exact U0 _ (λa b h z=>h (by have:=SF z;lia)) Uz
 .intro a f b e z
  obtain⟨x,_,rfl⟩:=Qv.mp f;obtain⟨y,_,rfl⟩:=Qv.mp e;cases z
theorem lX:∀x∈aC C s t,x∈cZ C:=λx e=>(Qa.mp e).1
theorem rN(o:C.Ok):(aC C s t).length<=200:=by
 have e:(aC C s t).length<=(cZ C).length:=QH _ _;have f:(cZ C).length=C.names.length+C.many:=by simp[cZ]
 have:=o.l1;have:=o.few;lia
theorem ce(o:C.Ok)(A:SOk C s)(w:SOk C t)(h:∀p,M p=cm->Q (.ref p) (M.upd p<|.lst<|(aC C s t).map kD)):j_ ad [bI C s t] M Q E:=by
 rw[O5 (n:=0)];unfold we bI;simp only[aF,aj,aa,ah,ac,dC,af,dt,PN,aw,aO,atI_0,atI_1,atI_2];exact⟨rfl,ar λQ' E' f _=>Eu o A w λp e=>f _ _ (ak<|h p e)⟩
theorem Dn(o:C.Ok)(e:SOk C s):GOk C (g0 C s t):=⟨(o.pl e).nok,e.lp,e.rp,o.ok⟩
theorem uO(o:C.Ok)(hs:SOk C s)(ht:SOk C t)(h:∀k:Gk,k.Fr M->Q (.ref k.a) (gM ad k (g0 C s t) M)):wC ad [bI C s t] M Q E:=by
 have ul:=rN (s:=s) (t:=t) o;have O:=@N9 C s t;have hcd:=@Dd C;have X:s.d=.tup [.tup (s.nums.map D.int),.tup (s.pieces.map D.int)]:=rfl;rw[NJ (n:=0)];unfold A2 qL;generalize hK2:lO ad (aB E)=K2;simp only[ai,au,ah,ac,dC,ag,Qi,dt,PN,O,aw,aO,atI_0,atI_1];rw[<- O,<- hK2];unfold lO;generalize W:li ad (aB E)=K1;simp only[ai,au,bF,aa,af,aq,aY,bK,aj,ac,bw,PU,Qt,Qn,Qo,dt,PN];refine⟨rfl,ar λQ' E' hq _=>ce o hs ht λp Z=>hq _ _ (cD Z ?_)⟩;simp only[aO,bN];refine gj (λd=>.tup [d,.bl true]) aT (by simp;lia) (λx H K q=>?_) ?_
 .simp only[aM,aa,ac,dC,af,PN,dt]
  exact⟨aX (by simp),q⟩
 intro p Z;refine cD Z ?_;have e:((aC C s t).map kD).map (λd=>D.tup [d,.bl true])=(aC C s t).map λk=>D.tup [kD k,.bl true]:=by simp
 rw[e];have hnd:(([]:List (aG×D)).map (·.1)++(uD<|aC C s t).map (·.1)).Nodup:=by rw[lW];exact yE o
 simp only[fH,BD,gR,jN,A3 hnd,Qo];refine⟨trivial,by simp[uD];lia,λA h3=>?_⟩
 simp only[ag,Qi];rw[<- W];unfold li;simp only[aF,gb,aa,f_,ah,ac,dC,af,bF,aj,aq,dt,PN,hcd,X,aw,aO,atI_0,atI_1,eE,PQ];refine⟨hs.ln.symm,o.l0,Qp o.l1 (by decide),λI S=>?_⟩
 have F:A≠I:=Mem.ne Mem.upd_same S;rw[ae F.symm]at S;simp only[eY,aO];intro J R;have P:I≠J:=Mem.ne Mem.upd_same R;rw[ae P.symm]at R;have B:A≠J:=Mem.ne Mem.upd_same R;rw[ae B.symm]at R;simp only[O,atI_3,dt,PN];refine⟨rfl,aP (λ_ _ q=>eK (td:=[]) q) ?_⟩;have ft:∀{l:List Rw}{M:Mem}{Q:DK},Q (nM l) M->frz (nM l) M Q:=λ{l} {M} {Q} q=>by cases l<;>exact q
 rw[QO];refine ft ?_;refine⟨rfl,λx H=>?_⟩;have w:J≠x:=Mem.ne Mem.upd_same H;rw[ae w.symm]at H;have G:I≠x:=Mem.ne Mem.upd_same H;rw[ae G.symm]at H;have f:A≠x:=Mem.ne Mem.upd_same H;rw[ae f.symm]at H;refine ar λQ' E' hq _=>mr (hq _ _ ?_);rw[fO hs.ln.symm o.nd];have Y:((((M.upd A<|.dK<|uD<|aC C s t).upd I<|.dK<|dJ<|C.names.zip s.nums).upd J<|.lst<|s.pieces.map D.int).upd x<|.ins ad.C_Going [("numbers",.ref I),("pieces",.ref J),("unsettled",.ref A),("todo",nM C.rows),("left",.int (C.most:Nat))])=gM ad ⟨x,I,J,A,G.symm,w.symm,f.symm,P,F.symm,B.symm⟩ (g0 C s t) M:=by
  unfold gM gF g0;rw[aD w,aD G,aD f,aD (a:=A) (b:=I) F,aD (a:=A) (b:=J) B]
 rw[Y];exact ak (h ⟨x,I,J,A,G.symm,w.symm,f.symm,P,F.symm,B.symm⟩ ⟨H,S,R,h3⟩)
def Cse.tree(C:Cse)(s t:Sta):Tr:=bZ C s t 24 (g0 C s t)
theorem Br(o:C.Ok)(f:SOk C s)(B:SOk C t)(P:C.mark s=.int a)(p:C.mark t=.int b)(A:a≠b)(S:(aC C s t).length<24)(R:1+(C.tree s t).asks<=L)(h:Q (C.tree s t).d M):
  zE ad [bI C s t,.int (L:Nat)] M Q E:=by
 rw[NT (n:=0)];unfold wY r8;generalize w:kK ad (aB E)=K2;simp only[ai,bo,aj,aa,ac,af,au,gb,dt,PN];refine⟨rfl,aP (λ_ _ q=>n8 o f B P p A q) ⟨rfl,λe O=>?_⟩⟩;have G:bJ ("limit":Str) (.int (L:Nat)) []=[(("limit":Str),D.int (L:Nat))]:=rfl;have F:bJ ("count":Str) (.int 0) [(("limit":Str),D.int (L:Nat))]=[(("limit":Str),D.int (L:Nat)),(("count":Str),D.int 0)]:=rfl;refine ar λQ' E' hq _=>?_;rw[u_q6 (n:=0)];unfold HJ;simp![Mem.upd_same,Mem.upd_upd,G,F,QN,Qe];refine⟨by decide,by decide,ak<|hq _ _ ?_⟩
 simp only[ag,Qi];rw[<- w];unfold kK pS;simp only[ai,bo];have I:Qy ("one_more":Str) [(("limit":Str),D.int (L:Nat)),(("count":Str),D.int 0)]=none:=rfl;refine DV (a:=e) (λK q=>q) Mem.upd_same I ?_;simp only[af];refine⟨rfl,ar λQ' E' hq _=>iA (L:=L) (c:=0) Mem.upd_same (by lia) (hq _ _ ?_)⟩
 rw[Mem.upd_upd];simp only[aF,aj,aa,ac,af,aq,dt,PN];refine⟨rfl,ar λQ' E' hq _=>uO o f B λk J=>hq _ _ ?_⟩;have H:∀{M:Mem}{Q:DK}{fs:List (Str×D)},M k.a=ap (.ins ad.C_Going fs)->Q (.ref k.a) M->frz (.ref k.a) M Q:=λ{M Q fs} e z=>by simp only[frz,e];exact z
 refine H cM ⟨rfl,ar λQ' E' hq _=>i9 o f B 24 _ k _ 1 _ _ (Dn o f) (by show (0:Int)<=((C.most:Nat):Int);lia) (Ss _) lX S Mem.upd_same J R (hq _ _ ?_)⟩
 rw[Mem.upd_upd];refine⟨M,λb W p=>?_,h⟩;rw[ae (Mem.ne p O)];exact p
end
theorem B6(a b:Nat):TV (a:Int) (b:Int)=((a ||| b:Nat):Int):=by
 have h:decide ((0:Int)<=-(a:Int)-1)=false:=decide_eq_false (by lia)
 have p:decide ((0:Int)<=-(b:Int)-1)=false:=decide_eq_false (by lia)
 have f:(-(-(a:Int)-1)-1).toNat=a:=by lia
 have e:(-(-(b:Int)-1)-1).toNat=b:=by lia
 unfold TV S0 Builtin.bitNot;rw[h,p];simp only[f,e];lia
theorem F1(a:Nat):S0 (a:Int) 1=((a % 2:Nat):Int):=by
 have e:decide ((0:Int)<=(a:Int))=true:=decide_eq_true (by lia)
 unfold S0;rw[e];show (((a:Int).toNat &&& (1:Int).toNat:Nat):Int)=_;rw[Qh];show ((a &&& 1:Nat):Int)=_;rw[Nat.and_one_is_mod]
def Fg(b:Nat):Nat:=Rh (b:Int)
def az(b:Nat):List Nat:=(QG<|Fg b).filter λi=>b.testBit i
theorem Ep{b m:Nat}(h:b<2 ^ m):Fg b<=m:=by
 unfold Fg Rh
 split
 .lia
 .rename_i e
  have f:b≠0:=λz=>e (by rw[z];rfl)
  rw[Int.natAbs_natCast];have:=(V0 f).mpr h;lia
theorem gz{b m:Nat}(h:b<2 ^ m):az b=(QG m).filter λi=>b.testBit i:=by
 obtain⟨d,rfl⟩:∃d,m=Fg b+d:=⟨m-Fg b,by have:=Ep h;lia⟩
 unfold az;rw[List.range_add,Rf];have:((QG d).map (Fg b+·)).filter (λi=>b.testBit i)=[]:=by
  rw[TF];intro i p;obtain⟨j,_,rfl⟩:=Qv.mp p;have e:b<2 ^ Fg b:=by
   unfold Fg Rh
   split
   .rename_i f
    have:b=0:=by have:=beq_iff_eq.mp f;lia
    subst this;decide
   .rename_i f
    rw[Int.natAbs_natCast];exact Nat.lt_log2_self
  rw[TN (Qc e<|QR (by decide)<|Rg _ _)]
  simp
 rw[this,QO]
section
theorem gq{b:Nat}(H:b<2 ^ 200)(h:∀p,M p=cm->Q (.ref p) (M.upd p<|.lst ((az b).map λ(i:Nat)=>D.int (i:Int)))):sV ad [.int (b:Nat)] M Q E:=by
 have G:=Ep H;rw[Oe (n:=0)];unfold wL;simp only[aF,aY,gs,aa,nN,ac,af,lx,dt,PN,bw,PU,Qt,Qn,Qo,Q4];have F:((Rh (b:Int):Nat):Int)<=200:=by have:Rh (b:Int)<=200:=G;lia
 refine⟨rfl,by lia,by lia,?_⟩
 refine dk (λd=>match d with|.int i=>b.testBit i.toNat|_=>eC) id aT ?_ (λx f K q=>?_) (λx f _ K q=>q) ?_
 .simp only[dU,PQ,Uq,Qh];show Fg b<=_;lia
 .simp only[dU,Qv,Ri]at f
  obtain⟨i,I,rfl⟩:=f;rw[TR]at q ⊢;have B:((b:Nat):Int) / 2 ^ (((i:Nat):Int)).toNat=((b / 2 ^ i:Nat):Int):=by rw[Qh];simp
  simp only[ao,ah,ac,dC,dt,PN,LQ,ML,oI,jq,B,F1,cB,dv,bn,aR];refine⟨by lia,trivial,trivial,?_⟩
  simp only[Qh,Nat.testBit_eq_decide_div_mod_eq]at q;have w:decide (((b / 2 ^ i % 2:Nat):Int)=1)=decide (b / 2 ^ i % 2=1):=by congr 1;exact propext (by lia)
  rw[w];exact q
 .intro p A
  have e:((dU 0<|VD ((Rh (b:Int):Nat):Int)).filter λd=>match d with|.int i=>b.testBit i.toNat|_=>eC).map id=(az b).map λ(i:Nat)=>D.int (i:Int):=by
   rw[RA];unfold dU az Fg;rw[Rk,Qh];have:∀l:List Nat,l.map (λ(i:Nat)=>D.int (0+(i:Int)))=l.map λ(i:Nat)=>D.int (i:Int):=λl=>Q6 λi _=>by simp
   rw[this];congr 1;refine RZ λi _=>?_;simp
  rw[e];exact ak (h p A)
theorem qj{te:bu}{ok:Mem->Prop}{Q:List D->Mem->Prop}{b:BxC (gZ 2<|bh (ag 0)<|bh (ag 1) gr) dG te ok Q}{rest:Dl}(f:Nat->D->D)(A:ok M):∀(xs:List D)(j:Nat)(e:List D)(w B:Option D),e.length+xs.length<=100000->
  (∀(i:Nat) x,xs[i]?=ap x->∀K:DK,K (f (j+i) x) M->te (ap (.int ((j+i:Nat):Int))::ap x::rest) M K)->Q (e++(xs.zipIdx j).map λp=>f p.2 p.1) M->
  cw (gZ 2<|bh (ag 0)<|bh (ag 1) gr) dG te ok Q b (eB j xs) e (w::B::rest) M
 |[],j,e,w,B,hl,he,h=>by
  unfold eB cw;exact⟨A,by simpa using h⟩
 |x::xs,j,e,w,B,hl,he,h=>by
  simp only[Qe]at hl;unfold eB cw;refine⟨A,?_⟩;simp only[gZ,bh,gr,ag,Qi,dG,if_true];refine⟨rfl,he 0 x rfl _ ⟨ji (by lia),?_⟩⟩
  refine qj f A xs (j+1) _ _ _ (by simp;lia) (λi y F K q=>?_) ?_
  .have:=he (i+1) y (by simpa using F) K (by rw[show j+(i+1)=j+1+i by lia];exact q)
   rw[show j+(i+1)=j+1+i by lia]at this
   exact this
  .simpa [RI] using h
end
structure Out where
 v:Str
 s:Nat
 f:Nat
def BA(ad:Ad)(x:Out):MO:=.ins ad.C_Outcome [("verdict",.str x.v),("sound",.int (x.s:Nat)),("faulty",.int (x.f:Nat))]
def Ext(M M':Mem):Prop:=∀b o,M b=ap o->M' b=ap o
theorem Ext.refl:Ext M M:=λ_ _ e=>e
theorem Ext.trans{M1 M2:Mem}(a:Ext M M1)(b:Ext M1 M2):Ext M M2:=λx o e=>b x o (a x o e)
theorem Ext.no(h:Ext M M'){b:eg}(e:M' b=cm):M b=none:=by
 cases q:M b with
 |none=>rfl
 |some o=>rw[h b o q]at e;cases e
theorem Ext.new{b:eg}(h:M b=cm):Ext M (M.upd b o):=λx u e=>by rw[ae (Mem.ne e h)];exact e
theorem Ext.upd{b:eg}(x:Ext M M')(h:M b=cm):Ext M (M'.upd b o):=λc u e=>by rw[ae (Mem.ne e h)];exact x c u e
theorem Ext.del{b:eg}(x:Ext M M')(h:M b=cm):Ext M (M'.del b):=λc u e=>by unfold Mem.del;rw[if_neg (Mem.ne e h)];exact x c u e
inductive Lay(ad:Ad)(M:Mem):List eg->List Out->Prop
 |nil:Lay ad M [] []
 |cons {a:eg} {x:Out} {as:Yx} {xs:List Out} (h:M a=ap (BA ad x)) (t:Lay ad M as xs):Lay ad M (a::as) (x::xs)
theorem Lay.go{ad:Ad}{M M':Mem}:∀{e:Yx}{xs:List Out},Lay ad M e xs->(∀a x,M a=ap (BA ad x)->M' a=ap (BA ad x))->Lay ad M' e xs
 |_,_,.nil,_=>.nil
 |_,_,.cons h t,g=>.cons (g _ _ h) (t.go g)
theorem Lay.snoc{ad:Ad}{M:Mem}{a:eg}{x:Out}(h:M a=ap (BA ad x)):∀{e:Yx}{xs:List Out},Lay ad M e xs->Lay ad M (e++[a]) (xs++[x])
 |_,_,.nil=>.cons h .nil
 |_,_,.cons h' t=>.cons h' (t.snoc h)
theorem Lay.length{ad:Ad}{M:Mem}:∀{e:Yx}{xs:List Out},Lay ad M e xs->e.length=xs.length
 |_,_,.nil=>rfl
 |_,_,.cons _ t=>congrArg (·+1) t.length
theorem vy{l:eg}{xs ys:List D}(h:M l=ap (.lst xs))(a:eg)(x:Out)(e:M a=ap (BA ad x)):(M.upd l<|.lst ys) a=ap (BA ad x):=by
 rw[ae (λz=>by rw[z,h]at e;cases e)];exact e
def jv(a b:Int)(m:D):Str:=if aR m (.int a)=true then "sound" else if aR m (.int b)=true then "faulty" else "other"
def bitK(us:List aG)(q:aG):Nat:=2 ^ us.idxOf q
def dg(a b:Int)(us:List aG):Tr->Nat->Nat->List Out
 |.e m,S,F=>[⟨jv a b m,S,F⟩]
 |.a q x y,S,F=>dg a b us y S (F ||| bitK us q)++dg a b us x (S ||| bitK us q) F
def I0(us:List aG):Tr->Prop
 |.e m=>m=.non\/∃v,m=.int v
 |.a q x y=>q∈us/\I0 us x/\I0 us y
def d_:Tr->Nat
 |.e _=>1
 |.a _ x y=>1+d_ x+d_ y
def wD(w:Tr×Nat×Nat):D:=.tup [w.1.d,.int (w.2.1:Nat),.int (w.2.2:Nat)]
def vW(a b:Int)(us:List aG)(ws:List (Tr×Nat×Nat)):List Out:=(ws.map λw=>dg a b us w.1 w.2.1 w.2.2).flatten
def cQ(ws:List (Tr×Nat×Nat)):Nat:=(ws.map λw=>d_ w.1).sum
theorem o9:∀t:Tr,1<=d_ t
 |.e _=>PZ _
 |.a _ x y=>by unfold d_;lia
theorem PB:∀e:List (Tr×Nat×Nat),e.length<=cQ e
 |[]=>PZ _
 |w::e=>by
  have:=PB e;have:=o9 w.1;simp only[cQ,PU,QJ,Qe]at *;lia
def bD(us:List aG):List (aG×D):=us.zipIdx.map λp=>(p.1,D.int ((2 ^ p.2:Nat):Int))
theorem Fk:(bD us).map (·.1)=us:=by
 unfold bD;rw[Ro];exact List.zipIdx_map_fst 0 us
theorem Kh(h:q∈us):cU (bD us) q=ap (.int ((bitK us q:Nat):Int)):=by
 have f:∀(l:List aG)(j:Nat),q∈l->cU ((l.zipIdx j).map λp=>(p.1,D.int ((2 ^ p.2:Nat):Int))) q=ap (.int ((2 ^ (j+l.idxOf q):Nat):Int)):=by
  intro l
  induction l with
  |nil=>intro j h;cases h
  |cons a r ih=>
   intro j h;rw[RI,PU];unfold cU;rw[Rb]
   by_cases e:a=q
   .subst e
    simp[List.idxOf_cons]
   .have w:(a==q)=false:=by simpa using e
    simp only[e,decide_false];have:=ih (j+1) (by rcases Ql.mp h with z|z;exact absurd z.symm e;exact z)
    unfold cU at this;rw[this,List.idxOf_cons,w];congr 4;simp only[cond_false];lia
 have:=f us 0 h;rw[Ut]at this;exact this
section
theorem uy{x:eg}{y:Out}(h:Q .non (M.upd x<|BA ad y)):HI ad [.ref x,.str y.v,.int (y.s:Nat),.int (y.f:Nat)] (M.upd x<|.ins ad.C_Outcome []) Q E:=by
 have p:bJ ("verdict":Str) (.str y.v) []=[(("verdict":Str),D.str y.v)]:=rfl;have e:bJ ("sound":Str) (.int (y.s:Nat)) [(("verdict":Str),D.str y.v)]=[(("verdict":Str),D.str y.v),(("sound":Str),D.int (y.s:Nat))]:=rfl;have w:bJ ("faulty":Str) (.int (y.f:Nat)) [(("verdict":Str),D.str y.v),(("sound":Str),D.int (y.s:Nat))]=[(("verdict":Str),D.str y.v),(("sound":Str),D.int (y.s:Nat)),(("faulty":Str),D.int (y.f:Nat))]:=rfl;rw[u_q0 (n:=0)];unfold GH;simp![Mem.upd_same,Mem.upd_upd,p,e,w,QN,Qe];exact⟨by decide,by decide,by decide,ak h⟩
structure OK(ad:Ad)(M0:Mem)(us:List aG)(db lf lw:eg)(as:Yx)(ds:List Out)(ws:List (Tr×Nat×Nat))(N:Mem):Prop where
 x:Ext M0 N
 f:M0 lf=cm
 w:M0 lw=cm
 b:M0 db=cm
 bd:N db=ap (.dK<|bD us)
 lf':N lf=ap (.lst<|as.map D.ref)
 lw':N lw=ap (.lst (ws.map wD).reverse)
 ne:lf≠lw
 nb:lf≠db
 ny:Lay ad N as ds
 few:as.length+cQ ws<=100000
 tr:∀w∈ws,I0 us w.1
theorem E_{cs ld:D}{J P B:eg}{as:Yx}{ds:List Out}{w:Tr×Nat×Nat}{p:List (Tr×Nat×Nat)}{c6 c7 c8 c9:Option D}(I:OK ad M0 us J P B as ds (w::p) N)(h:∀as' ds' O N' c6 c7 c8 c9,OK ad M0 us J P B as' ds' O N'->cQ O<cQ (w::p)->ds'++vW a b us O=ds++vW a b us (w::p)->D'.nx [ap cs,ap ld,ap (.tup [.int a,.int b]),ap (.ref J),ap (.ref P),ap (.ref B),c6,c7,c8,c9] N'):
  gJ ad EE D' [ap cs,ap ld,ap (.tup [.int a,.int b]),ap (.ref J),ap (.ref P),ap (.ref B),c6,c7,c8,c9] N:=by
 obtain⟨tr,S,F⟩:=w;have ew:((((tr,S,F)::p).map wD).reverse)=(p.map wD).reverse++[wD (tr,S,F)]:=by simp
 have H:=I.lw';rw[ew]at H;have Y:((p.map wD).reverse++[wD (tr,S,F)])[((p.map wD).reverse++[wD (tr,S,F)]).length-1]?=ap (wD (tr,S,F)):=by simp
 have W:=I.tr _ Qm;have few:=I.few;have len:=PB p;simp only[cQ,PU,QJ]at few len;unfold gJ;generalize hK7:kG ad EE=K7;simp only[ai,au,nN,ac,af,dt,PN,eI,H,A_,Y,List.dropLast_concat];refine⟨trivial,?_⟩;simp only[ag,Qi];rw[<- hK7];have wr:wD (tr,S,F)=.tup [tr.d,.int (S:Nat),.int (F:Nat)]:=rfl;unfold kG pA;generalize hK5:lN ad EE=K5;simp only[ai,au,ah,ac,dC,wr,aw,aO,atI_1,atI_2,ag,Qi,dt,PN];rw[<- hK5];have I1:∀{u:D},(N.upd B<|.lst (p.map wD).reverse) P=ap (.lst<|as.map D.ref):=λ{u}=>by rw[ae I.ne];exact I.lf'
 have ex1:Ext M0 (N.upd B<|.lst (p.map wD).reverse):=I.x.upd I.w;have X:Lay ad (N.upd B<|.lst (p.map wD).reverse) as ds:=I.ny.go λa x=>vy H a x;have Z:J≠B:=λz=>by have:=I.bd;rw[z,H]at this;cases this
 have A:(N.upd B<|.lst (p.map wD).reverse) J=ap (.dK<|bD us):=by rw[ae Z];exact I.bd
 generalize hN1:N.upd B (.lst (p.map wD).reverse)=N1 at *;have G:N1 B=ap (.lst (p.map wD).reverse):=by rw[<- hN1,Mem.upd_same]
 have uo:N1 P=ap (.lst<|as.map D.ref):=I1 (u:=.non);unfold lN;cases tr with
 |e m=>
  have ed:Tr.d (.e m)=.tup [.str "end",m]:=rfl;unfold pR;simp only[aN,ao,ah,ac,dC,aw,aO,atI_0,atI_1,ed,cB,dv,bn,aR,decide_true,if_true,dt,PN,bo,nN,eI,uo,aa,gb,aq,aj,af];refine⟨trivial,trivial,trivial,rfl,aP (λ_ _ q=>kj W q) ?_⟩;have fs:∀{x:Str}{M:Mem}{Q:DK},Q (.str x) M->frz (.str x) M Q:=λz=>z;refine fs ⟨rfl,λx R=>ar λQ' E' hq _=>uy (y:=⟨jv a b m,S,F⟩) (hq _ _ ?_)⟩;have nx:P≠x:=Mem.ne uo R;have nw:B≠x:=Mem.ne G R;have nd:J≠x:=Mem.ne A R;simp only[ca,ae nx,uo];refine⟨by simp[d_]at *;exact ji (by lia),?_⟩
  refine h (as++[x]) (ds++[⟨jv a b m,S,F⟩]) p _ _ _ _ _ ⟨(ex1.upd<|ex1.no R).upd I.f,I.f,I.w,I.b,?_,?_,?_,I.ne,I.nb,?_,?_,λw hw=>I.tr w (Qf _ hw)⟩ ?_ ?_
  .rw[ae (Qu I.nb),ae nd];exact A
  .rw[Mem.upd_same];simp
  .rw[ae (Qu I.ne),ae nw];exact G
  .refine Lay.snoc ?_ (X.go λa y e=>?_)
   .rw[ae (Qu nx),Mem.upd_same]
   .rw[ae (λz=>by rw[z,uo]at e;cases e),ae (Mem.ne e R)];exact e
  .simp only[cQ,PX,Rc,d_]at few ⊢;lia
  .simp[cQ,d_]
  .simp[vW,dg]
 |a q x y=>
  obtain⟨hq,htx,hty⟩:=W;have ed:Tr.d (.a q x y)=.tup [.str "ask",kD q,x.d,y.d]:=rfl;have hne:decide (("ask":Str)=("end":Str))=false:=by decide +kernel
  have gd:pU N1 J (kD q)=ap (ap<|.int ((bitK us q:Nat):Int)):=by simp only[pU,A,eR,Kh hq]
  have sq:aO N1 (.ref J)=none:=by simp only[aO,A]
  unfold pE qX qv;simp only[aN,ao,ah,ac,dC,aw,atI_0,atI_1,atI_2,atI_3,ed,cB,dv,bn,aR,hne,dt,PN,ai,au,aO,A,gd,ag,Qi,bo,nN,eI,G,aa,aM,af,oOr,jq,B6,ca,Mem.upd_same,Mem.upd_upd];refine⟨trivial,trivial,?_⟩;rw[if_neg (by simp)]
  have hr:(p.map wD).reverse.length=p.length:=by simp
  refine⟨trivial,aX (by simp),by rw[hr];exact ji (by simp[d_]at few;lia),trivial,aX (by simp),by rw[PX,hr];simp[d_]at few;exact ji (by simp;lia),?_⟩
  have er:((p.map wD).reverse++[D.tup [x.d,.int ((S ||| bitK us q:Nat):Int),.int (F:Nat)]])++[D.tup [y.d,.int (S:Nat),.int ((F ||| bitK us q:Nat):Int)]]=(((y,S,F ||| bitK us q)::(x,S ||| bitK us q,F)::p).map wD).reverse:=by simp[wD]
  rw[er];refine h as ds ((y,S,F ||| bitK us q)::(x,S ||| bitK us q,F)::p) _ _ _ _ _ ⟨ex1.upd I.w,I.f,I.w,I.b,by rw[ae Z];exact A,by rw[ae I.ne];exact uo,Mem.upd_same,I.ne,I.nb,X.go λa x=>vy G a x,?_,?_⟩ ?_ ?_
  .simp only[cQ,PU,QJ,d_]at few ⊢;lia
  .intro w hw
   rcases Ql.mp hw with z|hw
   .rw[z];exact hty
   .rcases Ql.mp hw with z|hw
    .rw[z];exact htx
    .exact I.tr w (Qf _ hw)
  .simp only[cQ,PU,QJ,d_];lia
  .simp[vW,dg]
end
section
variable{t:Sta}
theorem rP{us:List aG}{a b:Int}{S W:D}{H J G:eg}{M0:Mem}{D':DEnds}{EE:DX}{bx:BxW (eM<|ac 5) (gJ ad EE) D'}:∀(n:Nat)(F:Yx)(ds:List Out)(ws:List (Tr×Nat×Nat))(N:Mem)(e A p B:Option D),cQ ws<=n->OK ad M0 us H J G F ds ws N->
  (∀f N' e A p B,OK ad M0 us H J G f (ds++vW a b us ws) [] N'->D'.nx [ap S,ap W,ap (.tup [.int a,.int b]),ap (.ref H),ap (.ref J),ap (.ref G),e,A,p,B] N')->
  b_ (eM<|ac 5) (gJ ad EE) D' bx (n+1) [ap S,ap W,ap (.tup [.int a,.int b]),ap (.ref H),ap (.ref J),ap (.ref G),e,A,p,B] N
 |n,F,ds,[],N,e,A,p,B,hn,I,h=>by
  refine whF (λK q=>?_) (h F N e A p B<|by simpa [vW] using I)
  simp only[eM,ac,dt,PN,J5,I.lw'];exact q
 |0,F,ds,w::ws,N,e,A,p,B,hn,I,h=>by
  have:=o9 w.1;simp only[cQ,PU,QJ]at hn;lia
 |n+1,F,ds,w::ws,N,e,A,p,B,hn,I,h=>by
  refine whT (λK q=>?_) (E_ I λf P O N' d6 d7 Y d9 I' hlt he=>?_)
  .have:((((w::ws).map wD).reverse).isEmpty)=false:=by simp
   simp only[eM,ac,dt,PN,J5,I.lw',this];exact q
  .exact rP n f P O N' d6 d7 Y d9 (by lia) I' λR N2 e6 X e8 Z I2=>h R N2 e6 X e8 Z (by rw[<- he];exact I2)
theorem pW{us:List aG}:∀(n:Nat)(g:Gs),(∀x∈g.u,x∈us)->I0 us (bZ C s t n g)
 |0,g,h=>.inl rfl
 |n+1,g,h=>by
  obtain⟨⟨p,f⟩,A,hask⟩:=i8 (C:=C) (C.most+1) g;unfold bZ;cases e:(bE C (C.most+1) g).1 with
  |none=>
   show Kl C _=.non\/_;unfold Kl
   split
   .exact .inr ⟨_,rfl⟩
   .exact .inl rfl
  |some q=>
   have hs:∀v,∀x∈(cj (bE C (C.most+1) g).2 q v).u,x∈us:=λv x w=>by rw[dR]at w;exact h x (f x (Qa.mp w).1)
   exact⟨h q (f q<|hask q e),pW n _ (hs _),pW n _<|hs _⟩
theorem mx:∀t:Tr,d_ t=2*t.asks+1
 |.e _=>rfl
 |.a _ x y=>by unfold d_ Tr.asks;rw[mx x,mx y];lia
theorem o5:∀(us:List aG)(j:Nat),sI ((us.zipIdx j).map λp=>D.tup [kD p.1,.int ((2 ^ p.2:Nat):Int)])=ap ((us.zipIdx j).map λp=>(p.1,D.int ((2 ^ p.2:Nat):Int)))
 |[],_=>rfl
 |k::ks,j=>by simp only[RI,PU,sI,eR,o5 ks (j+1)]
theorem nQ(o:C.Ok)(hs:SOk C s)(ht:SOk C t)(ea:C.mark s=.int a)(eb:C.mark t=.int b)(P:a≠b)(hu:(aC C s t).length<24)(hc:1+(C.tree s t).asks<=L)(hL:L<=10000)(h:∀p as N,Ext M N->N p=ap (.lst<|as.map D.ref)->M p=cm->Lay ad N as (dg a b (aC C s t) (C.tree s t) 0 0)->Q (.ref p) N):zx ad [bI C s t,.int (L:Nat)] M Q E:=by
 have ul:=rN (s:=s) (t:=t) o;have hcs:=@N9 C s t;rw[NC (n:=0)];unfold y8;generalize G:iX ad (aB E)=K11;simp only[ai,au,aq,aj,aa,ac,af,dt];have ft:∀{xs:List D}{M:Mem}{Q:DK},Q (.tup xs) M->frz (.tup xs) M Q:=λz=>z;refine⟨rfl,aP (λ_ _ q=>n8 o hs ht ea eb P q)<|ft ?_⟩;simp only[ag,Qi];rw[<- G];unfold iX;generalize O:iW ad (aB E)=K10;simp only[ai,au,bF,aq,aY,nC,aj,aa,ac,af,bw,PU,Qt,Qn,Qo,dt,PN];refine⟨rfl,ar λQ' E' hq _=>ce o hs ht λp Y=>hq _ _ (cD Y ?_)⟩;simp only[aO,bN,iK];refine qj (λi d=>.tup [d,.int ((2 ^ i:Nat):Int)]) aT _ 0 [] _ _ (by simp;lia) (λi x R K q=>?_) ?_
 .have hi:i<200:=by
   have h1:i<((aC C s t).map kD).length:=by
    rcases RC i ((aC C s t).map kD).length with z|z
    .exact z
    .rw[QU z]at R;cases R
   rw[PQ]at h1;lia
  simp only[aM,aa,ah,ac,dC,af,Mz,oI,dt,PN];refine⟨⟨by lia,by lia,by decide⟩,aX (by simp),?_⟩
  have:(1:Int)*2 ^ (((0+i:Nat):Int)).toNat=((2 ^ (0+i):Nat):Int):=by rw[Qh];simp
  rw[this];exact q
 intro p Y;refine cD Y ?_;have e:([]:List D)++(((aC C s t).map kD).zipIdx 0).map (λp=>D.tup [p.1,.int ((2 ^ p.2:Nat):Int)])=((aC C s t).zipIdx 0).map λp=>D.tup [kD p.1,.int ((2 ^ p.2:Nat):Int)]:=by
  rw[Qo,List.zipIdx_map,Ro];rfl
 rw[e];have X:(([]:List (aG×D)).map (·.1)++(bD<|aC C s t).map (·.1)).Nodup:=by rw[Fk];exact yE o
 have B:=A3 X;rw[Qo]at B;simp only[fH,BD,gR,o5];refine⟨trivial,by simp;lia,λS H=>?_⟩
 have F:(List.foldl (λa p=>eG a p.fst p.snd) []<|List.map (λp=>(p.1,D.int ((2 ^ p.2:Nat):Int)))<|List.zipIdx<|aC C s t)=bD (aC C s t):=B;rw[F];simp only[bV,af,ag,Qi];refine⟨aX (by simp),λJ A=>?_⟩
 have n1:S≠J:=Mem.ne Mem.upd_same A;rw[ae n1.symm]at A;rw[<- O];unfold iW qQ;simp only[ai,au,bV,aa,aM,aj,ac,dC,af,dt,PN];refine⟨rfl,aP (λ_ _ q=>Br o hs ht ea eb P hu hc q) ⟨aX (by simp),aX (by simp),λW f=>?_⟩⟩
 have n2:J≠W:=Mem.ne Mem.upd_same f;rw[ae n2.symm]at f;have n3:S≠W:=Mem.ne Mem.upd_same f;rw[ae n3.symm]at f;simp only[ag,Qi,dD];have I:OK ad M (aC C s t) S J W [] [] [(C.tree s t,0,0)] (((M.upd S<|.dK<|bD<|aC C s t).upd J<|.lst []).upd W<|.lst [D.tup [(C.tree s t).d,.int 0,.int 0]]):=
  ⟨((Ext.new H).upd A).upd f,A,f,H,by rw[ae n3,ae n1,Mem.upd_same],by rw[ae n2,Mem.upd_same];rfl,Mem.upd_same,n2,n1.symm,.nil,by simp only[cQ,PU,Qt,QJ,Um,QN,mx];lia,λw hw=>by
   rcases Ql.mp hw with z|z
   .rw[z];exact pW 24 _ λx R=>R
   .cases z⟩
 refine⟨_,rP _ _ _ _ _ _ _ _ _ (PZ _) I λZ N' c6 c7 c8 c9 I'=>?_⟩;simp only[aF,ac,dt,PN];refine ak (h J Z N' I'.x I'.lf' A ?_);have:=I'.ny;simpa [vW] using this
end
def fct:Nat->Nat
 |0=>1
 |n+1=>fct n*(n+1)
theorem dW:∀n,0<fct n
 |0=>by decide
 |n+1=>Nat.mul_pos (dW n) (Nat.succ_pos n)
theorem tj:∀{a b:Nat},a<=b->fct a<=fct b:=by
 intro a b h
 induction b with
 |zero=>
  exact VP (congrArg fct<|Nat.le_zero.mp h)
 |succ b ih=>
  by_cases e:a=b+1
  .subst e;exact PZ _
  .exact Qp (ih<|by lia) (Nat.le_mul_of_pos_right _<|Nat.succ_pos b)
theorem fI{a:Nat}(h:a<=20):((fct a:Nat):Int)<2 ^ 64:=by
 have e:=tj h;have f:fct 20<2 ^ 64:=by decide
 have:fct a<2 ^ 64:=by lia
 exact_mod_cast this
def fZ(n:Nat):List D:=(QG (n+1)).map λi=>D.int ((fct i:Nat):Int)
theorem iu(h:i<=n):atI (fZ n) (i:Int)=ap (.int ((fct i:Nat):Int)):=by
 rw[br (by lia),Qh,fZ,Qj,RG (by lia)];rfl
theorem jA:atI (fZ n) (-1)=ap (.int ((fct n:Nat):Int)):=by
 have e:(fZ n).length=n+1:=by simp[fZ]
 unfold atI rA;rw[if_neg (by decide),e]
 rw[if_pos (by lia)]
 have:((-1:Int)+((n+1:Nat):Int)).toNat=n:=by lia
 rw[this];show (fZ n)[n]?=_;rw[fZ,Qj,RG (by lia)];rfl
section
variable{t:Sta}
theorem h_(H:n<=20)(h:∀p,M p=cm->Q (.ref p) (M.upd p<|.lst<|fZ n)):t8 ad [.int (n:Nat)] M Q E:=by
 rw[N_ (n:=0)];unfold zA pV;simp only[ai,au,bV,aa,dC,af,ag,Qi,cL,gs,ac,dt,PN];refine⟨aX (by simp),λp F=>⟨by lia,by lia,?_⟩⟩
 refine cg (λw U N=>∃(c:Option D)(j:Nat),j<=n/\w=(QG (n-j)).map (λ(i:Nat)=>D.int ((j+i:Nat):Int))/\U=[ap (.int (n:Nat)),ap (.ref p),c]/\N=M.upd p (.lst<|fZ j)) (λ_ _ _ _=>aT) ?_ ?_ _ _ _ ⟨cm,0,by lia,?_,rfl,rfl⟩
 .rintro U N ⟨c,j,B,e,rfl,rfl⟩
  have:j=n:=by
   have:=congrArg R7 e;simp at this;lia
  subst this;simp only[aF,ac,dt,PN];exact ak (h p F)
 .rintro y w U N ⟨c,j,B,e,rfl,rfl⟩ D' A _ _ _
  have f:j<n:=by
   rcases RC j n with z|z
   .exact z
   .rw[show n-j=0 by lia]at e;simp at e
  rw[show n-j=(n-(j+1))+1 by lia,VA]at e
  simp only[PU,Ro,VQ,Ru]at e;obtain⟨rfl,rfl⟩:=e;unfold qo;simp only[ag,Qi,bo,nN,ac,aa,ah,dC,af,uK,dt,PN,eI,Mem.upd_same,aw,aO,jA,aZ,cN,ca,Mem.upd_upd];have G:=fI (a:=j) (by lia)
  refine⟨trivial,.inl ⟨by lia,G⟩,by simp[fZ];exact ji (by lia),A _ _ ⟨_,j+1,f,?_,rfl,?_⟩⟩
  .refine Q6 λi _=>?_
   simp only[Function.comp];congr 2;lia
  .congr 2
   unfold fZ;rw[UM (n:=j+1),Sm];simp[fct]
 .simp[dU]
theorem sj{n d:Int}{EE:DX}{D':DEnds}{B:BxW (ao<|ah jW (ac 3)<|dC<|.int 0) (nH ad EE) D'}:∀(f:Nat)(v r:Nat)(p:Option D),r<f->r<v->(∀p,D'.nx [ap (.int n),ap (.int d),ap (.int ((So v r:Nat):Int)),ap (.int 0),p] M)->
  b_ (ao<|ah jW (ac 3)<|dC<|.int 0) (nH ad EE) D' B (f+1) [ap (.int n),ap (.int d),ap (.int (v:Nat)),ap (.int (r:Nat)),p] M
 |0,v,r,p,hf,hv,h=>by lia
 |f+1,v,r,p,hf,hv,h=>by
  have w:∀K:Bool->Mem->Prop,K (!decide (((r:Nat):Int)=0)) M->ao (ah jW (ac 3)<|dC<|.int 0) [ap (.int n),ap (.int d),ap (.int (v:Nat)),ap (.int (r:Nat)),p] M K:=λK q=>by
   simp only[ao,ah,ac,dC,jW,dv,bn,aR,dt,PN];exact⟨trivial,trivial,q⟩
  by_cases A:r=0
  .subst A
   refine whF (λK q=>w K (by simpa using q)) ?_
   have:=h p;rw[Nat.gcd_zero_right]at this;exact this
  .refine whT (λK q=>w K (by
    have:¬((r:Nat):Int)=0:=by lia
    rw[decide_eq_false this];exact q)) ?_
   unfold nH vH;have e:((v:Nat):Int) % ((r:Nat):Int)=((v % r:Nat):Int):=by simp
   simp only[ai,au,ah,ac,ag,Qi,dw,oI,dt,PN,e];refine⟨by lia,sj f r (v % r) _ ?_ ?_ λp=>?_⟩
   .have:=Nat.mod_lt v (show r>0 by lia);lia
   .exact Nat.mod_lt v (by lia)
   .have:=h p
    rw[Nat.gcd_comm v r,Nat.gcd_rec,Nat.gcd_comm]at this;exact this
theorem t6{n:Int}{d:Nat}(p:0<d)(e:d<2 ^ 190)(h:Q (.tup [.int (n / ((So d (n % (d:Int)).toNat:Nat):Int)),.int (((d:Nat):Int) / ((So d (n % (d:Int)).toNat:Nat):Int))]) M):GU ad [.int n,.int (d:Nat)] M Q E:=by
 rw[u_q1 (n:=0)];unfold HD vU vx;have H:=Q0 n (show ((d:Nat):Int)≠0 by lia)
 have F:=Q8 n (show (0:Int)<((d:Nat):Int) by lia)
 have A:n % ((d:Nat):Int)=(((n % (d:Int)).toNat:Nat):Int):=by lia
 simp only[ai,au,ah,ac,ag,Qi,dw,oI,dt,PN,dD];refine⟨by lia,(n % (d:Int)).toNat+2,?_⟩
 rw[A];have G:0<So d (n % (d:Int)).toNat:=Vy _ p;have w:So d (n % (d:Int)).toNat<=d:=Nat.gcd_le_left _ p;refine sj _ d _ _ (by lia) (by lia) λB=>?_
 unfold vz;have f:((So d (n % (d:Int)).toNat:Nat):Int)<2 ^ 200:=by
  have:So d (n % (d:Int)).toNat<2 ^ 200:=Te w (Uu e<|by decide)
  exact_mod_cast this
 simp only[aF,aM,aa,ah,ac,af,g_,oI,wt,dt,PN];exact⟨⟨by lia,f⟩,⟨by lia,f⟩,aX (by simp),ak h⟩
end
mutual
theorem xm:∀(d:D)(n:Nat),bn n d=true->aR d d=true
 |.non,_,_=>rfl
 |.bl b,_,_=>by simp[aR]
 |.int i,_,_=>by simp[aR]
 |.str x,_,_=>by simp[aR]
 |.tup xs,n+1,h=>by simp only[aR];exact uz xs n (by simpa [bn] using h)
 |.lst xs,n+1,h=>by simp only[aR];exact uz xs n (by simpa [bn] using h)
 |.tup xs,0,h=>by simp[bn]at h
 |.lst xs,0,h=>by simp[bn]at h
 |.ty x,n,h=>by cases n<;>simp[bn]at h
 |.ref x,n,h=>by cases n<;>simp[bn]at h
 |.mt x,n,h=>by cases n<;>simp[bn]at h
 |.ml x,n,h=>by cases n<;>simp[bn]at h
theorem uz:∀(ds:List D)(n:Nat),bv n ds=true->fJ ds ds=true
 |[],_,_=>by simp[fJ]
 |d::ds,n,h=>by
  simp only[bv,Q9]at h;simp only[fJ,xm d n h.1,uz ds n h.2,Vi]
end
def ic(n:Nat)(x:Out)(i:Nat):Int:=
 (if x.f.testBit i=true then ((fct n / fct ((az x.f).length+(az x.s).length)*fct ((az x.f).length-1)*fct (az x.s).length:Nat):Int) else 0)
 - (if x.s.testBit i=true then ((fct n / fct ((az x.f).length+(az x.s).length)*fct (az x.f).length*fct ((az x.s).length-1):Nat):Int) else 0)
def bU(n:Nat)(xs:List Out)(i:Nat):Int:=(xs.map λx=>ic n x i).sum
def cG(n:Nat)(T:Nat->Int):List D:=(QG n).map λi=>D.int (T i)
structure OutOk(n:Nat)(x:Out):Prop where
 s:x.s<2 ^ n
 f:x.f<2 ^ n
 l:(az x.f).length+(az x.s).length<=n
theorem rF(h:j<n):(cG n T).set j (.int v)=cG n λi=>if i=j then v else T i:=by
 unfold cG;refine List.ext_getElem? λi=>?_;rw[Tn]
 by_cases e:j=i
 .subst e
  rw[if_pos rfl,Qj,RG h];simp[h]
 .rw[if_neg e,Qj,Qj]
  by_cases f:i<n
  .rw[RG f]
   have:¬i=j:=λz=>e z.symm;simp[this]
  .rw[QU (by simp;lia)];rfl
theorem qJ(h:j<n):(cG n T)[j]?=ap (.int<|T j):=by
 unfold cG;rw[Qj,RG h];rfl
theorem zo{b:Nat}:(az b).Nodup:=UK _ Uz
theorem dB{b:Nat}(h:b<2 ^ n):i∈az b↔i<n/\b.testBit i=true:=by
 rw[gz h,Qa,Ri]
section
variable{t:Sta}
theorem mD{n:Nat}{D':DEnds}{lt:eg}{F:av}{ok:Mem->Prop}{J:BxF (ag 10) F D' ok}{v:Int}{δ0:Dl}{P:Prop}(p:∀M,ok M)(A:δ0.length=10)
  (B:P->∀(j:Nat)(T:Nat->Int)(N:Mem)(D2:DEnds),j<n->N lt=ap (.lst<|cG n T)->D2.nx (δ0++[ap (.int (j:Nat))]) (N.upd lt<|.lst (cG n λi=>if i=j then T i+v else T i))->F D2 (δ0++[ap (.int (j:Nat))]) N):
  ∀(f:List Nat)(T:Nat->Int)(N:Mem)(c:Option D),(f≠[]->P)->(∀j∈f,j<n)->f.Nodup->N lt=ap (.lst<|cG n T)->(∀c,D'.nx (δ0++[c]) (N.upd lt<|.lst (cG n λi=>T i+if i∈f then v else 0)))->
  gY (ag 10) F D' ok J (f.map λ(j:Nat)=>D.int (j:Int)) (δ0++[c]) N
 |[],T,N,c,hP,hj,nd,hN,h=>by
  unfold gY;refine⟨p _,?_⟩;have:=h c;simp only[QM,if_false,TU]at this;rw[mF hN]at this;exact this
 |j::f,T,N,c,hP,hj,nd,hN,h=>by
  unfold gY;refine⟨p _,?_⟩;have I:(δ0++[c]).set 10 (ap<|.int (j:Int))=δ0++[ap (.int (j:Int))]:=by
   rw[List.set_append_right _ _ (by lia),A];rfl
  simp only[ag,I];have w:=RT.mp nd;refine B (hP<|by simp) j T N _ (hj j Qm) hN ?_
  refine mD p A B f _ _ _ (λ_=>hP (by simp)) (λx H=>hj x (Qf _ H)) w.2 Mem.upd_same λc=>?_
  rw[Mem.upd_upd];have e:(λi=>(if i=j then T i+v else T i)+if i∈f then v else 0)=λi=>T i+if i∈j::f then v else 0:=by
   funext i
   by_cases G:i=j
   .subst G
    simp[w.1]
   .simp[G]
  rw[e];exact h c
theorem El{x:Out}{a:eg}{lt:eg}{R S O w:D}{c7 c8 c9 F:Option D}(hn:n<=20)(B:OutOk n x)(ha:N a=ap (BA ad x))(hl:N lt=ap (.lst<|cG n T))(h:∀c7 c8 c9 F,D'.nx [ap R,ap S,ap O,ap (.ref lt),ap w,ap (.lst<|fZ n),ap (.ref a),c7,c8,c9,F] (N.upd lt<|.lst (cG n λi=>T i+ic n x i))):
  gx ad EE D' [ap R,ap S,ap O,ap (.ref lt),ap w,ap (.lst<|fZ n),ap (.ref a),c7,c8,c9,F] N:=by
 have hx1:=B.l;have p1:x.f<2 ^ 200:=Qc B.f (QR (by decide)<|Qp hn<|by decide)
 have p2:x.s<2 ^ 200:=Qc B.s (QR (by decide)<|Qp hn<|by decide)
 have f1:Qy ("faulty":Str) [(("verdict":Str),D.str x.v),(("sound":Str),D.int (x.s:Nat)),(("faulty":Str),D.int (x.f:Nat))]=ap (.int (x.f:Nat)):=rfl;have f2:Qy ("sound":Str) [(("verdict":Str),D.str x.v),(("sound":Str),D.int (x.s:Nat)),(("faulty":Str),D.int (x.f:Nat))]=ap (.int (x.s:Nat)):=rfl;unfold BA at ha;unfold gx;generalize W:kM ad EE=K5;simp only[ai,au,aq,aj,aa,b6,ac,af,dt,PN,ha,f1];refine⟨trivial,rfl,ar λQ' E' hq _=>gq p1 λp hp=>hq _ _ (cD hp ?_)⟩;simp only[ag,Qi];rw[<- W];unfold kM;generalize hK4:lU ad EE=K4;simp only[ai,au,aq,aj,aa,b6,ac,af,dt,PN,ha,f2];refine⟨trivial,rfl,ar λQ' E' hq _=>gq p2 λp hp=>hq _ _ (cD hp ?_)⟩;simp only[ag,Qi];rw[<- hK4];unfold lU;generalize hK3:lY ad EE=K3;generalize H:(az x.f).length=al at *;generalize I:(az x.s).length=zl at *;have la:∀(l:List Nat),(l.map λ(i:Nat)=>D.int (i:Int)).length=l.length:=λl=>by simp
 have eaz:((al:Nat):Int)+((zl:Nat):Int)=((al+zl:Nat):Int):=by lia
 simp only[ai,au,ah,ac,bF,aa,af,dC,aq,uK,dt,PN,bR,aO,aw,jA,la,H,I,aZ,frz,eaz,iu (show al+zl<=n by lia),g_,oI,wt,ag,Qi]
 have fb:=fI (a:=al+zl) (by lia)
 have fp:=dW (al+zl);refine⟨⟨by lia,Int.lt_trans fb<|by decide⟩,?_⟩
 have ee:((fct n:Nat):Int) / ((fct (al+zl):Nat):Int)=((fct n / fct (al+zl):Nat):Int):=by simp
 rw[ee,<- hK3];unfold lY pK qN;simp only[ai,cL,bK,ac,aO,bN,dt,PN];have hz:zl<=n:=by lia
 have b1:=fI (a:=zl) (by lia)
 have b2:=fI (a:=al) (by lia)
 have b1':(0:Int)<=((fct zl:Nat):Int):=by lia
 refine mD (n:=n) (lt:=lt) (P:=0<al) (δ0:=[ap R,ap S,ap O,ap (.ref lt),ap w,ap (.lst<|fZ n),ap (.ref a),ap (.lst ((az x.f).map λ(i:Nat)=>D.int (i:Int))),ap (.lst ((az x.s).map λ(i:Nat)=>D.int (i:Int))),ap (.int ((fct n / fct (al+zl):Nat):Int))]) (v:=((fct n / fct (al+zl)*fct (al-1)*fct zl:Nat):Int)) (λ_=>aT) rfl (λhP j T N D2 A Z q=>?_) (az x.f) T N F (λz=>?_) (λj A=>((dB B.f).mp A).1) zo hl λc=>?_
 .have X:((al:Nat):Int)-1=((al-1:Nat):Int):=by lia
  have b3:=fI (a:=al-1) (by lia)
  have Y:((fct n / fct (al+zl):Nat):Int)*((fct (al-1):Nat):Int)*((fct zl:Nat):Int)=((fct n / fct (al+zl)*fct (al-1)*fct zl:Nat):Int):=by simp
  simp only[Qn,Qo]at q ⊢;simp only[s_,ac,ah,bF,aa,af,dC,dt,PN,Ej,Z,Qh,qJ A,bR,aO,aw,la,H,I,gu,jq,X,iu (show al-1<=n by lia),iu hz,cN,oi,Y,my]
  have ix:rA (cG n T).length ((j:Nat):Int)=ap j:=by rw[fj (by lia) (by simp[cG];exact A),Qh]
  simp only[ix,rF A];refine⟨by lia,.inr ⟨by lia,b3⟩,.inr ⟨by lia,b1⟩,?_⟩
  have G:(λi=>if i=j then T j+((fct n / fct (al+zl)*fct (al-1)*fct zl:Nat):Int) else T i)=λi=>if i=j then T i+((fct n / fct (al+zl)*fct (al-1)*fct zl:Nat):Int) else T i:=by
   funext i
   by_cases e:i=j
   .subst e;rfl
   .simp[e]
  rw[G];exact q
 .rw[<- H];exact V2.mpr z
 .simp only[Qn,Qo,dt,PN]
  refine mD (n:=n) (lt:=lt) (P:=0<zl) (δ0:=[ap R,ap S,ap O,ap (.ref lt),ap w,ap (.lst<|fZ n),ap (.ref a),ap (.lst ((az x.f).map λ(i:Nat)=>D.int (i:Int))),ap (.lst ((az x.s).map λ(i:Nat)=>D.int (i:Int))),ap (.int ((fct n / fct (al+zl):Nat):Int))]) (v:=-((fct n / fct (al+zl)*fct al*fct (zl-1):Nat):Int)) (λ_=>aT) rfl (λhP j T N D2 A Z q=>?_) (az x.s) _ _ c (λz=>?_) (λj A=>((dB B.s).mp A).1) zo Mem.upd_same λc=>?_
  .have X:((zl:Nat):Int)-1=((zl-1:Nat):Int):=by lia
   have b3:=fI (a:=zl-1) (by lia)
   have Y:((fct n / fct (al+zl):Nat):Int)*((fct al:Nat):Int)*((fct (zl-1):Nat):Int)=((fct n / fct (al+zl)*fct al*fct (zl-1):Nat):Int):=by simp
   simp only[Qn,Qo]at q ⊢;simp only[s_,ac,ah,bF,aa,af,dC,dt,PN,Ej,Z,Qh,qJ A,bR,aO,aw,la,H,I,gu,jq,X,iu (show zl-1<=n by lia),iu (show al<=n by lia),cN,oi,Y,my]
   have ix:rA (cG n T).length ((j:Nat):Int)=ap j:=by rw[fj (by lia) (by simp[cG];exact A),Qh]
   simp only[ix,rF A];refine⟨by lia,.inr ⟨by lia,b2⟩,.inr ⟨by lia,b3⟩,?_⟩
   have G:(λi=>if i=j then T j-((fct n / fct (al+zl)*fct al*fct (zl-1):Nat):Int) else T i)=λi=>if i=j then T i+-((fct n / fct (al+zl)*fct al*fct (zl-1):Nat):Int) else T i:=by
    funext i
    by_cases e:i=j
    .subst e;simp[Int.sub_eq_add_neg]
    .simp[e]
   rw[G];exact q
  .rw[<- I];exact V2.mpr z
  .rw[Mem.upd_upd]
   have G:cG n (λi=>(T i+if i∈az x.f then ((fct n / fct (al+zl)*fct (al-1)*fct zl:Nat):Int) else 0)+if i∈az x.s then -((fct n / fct (al+zl)*fct al*fct (zl-1):Nat):Int) else 0)=cG n λi=>T i+ic n x i:=by
    unfold cG;refine Q6 λi J=>?_;have J:=Ri.mp J;congr 1;unfold ic;rw[H,I];have m1:(i∈az x.f)=(x.f.testBit i=true):=propext ⟨λz=>((dB B.f).mp z).2,λz=>(dB B.f).mpr ⟨J,z⟩⟩;have m2:(i∈az x.s)=(x.s.testBit i=true):=propext ⟨λz=>((dB B.s).mp z).2,λz=>(dB B.s).mpr ⟨J,z⟩⟩;simp only[m1,m2]
    split<;>split<;>lia
   rw[G];exact h _ _ _ _
end
def N8(N:Mem)(a:eg):Bool:=match N a with
 |some (.ins _ fs)=>match fs.lookup ("verdict":Str) with
  |some (.str v)=>decide (v=("faulty":Str))
  |_=>eC
 |_=>eC
theorem Er{a:eg}{x:Out}(h:N a=ap (BA ad x)):N8 N a=decide (x.v=("faulty":Str)):=by
 unfold N8;rw[h];rfl
theorem Lay.filt{ad:Ad}{N:Mem}:∀{p:Yx}{xs:List Out},Lay ad N p xs->Lay ad N (p.filter<|N8 N) (xs.filter λx=>decide (x.v=("faulty":Str)))
 |_,_,.nil=>.nil
 |_,_,.cons (a:=a) (x:=x) h t=>by
  have e:=Er h;have f:=t.filt
  by_cases c:x.v=("faulty":Str)
  .rw[Vo (by rw[e];simpa using c),Vo (by simpa using c)]
   exact .cons h f
  .rw[Vp (by rw[e];simpa using c),Vp (by simpa using c)]
   exact f
theorem Lay.mem{ad:Ad}{N:Mem}{c:eg}:∀{e:Yx}{xs:List Out},Lay ad N e xs->c∈e->∃y,N c=ap (BA ad y)
 |_,_,.nil,h=>by cases h
 |_,_,.cons h t,hc=>by
  rcases Ql.mp hc with z|z
  .rw[z];exact⟨_,h⟩
  .exact t.mem z
theorem jh{a b:Int}{us:List aG}:∀(t:Tr){S F:Nat},(dg a b us t S F).length=t.asks+1
 |.e m,S,F=>rfl
 |.a q x y,S,F=>by unfold dg Tr.asks;rw[PX,jh x,jh y];lia
section
variable{t:Sta}
theorem tF{n:Nat}{lt:eg}{P R J p:D}{D':DEnds}{EE:DX}{ok:Mem->Prop}{bx:BxF (ag 6) (gx ad EE) D' ok}(O:n<=20)(w:∀M,ok M):∀(I:Yx)(xs:List Out)(T:Nat->Int)(N:Mem)(A F B G f:Option D),Lay ad N I xs->(∀x∈xs,OutOk n x)->N lt=ap (.lst<|cG n T)->
  (∀A F B G f,D'.nx [ap P,ap R,ap J,ap (.ref lt),ap p,ap (.lst<|fZ n),A,F,B,G,f] (N.upd lt<|.lst (cG n λi=>T i+bU n xs i)))->
  gY (ag 6) (gx ad EE) D' ok bx (I.map D.ref) [ap P,ap R,ap J,ap (.ref lt),ap p,ap (.lst<|fZ n),A,F,B,G,f] N
 |_,_,T,N,A,F,B,G,f,.nil,hx,hl,h=>by
  have:=h A F B G f;simp only[bU,Qt,Um,TU]at this;rw[mF hl]at this;exact⟨w _,this⟩
 |_,_,T,N,A,F,B,G,f,.cons (a:=a) (x:=x) (xs:=xs) ha ht,hx,hl,h=>by
  rw[PU];unfold gY;refine⟨w _,?_⟩;simp only[ag,Qi];refine El O (hx x Qm) ha hl λd7 d8 d9 d10=>?_;refine tF O w _ xs _ _ _ _ _ _ _ (ht.go λb y e=>vy hl b y e) (λy Y=>hx y (Qf _ Y)) Mem.upd_same λZ S X W H=>?_;rw[Mem.upd_upd];have:=h Z S X W H;simp only[bU,PU,QJ]at this ⊢;simp only[Int.add_assoc];exact this
theorem nP(o:C.Ok)(hs:SOk C s)(ht:SOk C t)(ea:C.mark s=.int a)(eb:C.mark t=.int b)(hab:a≠b)(hu:(aC C s t).length<=20)(hc:1+(C.tree s t).asks<=L)(hL:L<=10000)(H:∀x∈(dg a b (aC C s t) (C.tree s t) 0 0).filter (λx=>decide (x.v=("faulty":Str))),OutOk (aC C s t).length x)(h:∀p,M p=cm->Q (.ref p) (M.upd p<|.lst<|cG (aC C s t).length<|bU (aC C s t).length ((dg a b (aC C s t) (C.tree s t) 0 0).filter λx=>decide (x.v=("faulty":Str))))):uh ad [bI C s t,.int (L:Nat)] M Q E:=by
 rw[P7 (n:=0)];unfold yw;generalize B:j6 ad (aB E)=K10;simp only[ai,au,aq,aj,aa,ac,af,dt];refine⟨rfl,ar λQ' E' G _=>ce o hs ht λp J=>G _ _ (cD J ?_)⟩;simp only[ag,Qi];rw[<- B];unfold j6;generalize O:lB ad (aB E)=K9;simp only[ai,df,aY,bK,ac,aO,bN,bw,PU,Qt,Qn,Qo,dt,PN];refine gj (λ_=>.int 0) aT (by simp;lia) (λx H K q=>q) ?_
 intro lt hlt;have e0:((aC C s t).map kD).map (λ_=>D.int 0)=cG (aC C s t).length λ_=>0:=by
  unfold cG;rw[Ro];refine List.ext_getElem (by simp) λi h1 h2=>?_
  simp
 rw[e0];simp only[Qi];rw[<- O];unfold lB;generalize X:kI ad (aB E)=K8;simp only[ai,cE,df,aY,bK,aq,aj,aa,ac,af,bw,PU,Qt,Qn,Qo,dt,PN];refine⟨rfl,ar λQ' E' G _=>nQ o hs ht ea eb hab (by lia) hc hL λp I N P J A ny=>G _ _ ?_⟩
 have nl:lt≠p:=λz=>by rw[<- z,Mem.upd_same]at A;cases A
 have F:N lt=ap (.lst (cG (aC C s t).length λ_=>0)):=P _ _ Mem.upd_same;simp only[frz,J];simp only[aO,bN];have w:Lay ad (N.del p) I (dg a b (aC C s t) (C.tree s t) 0 0):=ny.go λc y e=>by unfold Mem.del;rw[if_neg (λz=>by rw[z,J]at e;cases e)];exact e
 have Z:(N.del p) lt=ap (.lst (cG (aC C s t).length λ_=>0)):=by unfold Mem.del;rw[if_neg nl];exact F
 have W:Ext (M.upd lt<|.lst (cG (aC C s t).length λ_=>0)) (N.del p):=P.del A;have hno:∀{z:eg},(N.del p) z=cm->M z=cm\/z=p:=λ{z} e=>by
  unfold Mem.del at e
  split at e
  .exact .inr (by assumption)
  .refine .inl ?_
   have:=P.no e
   by_cases c:z=lt
   .rw[c,Mem.upd_same]at this;cases this
   .rw[ae c]at this;exact this
 generalize N.del p=N1 at *;have al:=w.length;have S:I.length<=100000:=by rw[al,jh];lia
 refine dk (λd=>match d with|.ref a=>N8 N1 a|_=>eC) id aT (by simpa using S) (λx H K q=>?_) (λx H _ K q=>q) ?_
 .obtain⟨c,hcm,rfl⟩:=Qv.mp H
  obtain⟨y,hy⟩:=w.mem hcm;have l1:Qy ("verdict":Str) [(("verdict":Str),D.str y.v),(("sound":Str),D.int (y.s:Nat)),(("faulty":Str),D.int (y.f:Nat))]=ap (.str y.v):=rfl;have q':K (decide (y.v=("faulty":Str))) N1:=by rw[<- Er hy];exact q
  unfold BA at hy;simp only[ao,ah,b6,ac,dC,dt,hy,l1,cB,dv,bn,aR];exact⟨trivial,trivial,trivial,q'⟩
 intro p4 hp4;have e4:((I.map D.ref).filter λd=>match d with|.ref a=>N8 N1 a|_=>eC).map id=(I.filter<|N8 N1).map D.ref:=by
  rw[RA,Rk];rfl
 rw[e4];simp only[fE,Qi,dt,PN];refine cD (Q:=λd M'=>K8 _ [ap (bI C s t),ap (.int (L:Nat)),ap (.lst<|(aC C s t).map kD),ap (.ref lt),ap d,cm,cm,cm,cm,cm,cm] M') hp4 ?_;rw[<- X];unfold kI;generalize hK7:lD ad (aB E)=K7;have lu:((aC C s t).map kD).length=(aC C s t).length:=by simp
 simp only[ai,au,aq,aj,bF,aa,ac,af,bR,aO,lu,dt,PN];refine⟨rfl,ar λQ' E' G _=>h_ hu λp5 R=>G _ _ (cD R ?_)⟩;simp only[ag,Qi];rw[<- hK7];unfold lD;simp only[ai,cL,bK,ac,aO,bN,dt,PN];refine tF hu (λ_=>aT) _ _ _ _ _ _ _ _ _ w.filt H Z λc6 c7 c8 c9 c10=>?_;simp only[aF,ac,dt,PN,TR];have Y:M lt=none:=hlt;refine⟨_,λz ob e=>?_,h lt Y⟩
 by_cases c:z=lt
 .subst c;rw[Mem.upd_same]at e ⊢;exact e
 .rw[ae c]at e ⊢
  exact W z ob (by rw[ae c];exact e)
end
def xQ(n:Nat)(T:Nat->Int)(i:Nat):D:=.tup [.int (T i / ((So (fct n) (T i % ((fct n:Nat):Int)).toNat:Nat):Int)),.int (((fct n:Nat):Int) / ((So (fct n) (T i % ((fct n:Nat):Int)).toNat:Nat):Int))]
mutual
theorem P5:∀(r:Rw)(n:Nat),2*hR r+1<=n->bn n r.d=true
 |.put _ _,n+1,_=>by simp[Rw.d,bn,bv]
 |.take _ _,n+1,_=>by simp[Rw.d,bn,bv]
 |.pick _ _,n+1,_=>by simp[Rw.d,bn,bv]
 |.two _ _ _ _,n+1,_=>by simp[Rw.d,bn,bv]
 |.ifr _ a b,n+2,h=>by
  simp only[hR]at h;have e:=jO a n (by lia)
  have f:=jO b n (by lia)
  simp[Rw.d,bn,bv,e,f]
 |.again _ a,n+2,h=>by
  simp only[hR]at h;have e:=jO a n (by lia)
  simp[Rw.d,bn,bv,e]
 |.ifr _ _ _,0,h=>by lia
 |.ifr _ _ _,1,h=>by simp only[hR]at h;lia
 |.again _ _,0,h=>by lia
 |.again _ _,1,h=>by simp only[hR]at h;lia
theorem jO:∀(rs:List Rw)(n:Nat),2*ei rs+1<=n->bv n (aA rs)=true
 |[],n,_=>by simp[aA,bv]
 |r::rs,n,h=>by
  simp only[ei]at h;simp[aA,bv,P5 r n (by lia),jO rs n (by lia)]
end
theorem sv:∀(n:Nat)(xs:Yv),bv n (xs.map D.str)=true
 |n,[]=>by simp[bv]
 |n,x::xs=>by
  rw[PU];unfold bv;rw[sv n xs];cases n<;>rfl
section
variable{t:Sta}
theorem Ex(o:C.Ok):bn 60 C.d=true:=by
 have e:=jO C.rows 58 (by have:=o.h;lia)
 have f:=sv 58 C.names;unfold Cse.d;simp[bn,bv,e,f]
theorem tP(o:C.Ok)(hs:SOk C s)(ht:SOk C t)(ea:C.mark s=.int a)(eb:C.mark t=.int b)(X:a≠b)(Z:(aC C s t).length<=20)(hc:1+(C.tree s t).asks<=L)(hL:L<=10000)(f:∀x∈(dg a b (aC C s t) (C.tree s t) 0 0).filter (λx=>decide (x.v=("faulty":Str))),OutOk (aC C s t).length x)(hT:bU (aC C s t).length ((dg a b (aC C s t) (C.tree s t) 0 0).filter λx=>decide (x.v=("faulty":Str)))=T)(Y:∀i,i<(aC C s t).length->-1000000000000000<=T i/\T i<=1000000000000000)(h:∀p,M p=cm->Q (.ref p) (M.upd p<|.lst (((aC C s t).zipIdx 0).map λp=>D.tup [kD p.1,xQ (aC C s t).length T p.2]))):wA ad [.lst [bI C s t],.int (L:Nat)] M Q E:=by
 have B:=@N9 C s t;have fp:=dW (aC C s t).length;have O:=fI Z;rw[NO (n:=0)];unfold xH;generalize F:lh ad (aB E)=K5;simp only[ai,au,aq,aY,bK,ac,aO,bN,bw,PU,Qt,Qn,Qo,dt,PN,Q4];have te:∀{K:DK}{c:Option D},K (.lst<|cG (aC C s t).length T) M->(λU M Q=>aj (uh ad) jf 2 (aa (ac 0)<|aa (ac 1) af) U M λd M'=>frz d M' Q) [ap (bI C s t),ap (.int (L:Nat))] M K:=λ{K c} q=>by
  simp only[aj,aa,ac,af,dt,PN];refine⟨rfl,ar λQ' E' A _=>nP o hs ht ea eb X Z hc hL f λp w=>A _ _ (cD w ?_)⟩;rw[hT];exact q
 refine gj (λ_=>.lst (cG (aC C s t).length T)) aT (by simp) (λx f K q=>?_) ?_
 .have:x=bI C s t:=by simpa using f
  subst this;exact te (c:=cm) q
 intro p w;refine cD w ?_;simp only[PU,Qt,ag,Qi];rw[<- F];unfold lh;generalize P:m8 ad (aB E)=K4;simp only[ai,au,aq,aj,aa,ah,ac,dC,af,aw,aO,atI_0,dt,PN];refine⟨rfl,ar λQ' E' A _=>ce o hs ht λp w=>A _ _ (cD w ?_)⟩;simp only[ag,Qi];rw[<- P];unfold m8;generalize I:kN ad (aB E)=K3;simp only[ai,cL,bK,ac,aO,bN,dt,PN];have fu:bn 60 (.lst<|(aC C s t).map kD)=true:=by unfold bn;exact x_ 59 _
 have fd:=Ex o;have S:∀{M:Mem},dv M C.d=C.d:=rfl;unfold gY;refine⟨aT,?_⟩;simp only[ag,Qi];unfold pP;simp only[aN,BG,ao,ah,ac,dC,aw,aO,atI_0,dt,PN,B,jW,S,fd,xm _ _ fd,SI];refine⟨trivial,trivial,?_⟩;rw[if_neg (by simp)]
 simp only[aq,aj,aa,ac,af,dt,PN];rw[<- B];refine⟨rfl,ar λQ' E' A _=>ce o hs ht λp w=>A _ _ (cD w ?_)⟩;have H:∀{M:Mem},dv M (.lst<|(aC C s t).map kD)=.lst ((aC C s t).map kD):=rfl;simp only[H,fu,xm _ _ fu,SI];refine⟨trivial,trivial,?_⟩;rw[if_neg (by simp)]
 simp only[aH];unfold gY;refine⟨aT,?_⟩;rw[<- I];unfold kN;generalize J:ku ad (aB E)=K2;have lu:((aC C s t).map kD).length=(aC C s t).length:=by simp
 simp only[ai,au,ah,aq,aj,bF,aa,ac,af,dC,uK,bR,aO,lu,dt,PN];refine⟨rfl,ar λQ' E' A _=>h_ Z λp5 G=>A _ _ (cD G ?_)⟩;simp only[aw,aO,jA,cN,Qe,QN];refine⟨.inr ⟨by decide,by decide⟩,?_⟩
 have ew:((fct (aC C s t).length:Nat):Int)*(((0+1:Nat)):Int)=((fct (aC C s t).length:Nat):Int):=by simp
 simp only[ag,Qi,ew];rw[<- J];unfold ku;simp only[aF,aY,nC,aa,ac,af,aO,bN,iK,bw,PU,Qt,Qn,Qo,dt,PN,Q4];refine qj (λi d=>.tup [d,xQ (aC C s t).length T i]) aT _ 0 [] _ _ (by simp;lia) (λi x f K q=>?_) ?_
 .have hi:i<(aC C s t).length:=by
   rcases RC i (aC C s t).length with z|z
   .exact z
   .rw[QU (by simpa using z)]at f;cases f
  rw[Ut]at q ⊢;simp only[aM,aa,aq,aj,bF,aY,bK,ac,af,aO,bN,bw,PU,Qt,Qn,Qo,dt,PN,Q4];refine gj (λ_=>.int (T i)) aT (by simp) (λx f K q=>?_) ?_
  .have:x=.lst (cG (aC C s t).length T):=by simpa using f
   subst this;simp only[ah,ac,dt,PN,aw,aO,br (show (0:Int)<=((i:Nat):Int) by lia),Qh,qJ hi]
   exact q
  intro p6 W;refine cD W ?_;have hb:=Y i hi;simp only[PU,Qt,wq,gR,jx,QJ,Um,TU];refine⟨⟨by simp,λx f=>by simp at f;subst f;exact hb⟩,rfl,aP (λ_ _ z=>t6 fp (Qc (show fct (aC C s t).length<2 ^ 64 by exact_mod_cast O)<|by decide) z) ?_⟩
  exact⟨aX (by simp),q⟩
 .intro p7 R
  have e:([]:List D)++(((aC C s t).map kD).zipIdx 0).map (λp=>D.tup [p.1,xQ (aC C s t).length T p.2])=((aC C s t).zipIdx 0).map λp=>D.tup [kD p.1,xQ (aC C s t).length T p.2]:=by
   rw[Qo,List.zipIdx_map,Ro];rfl
  rw[e];exact ak (h p7 R)
theorem uc(o:C.Ok)(I:SOk C s)(H:SOk C t)(B:C.mark s=.int a)(P:C.mark t=.int b)(f:a≠b)(G:(aC C s t).length<=20)(R:1+(C.tree s t).asks<=L)(O:L<=10000)(F:∀x∈(dg a b (aC C s t) (C.tree s t) 0 0).filter (λx=>decide (x.v=("faulty":Str))),OutOk (aC C s t).length x)(J:bU (aC C s t).length ((dg a b (aC C s t) (C.tree s t) 0 0).filter λx=>decide (x.v=("faulty":Str)))=T)(w:∀i,i<(aC C s t).length->-1000000000000000<=T i/\T i<=1000000000000000)(h:∀p,M p=cm->Q (.ref p) (M.upd p<|.lst (((aC C s t).zipIdx 0).map λp=>D.tup [kD p.1,xQ (aC C s t).length T p.2]))):jY ad [bI C s t,.int (L:Nat)] M Q E:=by
 rw[NL (n:=0)];unfold zd;simp only[aF,aj,aa,aq,bV,ac,af,dt,PN];refine⟨aX (by simp),λp e=>cD e ⟨rfl,ar λQ' E' A _=>tP o I H B P f G R O F J w λp e=>A _ _ (ak<|h p e)⟩⟩
end
def iH(cf:Cf)(n:cC)(rest:List Rw):Rw->cC×List Rw
 |.ifr x a b=>(n,(if nm n x=0 then b else a)++rest)
 |.again x a=>(n,if nm n x=0 then rest else a++(.again x a::rest))
 |r=>(sN n (dY r) (num cf n r),rest)
def fin(cf:Cf):Nat->cC->List Rw->Option cC
 |_,n,[]=>ap n
 |0,_,_::_=>cm
 |k+1,n,r::rest=>fin cf k (iH cf n rest r).1 (iH cf n rest r).2
theorem dz{cf:Cf}{k:Nat}{n:cC}:fin cf k n []=ap n:=by cases k<;>rfl
def uG(cf:Cf)(b:Bool×Sx)(rest:List Rw):Option cC:=if b.1=true then fin cf (cf.most-b.2.steps.length) b.2.nums rest else cm
section
variable{cf:Cf}
theorem tJ{s:Sx}:uG cf (true,s) rest=fin cf (cf.most-s.steps.length) s.nums rest:=by unfold uG;rw[if_pos rfl]
theorem nv{s:Sx}:uG cf (eC,s) rest=none:=by unfold uG;rw[if_neg (by simp)]
theorem Pk{pl:Yu}{s:Sx}(h:s.steps.length<cf.most):nt cf pl v s=(true,⟨s.nums,s.steps++[(pl,v)]⟩):=by unfold nt;rw[if_pos h]
theorem PH{pl:Yu}{s:Sx}(h:¬s.steps.length<cf.most):nt cf pl v s=(eC,s):=by unfold nt;rw[if_neg h]
theorem qq{s:Sx}{n:cC}{r:Rw}(h:¬s.steps.length<cf.most):fin cf (cf.most-s.steps.length) n (r::rest)=none:=by
 have:cf.most-s.steps.length=0:=by lia
 rw[this];rfl
theorem uI{s:Sx}{n:cC}{r:Rw}{p:List Int×Int}(h:s.steps.length<cf.most):fin cf (cf.most-s.steps.length) n (r::rest)=fin cf (cf.most-(s.steps++[p]).length) (iH cf n rest r).1 (iH cf n rest r).2:=by
 have:cf.most-s.steps.length=(cf.most-(s.steps++[p]).length)+1:=by rw[PX];simp;lia
 rw[this];rfl
theorem ue{x:Str}{a:List Rw}{pl:Yu}(F:∀pl s rest,fin cf (cf.most-s.steps.length) s.nums (a++rest)=uG cf (bS cf a pl 0 s) rest):∀(f t:Nat)(s:Sx)(rest:List Rw),cf.most-s.steps.length<f->
  fin cf (cf.most-s.steps.length) s.nums (.again x a::rest)=uG cf (e_ cf x pl (λt s=>bS cf a (pl++[(t:Int)]) 0 s) f t s) rest
 |0,t,s,rest,h=>by lia
 |f+1,t,s,rest,h=>by
  unfold e_
  by_cases c:s.steps.length<cf.most
  .rw[Pk c,if_pos rfl]
   rw[uI (p:=(pl++[(t:Int)],lk s.nums x)) c]
   by_cases e:nm s.nums x=0
   .have w:lk s.nums x=0:=by unfold lk;rw[if_pos e]
    rw[w,if_neg (by decide),tJ]
    simp only[iH,if_pos e]
   .have w:lk s.nums x=1:=by unfold lk;rw[if_neg e]
    rw[w,if_pos rfl];simp only[iH,if_neg e];have I:=F (pl++[(t:Int)]) ⟨s.nums,s.steps++[(pl++[(t:Int)],1)]⟩ (.again x a::rest);have H:=fh (c:=cf) a (pl++[(t:Int)]) 0 ⟨s.nums,s.steps++[(pl++[(t:Int)],1)]⟩;generalize G:bS cf a (pl++[(t:Int)]) 0 ⟨s.nums,s.steps++[(pl++[(t:Int)],1)]⟩=ex at *;obtain⟨b,B⟩:=ex;rw[I];cases b with
    |true=>
     rw[tJ,if_pos rfl];have A:s.steps.length+1<=B.steps.length:=by
      have:=H.1;simp only[PX,Qe,QN]at this;lia
     exact ue F f (t+1) B rest (by lia)
    |false=>rw[nv,if_neg (by simp),nv]
  .rw[PH c,if_neg (by simp),nv]
   exact qq c
theorem lI{r:Rw}{pl:Yu}{s:Sx}(e:bj r=true):fin cf (cf.most-s.steps.length) s.nums (r::rest)=uG cf (fF cf r pl s) rest:=by
 rw[bY e];unfold jn;have f:iH cf s.nums rest r=(sN s.nums (dY r) (num cf s.nums r),rest):=by
  cases r with
  |ifr=>cases e
  |again=>cases e
  |_=>rfl
 by_cases c:s.steps.length<cf.most
 .rw[if_pos c,tJ,uI (p:=(pl,num cf s.nums r)) c,f]
 .rw[if_neg c,nv];exact qq c
mutual
theorem Oo:∀(r:Rw)(pl:Yu)(s:Sx)(rest:List Rw),fin cf (cf.most-s.steps.length) s.nums (r::rest)=uG cf (fF cf r pl s) rest
 |.ifr x a b,pl,s,rest=>by
  unfold fF
  by_cases c:s.steps.length<cf.most
  .rw[Pk c,if_pos rfl,uI (p:=(pl,lk s.nums x)) c]
   by_cases e:nm s.nums x=0
   .have f:lk s.nums x=0:=by unfold lk;rw[if_pos e]
    rw[f,if_neg (by decide)]
    simp only[iH,if_pos e];exact i7 b (pl++[0]) 0 ⟨s.nums,s.steps++[(pl,0)]⟩ rest
   .have f:lk s.nums x=1:=by unfold lk;rw[if_neg e]
    rw[f,if_pos rfl];simp only[iH,if_neg e];exact i7 a (pl++[1]) 0 ⟨s.nums,s.steps++[(pl,1)]⟩ rest
  .rw[PH c,if_neg (by simp),nv]
   exact qq c
 |.again x a,pl,s,rest=>by
  unfold fF;exact ue (λpl s rest=>i7 a pl 0 s rest) _ _ _ _ (by lia)
 |.put x k,pl,s,rest=>lI rfl
 |.take x k,pl,s,rest=>lI rfl
 |.pick x y,pl,s,rest=>lI rfl
 |.two w x y z,pl,s,rest=>lI rfl
theorem i7:∀(rs:List Rw)(pl:Yu)(j:Nat)(s:Sx)(rest:List Rw),fin cf (cf.most-s.steps.length) s.nums (rs++rest)=uG cf (bS cf rs pl j s) rest
 |[],pl,j,s,rest=>by unfold bS;rw[tJ];rfl
 |r::rs,pl,j,s,rest=>by
  unfold bS;rw[Qn,Oo r (pl++[(j:Int)]) s (rs++rest)];generalize fF cf r (pl++[(j:Int)]) s=ex;obtain⟨b,e⟩:=ex;cases b with
  |true=>rw[tJ,if_pos rfl];exact i7 rs pl (j+1) e rest
  |false=>rw[nv,if_neg (by simp),nv]
end
end
def mkO(mn:Str):Option cC->D
 |some n=>.int (nm n mn)
 |none=>.non
theorem sf:C.mark z=mkO C.mn (fin (C.cf z) C.most (C.names.zip z.nums) C.rows):=by
 have h:=i7 (cf:=C.cf z) C.rows [] 0 ⟨C.names.zip z.nums,[]⟩ [];rw[QO]at h;have e:fin (C.cf z) C.most (C.names.zip z.nums) C.rows=uG (C.cf z) (C.run z) []:=h;rw[e];unfold Cse.mark Cd uG
 split
 .rw[dz];rfl
 .rfl
def Bp(p:aG->Bool):Tr->D
 |.e m=>m
 |.a q x y=>if p q=true then Bp p y else Bp p x
theorem h8{n:cC}(h:x∈n.map (·.1)):nm (sN n x v) y=if y=x then v else nm n y:=by
 unfold nm;rw[Og h]
 split<;>rfl
structure Rl(C:Cse)(z:Sta)(g:Gs)(n:cC):Prop where
 nk:∀x,(Qr x:aG)∉g.u->nm g.n x=nm n x
 nu:∀x,(Qr x:aG)∈g.u->nm n x=aL C z (.inr x)
 pk:∀i:Nat,(Rx (i:Int):aG)∉g.u->(g.ps[i]?).getD 0=(z.pieces[i]?).getD 0
 k:n.map (·.1)=C.names
section
variable{t:Sta}{n:cC}{r:Rw}{p:aG->Bool}
theorem Ca(F:cA C.names C.w C.many r)(h:dO C g r=cm):(∀x∈da r,(Qr x:aG)∉g.u)/\∀i,xh C g.n r=ap i->(Rx i:aG)∉g.u:=by
 unfold dO at h
 split at h
 .rename_i e
  rw[e];exact⟨λ_ _ z=>(by cases z),λ_ _ z=>(by cases z)⟩
 .split at h
  .cases h
  .rename_i e
   refine⟨λx A f=>?_,λi B f=>?_⟩
   .have:(Qr x:aG)∈(cZ C).filter λk=>decide (k∈((da r).filter λx=>decide ((Qr x:aG)∈g.u)).map Qr):=by
     rw[Qa];refine⟨QC.mpr (.inl<|Qv.mpr ⟨x,zp F x A,rfl⟩),decide_eq_true ?_⟩;exact Qv.mpr ⟨x,Qa.mpr ⟨A,decide_eq_true f⟩,rfl⟩
    rw[e]at this;cases this
   .rw[B]at h
    simp only[if_pos f]at h;cases h
theorem Rl.num(R:Rl C z g n)(ok:GOk C g)(O:SOk C z)(f:cK C.names C.w C.many r)(h:dO C g r=cm):num (g.cf C) g.n r=num (C.cf z) n r:=by
 have B:cA C.names C.w C.many r:=by
  cases r with
  |ifr=>exact f.elim
  |again=>exact f.elim
  |_=>exact f
 obtain⟨A,F⟩:=Ca B h;have I:g.ps.length=z.pieces.length:=by rw[ok.lp,O.lp]
 cases r with
 |put x k=>rfl
 |take x i=>
  have:=R.pk i.toNat (by rw[S4 f.2.1];exact F i rfl)
  exact this
 |pick x y=>
  have e:=R.nk y (A y<|by simp[da])
  have G:=F _ rfl;have P:(0:Int)<(C.many:Int):=f.2.2;have H:=Q0 (nm g.n y) (show (C.many:Int)≠0 by lia)
  rw[<- S4 H]at G;have J:=R.pk _ G;show (g.ps[(nm g.n y % (g.ps.length:Int)).toNat]?).getD 0=(z.pieces[(nm n y % (z.pieces.length:Int)).toNat]?).getD 0;rw[<- e,<- I,ok.lp];exact J
 |two w x y u=>
  show xw w (nm g.n y) (nm g.n u) C.w=xw w (nm n y) (nm n u) C.w;rw[R.nk y (A y<|by simp[da]),R.nk u (A u<|by simp[da])]
 |ifr=>exact f.elim
 |again=>exact f.elim
theorem Rl.step(R:Rl C z g n)(ok:GOk C g)(S:SOk C z)(J:cA C.names C.w C.many r)(h:dO C g r=cm):Rl C z (jP C g rest r) (iH (C.cf z) n rest r).1/\(jP C g rest r).td=(iH (C.cf z) n rest r).2:=by
 have look:∀x,x∈da r->nm g.n x=nm n x:=λx B=>R.nk x ((Ca J h).1 x B);have set:∀I,r=I->bj r=true->Rl C z { g with left:=g.left-1,td:=rest,n:=sN g.n (dY r) (Tw.num (g.cf C) g.n r),u:=g.u.filter λk=>decide (k≠.inr (dY r)) } (sN n (dY r)<|Tw.num (C.cf z) n r):=λI _ P=>by
  have f:=gL J P;have B:dY r∈C.names:=vt f;have F:dY r∈g.n.map (·.1):=by rw[ok.n.keys];exact B
  have e:dY r∈n.map (·.1):=by rw[R.k];exact B
  rw[R.num ok S f h];refine⟨λy G=>?_,λy G=>?_,λi O=>?_,by rw[ig];exact R.k⟩
  .rw[h8 F,h8 e]
   split
   .rfl
   .rename_i c
    refine R.nk y λH=>G ?_;rw[Qa];exact⟨H,decide_eq_true λz=>c (TK z)⟩
  .have A:=Qa.mp G
   have c:¬y=dY r:=λz=>(of_decide_eq_true A.2) (by rw[z])
   rw[h8 e,if_neg c];exact R.nu y A.1
  .refine R.pk i λH=>O ?_
   rw[Qa];exact⟨H,decide_eq_true λz=>by cases z⟩
 cases r with
 |ifr x a b=>
  refine⟨⟨R.nk,R.nu,R.pk,R.k⟩,?_⟩;show (if nm g.n x=0 then b else a)++rest=(if nm n x=0 then b else a)++rest
  rw[look x (by simp[da])]
 |again x a=>
  refine⟨⟨R.nk,R.nu,R.pk,R.k⟩,?_⟩;show (if nm g.n x=0 then rest else a++(.again x a::rest))=(if nm n x=0 then rest else a++(.again x a::rest))
  rw[look x (by simp[da])]
 |_=>exact⟨set _ rfl rfl,rfl⟩
theorem zj(o:C.Ok)(F:SOk C z):∀(f:Nat)(g:Gs)(n:cC),Rl C z g n->GOk C g->0<=g.left->g.left<f->∃A,Rl C z (bE C f g).2 A/\fin (C.cf z) g.left.toNat n g.td=fin (C.cf z) (bE C f g).2.left.toNat A (bE C f g).2.td/\
  ((bE C f g).1=cm->((bE C f g).2.td=[]/\(Qr C.mn:aG)∉(bE C f g).2.u)\/((bE C f g).2.td≠[]/\(bE C f g).2.left<=0))
 |0,g,n,R,ok,h0,hf=>by lia
 |f+1,g,n,R,ok,h0,hf=>by
  unfold bE;cases e:g.td with
  |nil=>
   refine⟨n,R,by dsimp only;rw[e],λh=>.inl ⟨e,?_⟩⟩
   dsimp only at h ⊢
   split at h
   .cases h
   .assumption
  |cons r rest=>
   dsimp only;have I:cA C.names C.w C.many r:=by
    have:=ok.td;rw[e]at this;exact this.1
   split
   .rename_i B
    exact⟨n,R,by rw[e],λ_=>.inr ⟨by rw[e];simp,B⟩⟩
   .rename_i B
    cases a:dO C g r with
    |some k=>exact⟨n,R,by dsimp only;rw[e],λh=>by cases h⟩
    |none=>
     dsimp only;obtain⟨R1,H⟩:=R.step (rest:=rest) ok F I a;have J:(jP C g rest r).left=g.left-1:=mm;obtain⟨A,R2,G,O⟩:=zj o F f (jP C g rest r) _ R1 (qx o ok e) (by lia) (by lia)
     refine⟨A,R2,?_,O⟩;rw[<- G,J,H];have:g.left.toNat=(g.left-1).toNat+1:=by lia
     rw[this];rfl
theorem Rl.set(R:Rl C z g n)(ok:GOk C g)(F:q∈cZ C)(w:q∈g.u):Rl C z (cj g q<|aL C z q) n:=by
 cases q with
 |inr x=>
  have G:x∈C.names:=by
   rcases dZ F with⟨y,f,e⟩|⟨i,_,e⟩
   .cases e;exact f
   .cases e
  have B:x∈g.n.map (·.1):=by rw[ok.n.keys];exact G
  refine⟨λy f=>?_,λy f=>R.nu y (Qa.mp f).1,λi A=>R.pk i λw=>A (Qa.mpr ⟨w,decide_eq_true λz=>by cases z⟩),R.k⟩
  show nm (sN g.n x _) y=_;rw[h8 B]
  split
  .rename_i c;subst c;exact(R.nu _ w).symm
  .rename_i c
   exact R.nk y λw=>f (Qa.mpr ⟨w,decide_eq_true λz=>c (TK z)⟩)
 |inl j=>
  obtain⟨i,A,e⟩:∃i:Nat,i<C.many/\j=(i:Int):=by
   rcases dZ F with⟨y,f,e⟩|⟨i,h,e⟩
   .cases e
   .exact⟨i,h,SF e⟩
  subst e;refine⟨λy f=>R.nk y λw=>f (Qa.mpr ⟨w,decide_eq_true λz=>by cases z⟩),λy f=>R.nu y (Qa.mp f).1,λk H=>?_,R.k⟩
  show ((g.ps.set ((i:Nat):Int).toNat<|(z.pieces[((i:Nat):Int).toNat]?).getD 0)[k]?).getD 0=_;rw[Qh,Tn]
  split
  .rename_i c
   subst c;rw[if_pos (by rw[ok.lp];exact A)]
   rfl
  .rename_i c
   exact R.pk k λw=>H (Qa.mpr ⟨w,decide_eq_true λz=>c (by have:=SF z;lia)⟩)
theorem wb(o:C.Ok)(hs:SOk C s)(ht:SOk C t)(W:SOk C z):∀(f:Nat)(g:Gs)(n:cC),(∀q∈g.u,aL C z q=aL C (if p q=true then t else s) q)->Rl C z g n->GOk C g->0<=g.left->g.left<=C.most->(∀x∈g.u,x∈cZ C)->g.u.length<f->
  Bp p (bZ C s t f g)=mkO C.mn (fin (C.cf z) g.left.toNat n g.td)
 |0,g,n,hp,R,ok,h0,hm,hu,hf=>by lia
 |f+1,g,n,hp,R,ok,h0,hm,hu,hf=>by
  obtain⟨n',R',e,S⟩:=zj o W (C.most+1) g n R ok h0 (by lia)
  have J:=m4 o (C.most+1) g ok;obtain⟨⟨X,h⟩,O,I⟩:=i8 (C:=C) (C.most+1) g;have hl:=O h0;unfold bZ;rw[e];generalize bE C (C.most+1) g=go at *;obtain⟨a,w⟩:=go;dsimp only at *;cases a with
  |none=>
   show Kl C w=_;unfold Kl;rcases S rfl with⟨F,h2⟩|⟨F,h2⟩
   .rw[if_pos F,F,dz]
    show D.int _=D.int _;rw[R'.nk _ h2]
   .rw[if_neg F]
    have:w.left.toNat=0:=by lia
    rw[this];cases e3:w.td with
    |nil=>exact absurd e3 F
    |cons=>rfl
  |some q=>
   have B:=I q rfl;have H:=hu q (h q B);have fl:=pO B;have G:∀y:Sta,aL C z q=aL C y q->SOk C y->Bp p (bZ C s t f<|cj w q<|aL C y q)=mkO C.mn (fin (C.cf z) w.left.toNat n' w.td):=λy hy ky=>by
    rw[<- hy]
    have:=wb o hs ht W f (cj w q<|aL C z q) n' (λk Z=>by rw[dR]at Z;exact hp k (h k (Qa.mp Z).1)) (R'.set J H B) (lR J<|cu o W H) (by rw[eT];lia) (by rw[eT];lia)
     (λx Y=>by rw[dR]at Y;exact hu x (h x (Qa.mp Y).1)) (by rw[dR];lia)
    rw[eT]at this;have P:(cj w q<|aL C z q).td=w.td:=by cases q<;>rfl
    rw[P]at this;exact this
   have A:=hp q (h q B);show (if p q=true then Bp p (bZ C s t f<|cj w q<|aL C t q) else Bp p (bZ C s t f<|cj w q<|aL C s q))=_
   split
   .rename_i c;rw[if_pos c]at A;exact G t A ht
   .rename_i c;rw[if_neg c]at A;exact G s A hs
theorem oF(f:C.names.length=nums.length)(h:x∉C.names):nm (C.names.zip nums) x=0:=by
 unfold nm gN;rw[List.find?_eq_none.mpr]
 .rfl
 .intro q e
  have:=(Sl e).1;simp only[decide_eq_true_eq];exact λz=>h (by rw[<- z];exact this)
theorem cV(o:C.Ok)(A:SOk C s)(J:SOk C t)(w:SOk C z)(I:(aC C s t).length<24)(B:∀q∈cZ C,aL C z q=aL C (if p q=true then t else s) q):Bp p (C.tree s t)=C.mark z:=by
 rw[sf];have f:∀q∈cZ C,q∉aC C s t->aL C z q=aL C s q:=λq h H=>by
  rw[B q h];have:aL C s q=aL C t q:=Decidable.byContradiction λc=>H (Qa.mpr ⟨h,decide_eq_true c⟩)
  split
  .exact this.symm
  .rfl
 have:=wb (p:=p) o A J w 24 (g0 C s t) (C.names.zip z.nums) (λq h=>B q (lX q h)) ⟨λx G=>?_,λx _=>rfl,λi F=>?_,fN w.ln.symm⟩ (Dn o A) (by show (0:Int)<=((C.most:Nat):Int);lia) (Ss _) lX I
 .have e:(g0 C s t).left.toNat=C.most:=rfl
  rw[e]at this;exact this
 .by_cases c:x∈C.names
  .exact(f (.inr x) (QC.mpr<|.inl<|Qv.mpr ⟨x,c,rfl⟩) G).symm
  .show nm (C.names.zip s.nums) x=_
   rw[oF A.ln.symm c,oF w.ln.symm c]
 .show (s.pieces[i]?).getD 0=_
  by_cases c:i<C.many
  .have:=f (.inl (i:Int)) (QC.mpr<|.inr<|Qv.mpr ⟨i,Ri.mpr c,rfl⟩) F
   exact this.symm
  .rw[QU (by rw[A.lp];lia),QU (by rw[w.lp];lia)]
theorem ju:∀(f:Nat)(g:Gs),(bZ C s t f g).asks+1<=2 ^ g.u.length
 |0,g=>Nat.one_le_two_pow
 |f+1,g=>by
  obtain⟨⟨A,B⟩,_,h⟩:=i8 (C:=C) (C.most+1) g;unfold bZ;generalize bE C (C.most+1) g=go at *;obtain⟨a,w⟩:=go;dsimp only at *;cases a with
  |none=>exact Nat.one_le_two_pow
  |some q=>
   have H:=pO (h q rfl);have F:=ju f (cj w q<|aL C s q);have G:=ju f (cj w q<|aL C t q);rw[dR]at F G;have e:2 ^ ((w.u.filter λk=>decide (k≠q)).length+1)<=2 ^ g.u.length:=QR (by decide) (by lia)
   rw[Nat.pow_succ]at e;show 1+_+_+1<=_;lia
theorem oz:1+(C.tree s t).asks<=2 ^ (aC C s t).length:=by
 have:=ju (C:=C) (s:=s) (t:=t) 24 (g0 C s t);have e:(g0 C s t).u=aC C s t:=rfl;rw[e]at this;show 1+(bZ C s t 24<|g0 C s t).asks<=_;lia
end
def TrN:Tr->List aG->Prop
 |.e _,_=>True
 |.a q x y,u=>q∈u/\TrN x (u.filter λk=>decide (k≠q))/\TrN y (u.filter λk=>decide (k≠q))
theorem TrN.mono:∀{t:Tr}{u v:List aG},TrN t u->(∀k∈u,k∈v)->TrN t v
 |.e _,_,_,_,_=>trivial
 |.a q x y,u,v,h,s=>⟨s q h.1,h.2.1.mono λk f=>Qa.mpr ⟨s k (Qa.mp f).1,(Qa.mp f).2⟩,h.2.2.mono λk f=>Qa.mpr ⟨s k (Qa.mp f).1,(Qa.mp f).2⟩⟩
theorem sB{C:Cse}{s t:Sta}:∀(f:Nat)(g:Gs),TrN (bZ C s t f g) g.u
 |0,_=>trivial
 |f+1,g=>by
  obtain⟨⟨_,e⟩,_,h⟩:=i8 (C:=C) (C.most+1) g;unfold bZ;generalize bE C (C.most+1) g=go at *;obtain⟨a,A⟩:=go;dsimp only at *;cases a with
  |none=>trivial
  |some q=>
   have w:∀v,TrN (bZ C s t f<|cj A q v) (g.u.filter λk=>decide (k≠q)):=λv=>by
    have:=sB (C:=C) (s:=s) (t:=t) f (cj A q v);rw[dR]at this;exact this.mono λk p=>Qa.mpr ⟨e k (Qa.mp p).1,(Qa.mp p).2⟩
   exact⟨e q (h q rfl),w _,w _⟩
theorem qa:∀{a b:Nat},a<=b->fct a ∣ fct b:=by
 intro a b h
 induction b with
 |zero=>
  rw[Nat.le_zero.mp h];exact Nat.dvd_refl _
 |succ b ih=>
  by_cases e:a=b+1
  .subst e;exact Nat.dvd_refl _
  .exact Nat.dvd_trans (ih<|by lia) (Nat.dvd_mul_right (fct b) (b+1))
theorem sL{k:Nat}(h:0<k):k*fct (k-1)=fct k:=by
 cases k with
 |zero=>lia
 |succ k=>exact S5 (k+1) (fct k)
theorem DB{A:Int}{p:Nat->Bool}:∀l:List Nat,(l.map λi=>if p i=true then A else 0).sum=((l.filter p).length:Int)*A
 |[]=>by simp
 |i::l=>by
  rw[PU,QJ,DB l,QB]
  split
  .rw[Qe];push_cast;rw[Int.add_mul];lia
  .lia
theorem si{A:Int}{b:Nat}(h:b<2 ^ n):((QG n).map λi=>if b.testBit i=true then A else 0).sum=((az b).length:Int)*A:=by
 rw[gz h];exact DB _
theorem zI{f g:Nat->Int}:∀l:List Nat,(l.map λi=>f i-g i).sum=(l.map f).sum-(l.map g).sum
 |[]=>by simp
 |i::l=>by simp only[PU,QJ,zI l];lia
theorem wR{f g:Nat->Int}:∀l:List Nat,(l.map λi=>f i+g i).sum=(l.map f).sum+(l.map g).sum
 |[]=>by simp
 |i::l=>by simp only[PU,QJ,wR l];lia
def vO(n f s:Nat):Int:=(if f=0 then 0 else ((fct n / fct (f+s)*fct f*fct s:Nat):Int))-(if s=0 then 0 else ((fct n / fct (f+s)*fct f*fct s:Nat):Int))
theorem Hl{x:Out}(h:OutOk n x):((QG n).map<|ic n x).sum=vO n (az x.f).length (az x.s).length:=by
 have e:ic n x=λi=>(if x.f.testBit i=true then ((fct n / fct ((az x.f).length+(az x.s).length)*fct ((az x.f).length-1)*fct (az x.s).length:Nat):Int) else 0)-(if x.s.testBit i=true then ((fct n / fct ((az x.f).length+(az x.s).length)*fct (az x.f).length*fct ((az x.s).length-1):Nat):Int) else 0):=rfl
 rw[e,zI,si h.f,si h.s];unfold vO;generalize (az x.f).length=f;generalize (az x.s).length=s;generalize fct n / fct (f+s)=E;congr 1
 .split
  .rename_i c;subst c;simp
  .rename_i c
   rw[<- sL (k:=f) (by lia)]
   rw[<- RV];congr 1;rw[S5 E (f*fct (f-1)),Tv f,S5 (fct (f-1)) E,Tv f]
 .split
  .rename_i c;subst c;simp
  .rename_i c
   conv=>rhs;rw[<- sL (k:=s) (by lia)]
   rw[<- RV];congr 1;rw[<- Tv (E*fct f) s,S5 (E*fct f) s,Tv s]
theorem o8{n:Nat}:∀{xs:List Out},(∀x∈xs,OutOk n x)->((QG n).map<|bU n xs).sum=(xs.map λx=>vO n (az x.f).length (az x.s).length).sum
 |[],_=>by
  have:∀l:List Nat,(l.map<|bU n []).sum=0:=λl=>by
   induction l with
   |nil=>rfl
   |cons i l ih=>rw[PU,QJ,ih];rfl
  exact this _
 |x::xs,h=>by
  have e:bU n (x::xs)=λi=>ic n x i+bU n xs i:=by funext i;simp[bU]
  rw[e,wR,Hl (h x Qm),o8 λy p=>h y (Qf _ p)];simp
structure Wy(us:List aG)(u:List aG)(S F:Nat):Prop where
 s:S<2 ^ us.length
 f:F<2 ^ us.length
 sub:∀q∈u,q∈us
 no:∀q∈u,S.testBit (us.idxOf q)=eC/\F.testBit (us.idxOf q)=eC
 dis:∀i,¬(S.testBit i=true/\F.testBit i=true)
section
variable{S F:Nat}
theorem F0(e:q∈us):bitK us q<2 ^ us.length:=Nat.pow_lt_pow_right (by decide) (RX e)
theorem vK:(bitK us q).testBit i=decide (us.idxOf q=i):=by unfold bitK;exact Nat.testBit_two_pow
theorem FL{k:aG}(w:k∈us)(p:q∈us)(h:us.idxOf q=us.idxOf k):k=q:=by
 have e:=V9 (RX w);have f:=V9 (RX p);rw[<- e,<- f];congr 1;exact h.symm
theorem Wy.swap(w:Wy us u S F):Wy us u F S:=⟨w.f,w.s,w.sub,λq e=>(w.no q e).symm,λi h=>w.dis i h.symm⟩
theorem Wy.fa(w:Wy us u S F)(B:q∈u):Wy us (u.filter λk=>decide (k≠q)) S (F ||| bitK us q):=by
 have e:=w.sub q B;refine⟨w.s,Nat.or_lt_two_pow w.f (F0 e),λk A=>w.sub k (Qa.mp A).1,λk A=>?_,λi h=>?_⟩
 .obtain⟨p,G⟩:=Qa.mp A
  refine⟨(w.no k p).1,?_⟩;rw[U9,(w.no k p).2,vK,RF];exact decide_eq_false λz=>(of_decide_eq_true G) (FL (w.sub k p) e z)
 .rw[U9,vK]at h
  by_cases c:us.idxOf q=i
  .subst c;rw[(w.no q B).1]at h;exact absurd h.1 (by simp)
  .rw[decide_eq_false c,Sk]at h;exact w.dis i h
theorem Wy.so(w:Wy us u S F)(e:q∈u):Wy us (u.filter λk=>decide (k≠q)) (S ||| bitK us q) F:=(w.swap.fa e).swap
theorem gw{B:Nat}(f:B<2 ^ us.length)(e:q∈us):(az (B ||| bitK us q)).length≠0:=by
 have:us.idxOf q∈az (B ||| bitK us q):=by
  rw[dB (Nat.or_lt_two_pow f<|F0 e)];exact⟨RX e,by rw[U9,vK];simp⟩
 exact λz=>by rw[UJ z]at this;cases this
theorem tR{p r:Nat->Bool}:∀(l:List Nat),(∀i,¬(p i=true/\r i=true))->(l.filter p).length+(l.filter r).length<=l.length
 |[],_=>by simp
 |i::l,h=>by
  have:=tR l h;have e:=h i;rw[QB,QB,Qe]
  split<;>split<;>simp_all<;>lia
theorem Wy.ok(w:Wy us u S F){v:Str}:OutOk us.length ⟨v,S,F⟩:=by
 refine⟨w.s,w.f,?_⟩;show (az F).length+(az S).length<=_;rw[gz w.f,gz w.s];have:=tR (p:=λi=>F.testBit i) (r:=λi=>S.testBit i) (QG us.length) λi h=>w.dis i h.symm;rw[Uq]at this;exact this
theorem pM:∀(t:Tr)(u:List aG)(S F:Nat),TrN t u->Wy us u S F->∀x∈dg a b us t S F,OutOk us.length x
 |.e m,u,S,F,_,w,x,hx=>by
  have:x=⟨jv a b m,S,F⟩:=by simpa [dg] using hx
  subst this;exact w.ok
 |.a q x y,u,S,F,h,w,o,ho=>by
  rcases QC.mp ho with h1|h1
  .exact pM y _ _ _ h.2.2 (w.fa h.1) o h1
  .exact pM x _ _ _ h.2.1 (w.so h.1) o h1
def wT(a b:Int)(us:List aG)(t:Tr)(S F:Nat):Int:=(((dg a b us t S F).filter λx=>decide (x.v=("faulty":Str))).map λx=>vO us.length (az x.f).length (az x.s).length).sum
theorem JY{m:D}:wT a b us (.e m) S F=if jv a b m=("faulty":Str) then vO us.length (az F).length (az S).length else 0:=by
 unfold wT dg;rw[QB]
 split
 .rename_i c
  rw[if_pos (of_decide_eq_true c)];simp
 .rename_i c
  rw[if_neg (λz=>c (decide_eq_true z))];rfl
theorem Hs{x y:Tr}:wT a b us (.a q x y) S F=wT a b us y S (F ||| bitK us q)+wT a b us x (S ||| bitK us q) F:=by
 unfold wT
 conv=>lhs;unfold dg
 rw[Rf,Sm,List.sum_append]
theorem qr:∀(t:Tr)(u:List aG)(S F:Nat),TrN t u->Wy us u S F->(az F).length≠0->(az S).length≠0->wT a b us t S F=0
 |.e m,u,S,F,_,w,hF,hS=>by
  rw[JY]
  split
  .unfold vO;rw[if_neg hF,if_neg hS];lia
  .rfl
 |.a q x y,u,S,F,h,w,hF,hS=>by
  have p:=w.sub q h.1;rw[Hs,qr y _ _ _ h.2.2 (w.fa h.1) (gw w.f p) hS,qr x _ _ _ h.2.1 (w.so h.1) hF (gw w.s p)];rfl
theorem Po:∀(t:Tr)(u:List aG)(S F:Nat),TrN t u->Wy us u S F->(az F).length≠0->(az S).length=0->wT a b us t S F=if jv a b (Bp (λ_=>true) t)=("faulty":Str) then ((fct us.length:Nat):Int) else 0
 |.e m,u,S,F,_,w,hF,hS=>by
  rw[JY];show _=if jv a b m=_ then _ else _
  split
  .have B:=(w.ok (v:="")).l
   have A:(az F).length+(az S).length<=us.length:=B;unfold vO;rw[if_neg hF,if_pos hS,hS,VQ];have:fct us.length / fct (az F).length*fct (az F).length=fct us.length:=Uh (qa<|by lia)
   rw[this];show ((fct us.length*1:Nat):Int)-0=_;lia
  .rfl
 |.a q x y,u,S,F,h,w,hF,hS=>by
  have p:=w.sub q h.1;rw[Hs,Po y _ _ _ h.2.2 (w.fa h.1) (gw w.f p) hS,qr x _ _ _ h.2.1 (w.so h.1) hF (gw w.s p)];rw[TU];rfl
theorem NX:∀(t:Tr)(u:List aG)(S F:Nat),TrN t u->Wy us u S F->(az F).length=0->(az S).length≠0->wT a b us t S F=if jv a b (Bp (λ_=>eC) t)=("faulty":Str) then -((fct us.length:Nat):Int) else 0
 |.e m,u,S,F,_,w,hF,hS=>by
  rw[JY];show _=if jv a b m=_ then _ else _
  split
  .have B:=(w.ok (v:="")).l
   have A:(az F).length+(az S).length<=us.length:=B;unfold vO;rw[if_pos hF,if_neg hS,hF,Ut];have:fct us.length / fct (az S).length*fct 0*fct (az S).length=fct us.length:=by
    show fct us.length / fct (az S).length*1*fct (az S).length=_;rw[Nat.mul_one];exact Uh (qa<|by lia)
   rw[this];lia
  .rfl
 |.a q x y,u,S,F,h,w,hF,hS=>by
  have p:=w.sub q h.1;rw[Hs,qr y _ _ _ h.2.2 (w.fa h.1) (gw w.f p) hS,NX x _ _ _ h.2.1 (w.so h.1) hF (gw w.s p)];rw[TR];rfl
theorem Dg:(az 0).length=0:=rfl
theorem Wy.zero(h:∀q∈u,q∈us):Wy us u 0 0:=⟨Nat.two_pow_pos _,Nat.two_pow_pos _,h,λq _=>⟨UI _,UI _⟩,λi h=>by rw[UI]at h;exact absurd h.1 (by simp)⟩
theorem O9{t:Tr}(h:TrN t us)(G:Bp (λ_=>eC) t=.int a)(H:Bp (λ_=>true) t=.int b)(p:a≠b):wT a b us t 0 0=((fct us.length:Nat):Int):=by
 have J:¬jv a b (.int a)=("faulty":Str):=by
  unfold jv;rw[if_pos (by simp[aR])]
  decide +kernel
 have I:jv a b (.int b)=("faulty":Str):=by
  unfold jv;have:¬b=a:=λz=>p z.symm;rw[if_neg (by simp[aR,this]),if_pos (by simp[aR])]
 cases t with
 |e m=>
  have:D.int a=D.int b:=G.symm.trans H;exact absurd (D.int.inj this) p
 |a q x y=>
  have w:=Wy.zero (us:=us) (u:=us) λ_ h=>h;have A:Bp (λ_=>eC) x=.int a:=G;have B:Bp (λ_=>true) y=.int b:=H;rw[Hs,Po y _ _ _ h.2.2 (w.fa h.1) (gw w.f h.1) Dg,NX x _ _ _ h.2.1 (w.so h.1) Dg (gw w.s h.1),A,B,if_pos I,if_neg J];lia
end
section
variable{t:Sta}
def di(C:Cse)(s t:Sta)(a b:Int):List Out:=(dg a b (aC C s t) (C.tree s t) 0 0).filter λx=>decide (x.v=("faulty":Str))
theorem nF:TrN (C.tree s t) (aC C s t):=sB 24 (g0 C s t)
theorem gB:∀x∈di C s t a b,OutOk (aC C s t).length x:=λx e=>pM _ _ _ _ nF (Wy.zero λ_ h=>h) x (Qa.mp e).1
theorem vk(o:C.Ok)(h:SOk C s)(f:SOk C t)(A:C.mark s=.int a)(B:C.mark t=.int b)(e:a≠b)(w:(aC C s t).length<24):
  ((QG (aC C s t).length).map<|bU (aC C s t).length<|di C s t a b).sum=((fct (aC C s t).length:Nat):Int):=by
 rw[o8 gB];exact O9 nF ((cV (p:=λ_=>eC) o h f h w λq _=>rfl).trans A) ((cV (p:=λ_=>true) o h f f w λq _=>rfl).trans B) e
end
def gT(d:Nat)(T:Int):Nat:=So d (T % (d:Int)).toNat
section
variable{d:Nat}{T:Int}
theorem rj(h:0<d):0<gT d T:=Vy _ h
theorem HH:gT d T ∣ d:=Nat.gcd_dvd_left _ _
theorem L4(h:0<d):((gT d T:Nat):Int) ∣ T:=by
 have e:=Q0 T (show ((d:Nat):Int)≠0 by lia)
 have f:gT d T ∣ (T % (d:Int)).toNat:=Nat.gcd_dvd_right _ _;have w:((gT d T:Nat):Int) ∣ T % (d:Int):=by
  have:=Sr.mpr f
  rwa [S4 e]at this
 have p:((gT d T:Nat):Int) ∣ (d:Int):=Sr.mpr HH;have:=Int.dvd_add w (VG (c:=T / (d:Int)) p)
 rwa [Int.emod_add_mul_ediv]at this
theorem GK(h:0<d):So (T / ((gT d T:Nat):Int)).natAbs (d / gT d T)=1:=by
 have p:=rj (T:=T) h;generalize w:So (T / ((gT d T:Nat):Int)).natAbs (d / gT d T)=k;have I:k ∣ d / gT d T:=by rw[<- w];exact Nat.gcd_dvd_right _ _
 have H:k ∣ (T / ((gT d T:Nat):Int)).natAbs:=by rw[<- w];exact Nat.gcd_dvd_left _ _
 have e:k*gT d T ∣ d:=by
  have:=Nat.mul_dvd_mul_right I (gT d T)
  rwa [Uh HH]at this
 have A:((k*gT d T:Nat):Int) ∣ T:=by
  have:=Int.mul_dvd_mul (Int.ofNat_dvd_left.mpr H) (Int.dvd_refl ((gT d T:Nat):Int));rw[Int.ediv_mul_cancel (L4 h)]at this;rw[RV];exact this
 have f:((k*gT d T:Nat):Int) ∣ T % (d:Int):=by
  rw[Int.emod_def];exact Int.dvd_sub A (VG<|Sr.mpr e)
 have B:=Q0 T (show ((d:Nat):Int)≠0 by lia)
 have F:k*gT d T ∣ (T % (d:Int)).toNat:=by
  rw[<- S4 B]at f;exact Sr.mp f
 have G:k*gT d T ∣ gT d T:=Nat.dvd_gcd e F;have:=Nat.le_of_dvd p G;have kp:0<k:=by
  rcases Nat.eq_zero_or_pos k with z|z
  .subst z;rw[Nat.zero_mul]at e;have:=Nat.eq_zero_of_zero_dvd e;lia
  .exact z
 have:k*gT d T<=1*gT d T:=by lia
 have:=Nat.le_of_mul_le_mul_right this p;lia
theorem xT(h:0<d):0<d / gT d T:=Nat.div_pos (Nat.le_of_dvd h HH) (rj h)
theorem Cb(h:0<d):(T / ((gT d T:Nat):Int))*(d:Int)=T*((d / gT d T:Nat):Int):=by
 have A:=rj (T:=T) h;obtain⟨x,e⟩:=L4 (T:=T) h;obtain⟨y,f⟩:=HH (d:=d) (T:=T);generalize gT d T=g at *;have w:T / (g:Int)=x:=by rw[e];exact Vq _ (by lia)
 have p:d / g=y:=by rw[f];exact Nat.mul_div_cancel_left _ A
 rw[w,p,e,f]
 push_cast
 rw[<- Vr,Int.mul_comm x (g:Int)]
theorem KZ{k:Nat}(p:0<k)(h:0<d):gT (k*d) ((k:Int)*T)=k*gT d T:=by
 have e:=Q0 T (show ((d:Nat):Int)≠0 by lia)
 unfold gT;have:((k:Int)*T % ((k*d:Nat):Int)).toNat=k*(T % (d:Int)).toNat:=by
  rw[RV,Int.mul_emod_mul_of_pos _ _ (by lia)]
  obtain⟨r,f⟩:=VF e;rw[f,<- RV,Qh,Qh]
 rw[this,Nat.gcd_mul_left]
theorem Bl{k:Nat}(e:0<k)(h:0<d):(k:Int)*T / ((gT (k*d) ((k:Int)*T):Nat):Int)=T / ((gT d T:Nat):Int)/\((k*d:Nat):Int) / ((gT (k*d) ((k:Int)*T):Nat):Int)=(d:Int) / ((gT d T:Nat):Int):=by
 rw[KZ e h,RV,RV];exact⟨VE _ _ (by lia),VE _ _<|by lia⟩
theorem GY:gT d 0=d:=by unfold gT;simp
end
theorem qh:xQ n T i=.tup [.int (T i / ((gT (fct n) (T i):Nat):Int)),.int (((fct n:Nat):Int) / ((gT (fct n) (T i):Nat):Int))]:=rfl
theorem Jk:fct (n+2)=(n+2)*(n+1)*fct n:=by
 show fct n*(n+1)*(n+2)=_;rw[S5,Tv,S5 (fct n)]
theorem Ct{x:Out}(h:OutOk n x):ic (n+2) x i=(((n+2)*(n+1):Nat):Int)*ic n x i:=by
 have e:fct (n+2) / fct ((az x.f).length+(az x.s).length)=(n+2)*(n+1)*(fct n / fct ((az x.f).length+(az x.s).length)):=by
  rw[Jk,Nat.mul_div_assoc _ (qa h.l)]
 unfold ic;rw[e];generalize (n+2)*(n+1)=k;generalize fct n / fct ((az x.f).length+(az x.s).length)=E;rw[Int.mul_sub];congr 1
 .split
  .push_cast;simp only[Vr]
  .simp
 .split
  .push_cast;simp only[Vr]
  .simp
theorem oZ{n:Nat}{i:Nat}:∀{xs:List Out},(∀x∈xs,OutOk n x)->bU (n+2) xs i=(((n+2)*(n+1):Nat):Int)*bU n xs i
 |[],_=>by simp[bU]
 |x::xs,h=>by
  have e:=oZ (i:=i) λy p=>h y (Qf _ p);have f:=Ct (i:=i) (h x Qm);unfold bU at e ⊢;rw[PU,QJ,e,f,PU,QJ,Int.mul_add]
theorem DP{m:Nat}{x:Out}(h:OutOk n x)(e:n<=i):ic m x i=0:=by
 have p:x.f.testBit i=false:=TN (Qc h.f<|QR (by decide) e)
 have w:x.s.testBit i=false:=TN (Qc h.s<|QR (by decide) e)
 unfold ic;rw[p,w];simp
theorem oR{n m:Nat}{i:Nat}(f:n<=i):∀{xs:List Out},(∀x∈xs,OutOk n x)->bU m xs i=0
 |[],_=>rfl
 |x::xs,h=>by
  have e:=oR (m:=m) f λy p=>h y (Qf _ p);unfold bU at e ⊢;rw[PU,QJ,e,DP (h x Qm) f];rfl
theorem OutOk.more{x:Out}(h:OutOk n x):OutOk (n+2) x:=
 ⟨Qc h.s (QR (by decide)<|by lia),Qc h.f (QR (by decide)<|by lia),by have:=h.l;lia⟩
theorem nE(h:n<=7):fct n<=5040:=tj (b:=7) h
theorem L9{x:Out}(H:n<=7)(h:OutOk n x):-128024064000<=ic n x i/\ic n x i<=128024064000:=by
 have J:=h.l;have p:fct n / fct ((az x.f).length+(az x.s).length)<=5040:=Qp (Nat.div_le_self _ _) (nE H);have e:∀E A B:Nat,E<=5040->A<=5040->B<=5040->E*A*B<=128024064000:=λE A B w F G=>by
  have:=TZ (TZ w F) G;exact this
 have I:=e _ _ _ p (nE (n:=(az x.f).length-1)<|by lia) (nE (n:=(az x.s).length)<|by lia)
 have O:=e _ _ _ p (nE (n:=(az x.f).length)<|by lia) (nE (n:=(az x.s).length-1)<|by lia)
 unfold ic
 split<;>split<;>lia
theorem wk{n:Nat}{i:Nat}(e:n<=7):∀{xs:List Out},(∀x∈xs,OutOk n x)->-128024064000*(xs.length:Int)<=bU n xs i/\bU n xs i<=128024064000*(xs.length:Int)
 |[],_=>by simp[bU]
 |x::xs,h=>by
  have p:=wk (i:=i) e λy f=>h y (Qf _ f);have w:=L9 (i:=i) e (h x Qm);unfold bU at p ⊢;rw[PU,QJ,Qe]
  push_cast
  lia
mutual
def MT:Rw->Prop
 |.pick _ _=>False
 |.ifr _ a b=>eP a/\eP b
 |.again _ a=>eP a
 |.put _ _=>True
 |.take _ _=>True
 |.two _ _ _ _=>True
def eP:List Rw->Prop
 |[]=>True
 |r::rs=>MT r/\eP rs
end
theorem iR:∀{a b:List Rw},eP a->eP b->eP (a++b)
 |[],_,_,h=>h
 |r::rs,b,h,h'=>⟨h.1,iR h.2 h'⟩
mutual
theorem BW{names:Yv}{m:Int}{many:Nat}:∀(r:Rw),cA names m many r->cA names m ((many+2:Nat):Int) r
 |.put x k,h=>h
 |.take x i,h=>⟨h.1,h.2.1,by have:=h.2.2;lia⟩
 |.pick x y,h=>⟨h.1,h.2.1,by lia⟩
 |.two w x y z,h=>h
 |.ifr x a b,h=>by
  simp only[cA]at h ⊢;exact⟨h.1,eS a h.2.1,eS b h.2.2⟩
 |.again x a,h=>by
  simp only[cA]at h ⊢;exact⟨h.1,eS a h.2⟩
theorem eS{names:Yv}{m:Int}{many:Nat}:∀(rs:List Rw),bf names m many rs->bf names m ((many+2:Nat):Int) rs
 |[],_=>trivial
 |r::rs,h=>⟨BW r h.1,eS rs h.2⟩
end
def Cse.mo(C:Cse):Cse:={ C with many:=C.many+2 }
def Sta.mo(s:Sta)(v w:Int):Sta:=⟨s.nums,s.pieces++[v,w]⟩
def iZ(C:Cse):List aG:=[.inl (C.many:Nat),.inl ((C.many:Nat)+1:Int)]
def Gs.mo(g:Gs)(C:Cse)(v w:Int):Gs:={ g with ps:=g.ps++[v,w],u:=g.u++iZ C }
section
variable{t:Sta}{r:Rw}{w v' w':Int}
theorem Cse.Ok.mo(o:C.Ok)(h:C.many<=90):C.mo.Ok:=⟨o.m2,o.m1,by show C.many+2<=100;lia,o.most,o.nd,o.l0,o.l1,eS _ o.ok,o.h,o.mn⟩
theorem SOk.mo(k:SOk C s)(f:0<=v/\v<C.w)(p:0<=w/\w<C.w):SOk C.mo (s.mo v w):=by
 refine⟨k.ln,?_,k.rn,λx e=>?_⟩
 .show (s.pieces++[v,w]).length=C.many+2
  rw[PX,k.lp];rfl
 .have e:x∈s.pieces++[v,w]:=e
  rcases QC.mp e with h|h
  .exact k.rp x h
  .simp only[Ql,QM,or_false]at h
   rcases h with rfl|rfl
   .exact f
   .exact p
theorem J6:cZ C.mo=cZ C++iZ C:=by
 show C.names.map Qr++(QG (C.many+2)).map (λ(i:Nat)=>(Rx (i:Int):aG))=C.names.map Qr++(QG C.many).map (λ(i:Nat)=>(Rx (i:Int):aG))++iZ C;rw[UM,UM];simp[iZ]
theorem Nt(e:q∈cZ C):q∉iZ C:=by
 intro h;simp only[iZ,Ql,QM,or_false]at h;rcases dZ e with⟨x,_,rfl⟩|⟨i,hi,rfl⟩
 .rcases h with h|h<;>cases h
 .rcases h with h|h
  .have:=SF h;lia
  .have:=SF h;lia
theorem qO(k:SOk C s)(e:q∈cZ C):aL C.mo (s.mo v w) q=aL C s q:=by
 rcases dZ e with⟨x,_,rfl⟩|⟨i,hi,rfl⟩
 .rfl
 .show ((s.pieces++[v,w])[((i:Nat):Int).toNat]?).getD 0=(s.pieces[((i:Nat):Int).toNat]?).getD 0
  rw[Qh,QY (by rw[k.lp];exact hi)]
theorem qW(p:SOk C s)(h:SOk C t)(F:v≠v')(G:w≠w'):aC C.mo (s.mo v w) (t.mo v' w')=aC C s t++iZ C:=by
 unfold aC;rw[J6,Rf];congr 1
 .refine RZ λq e=>?_
  rw[qO p e,qO h e]
 .refine Sh.mpr λq e=>?_
  have B:∀(z:Sta)(x y:Int),z.pieces.length=C.many->aL C.mo (z.mo x y) (.inl (C.many:Nat))=x:=λz x y f=>by
   show ((z.pieces++[x,y])[((C.many:Nat):Int).toNat]?).getD 0=x;rw[Qh,QD (by lia),f];simp
  have A:∀(z:Sta)(x y:Int),z.pieces.length=C.many->aL C.mo (z.mo x y) (.inl ((C.many:Nat)+1:Int))=y:=λz x y f=>by
   show ((z.pieces++[x,y])[(((C.many:Nat):Int)+1).toNat]?).getD 0=y;have:(((C.many:Nat):Int)+1).toNat=C.many+1:=by lia
   rw[this,QD (by lia),f];simp
  simp only[iZ,Ql,QM,or_false]at e;rcases e with rfl|rfl
  .rw[B s v w p.lp,B t v' w' h.lp];exact decide_eq_true F
  .rw[A s v w p.lp,A t v' w' h.lp];exact decide_eq_true G
theorem DJ(e:q∈cZ C):q∈(g.mo C v w).u↔q∈g.u:=by
 show q∈g.u++iZ C↔_;rw[QC];exact⟨λh=>h.elim id λz=>absurd z (Nt e),.inl⟩
theorem D3:(Qr x:aG)∈(g.mo C v w).u↔(Qr x:aG)∈g.u:=by
 show _∈g.u++iZ C↔_;rw[QC];refine⟨λh=>h.elim id λz=>?_,.inl⟩;simp only[iZ,Ql,QM,or_false]at z;rcases z with z|z<;>cases z
theorem JZ(f:cA C.names C.w C.many r)(F:MT r):dO C.mo (g.mo C v w) r=dO C g r:=by
 have O:((da r).filter λx=>decide ((Qr x:aG)∈(g.mo C v w).u))=(da r).filter λx=>decide ((Qr x:aG)∈g.u):=RZ λx _=>by simp only[D3]
 have ne:¬(g.mo C v w).u=[]:=by
  show ¬g.u++iZ C=[];simp[iZ]
 have H:∀l:List Str,(iZ C).filter (λk=>decide (k∈l.map (Qr:Str->aG)))=[]:=λl=>by
  rw[TF];intro q G h;obtain⟨x,_,e⟩:=Qv.mp (of_decide_eq_true h);simp only[iZ,Ql,QM,or_false]at G;subst e;rcases G with z|z<;>cases z
 have P:xh C.mo (g.mo C v w).n r=xh C g.n r:=by
  cases r with
  |pick=>exact F.elim
  |_=>rfl
 unfold dO;rw[if_neg ne,O,J6,Rf,H,QO,P]
 by_cases c:g.u=[]
 .rw[if_pos c,c]
  simp only[QM,decide_false];have I:∀l:List Str,l.filter (λ_=>eC)=[]:=λl=>by induction l<;>simp_all
  have J:∀l:List aG,l.filter (λ_=>eC)=[]:=λl=>by induction l<;>simp_all
  simp only[I,Qt,QM,decide_false,J];cases p:xh C g.n r with
  |none=>rfl
  |some i=>
   have:(Rx i:aG)∉(g.mo C v w).u:=by
    have A:(Rx i:aG)∈cZ C:=by
     cases r with
     |take x j=>
      have e:j=i:=by simpa [xh] using p
      subst e;exact QC.mpr (.inr<|Qv.mpr ⟨j.toNat,Ri.mpr (by have:=f.2.1;have:=f.2.2;lia),by congr 1;have:=f.2.1;lia⟩)
     |pick=>exact F.elim
     |_=>cases p
    rw[DJ A,c];exact QM
   simp only[if_neg this]
 .rw[if_neg c]
  cases R:(cZ C).filter λk=>decide (k∈((da r).filter λx=>decide ((Qr x:aG)∈g.u)).map Qr) with
  |cons k l=>rfl
  |nil=>
   cases p:xh C g.n r with
   |none=>rfl
   |some i=>
    have A:(Rx i:aG)∈cZ C:=by
     cases r with
     |take x j=>
      have e:j=i:=by simpa [xh] using p
      subst e;exact QC.mpr (.inr<|Qv.mpr ⟨j.toNat,Ri.mpr (by have:=f.2.1;have:=f.2.2;lia),by congr 1;have:=f.2.1;lia⟩)
     |pick=>exact F.elim
     |_=>cases p
    by_cases B:(Rx i:aG)∈g.u
    .simp only[if_pos B,if_pos ((DJ (v:=v) (w:=w) A).mpr B)]
    .simp only[if_neg B,if_neg λz=>B ((DJ (v:=v) (w:=w) A).mp z)]
theorem NQ(ok:GOk C g)(h:cA C.names C.w C.many r)(A:MT r):jP C.mo (g.mo C v w) rest r=(jP C g rest r).mo C v w:=by
 have p:∀x:Str,(iZ C).filter (λk=>decide (k≠(Qr x:aG)))=iZ C:=λx=>Sh.mpr λq f=>by
  simp only[iZ,Ql,QM,or_false]at f;rcases f with rfl|rfl<;>exact decide_eq_true λz=>by cases z
 have set:∀(x:Str)(n:Int),Gs.mk (sN g.n x n) (g.ps++[v,w]) ((g.u++iZ C).filter λk=>decide (k≠.inr x)) rest (g.left-1)=Gs.mo ⟨sN g.n x n,g.ps,g.u.filter λk=>decide (k≠.inr x),rest,g.left-1⟩ C v w:=λx n=>by
  show _=Gs.mk _ _ _ _ _;rw[Rf,p]
 cases r with
 |pick=>exact A.elim
 |take x i=>
  have F:=h.2.2;have B:=h.2.1;have e:num ((g.mo C v w).cf C.mo) (g.mo C v w).n (.take x i)=num (g.cf C) g.n (.take x i):=by
   show ((g.ps++[v,w])[i.toNat]?).getD 0=(g.ps[i.toNat]?).getD 0;rw[QY (by rw[ok.lp];lia)]
  show Gs.mk (sN g.n x<|num ((g.mo C v w).cf C.mo) (g.mo C v w).n<|.take x i) (g.ps++[v,w]) ((g.u++iZ C).filter λk=>decide (k≠.inr x)) rest (g.left-1)=_;rw[e];exact set x _
 |put x k=>exact set x _
 |two w' x y z=>exact set x _
 |ifr x a b=>rfl
 |again x a=>rfl
theorem Nd(e:MT r)(f:eP rest):eP (jP C g rest r).td:=by
 cases r with
 |ifr x a b=>
  show eP ((if nm g.n x=0 then b else a)++rest)
  simp only[MT]at e
  split
  .exact iR e.2 f
  .exact iR e.1 f
 |again x a=>
  show eP (if nm g.n x=0 then rest else a++(.again x a::rest))
  split
  .exact f
  .exact iR (by simpa only[MT] using e) ⟨e,f⟩
 |_=>exact f
theorem Ik(o:C.Ok):∀(f:Nat)(g:Gs),GOk C g->eP g.td->bE C.mo f (g.mo C v w)=((bE C f g).1,(bE C f g).2.mo C v w)/\eP (bE C f g).2.td
 |0,g,ok,np=>⟨rfl,np⟩
 |f+1,g,ok,np=>by
  have h:(g.mo C v w).td=g.td:=rfl;have A:(g.mo C v w).left=g.left:=rfl;unfold bE;rw[h,A];cases e:g.td with
  |nil=>
   refine⟨?_,by rw[e];trivial⟩
   show (if (Qr C.mn:aG)∈(g.mo C v w).u then ap (Qr C.mn) else cm,g.mo C v w)=(if (Qr C.mn:aG)∈g.u then ap (Qr C.mn) else cm,g.mo C v w)
   simp only[D3]
  |cons r rest=>
   have p:cA C.names C.w C.many r:=by
    have:=ok.td;rw[e]at this;exact this.1
   rw[e]at np;dsimp only
   by_cases c:g.left<=0
   .rw[if_pos c,if_pos c]
    exact⟨rfl,by rw[e];exact np⟩
   .rw[if_neg c,if_neg c,JZ p np.1]
    cases a:dO C g r with
    |some k=>exact⟨rfl,by dsimp only;rw[e];exact np⟩
    |none=>
     dsimp only;rw[NQ ok p np.1];exact Ik o f _ (qx o ok e) (Nd np.1 np.2)
theorem Ds{x:Int}(ok:GOk C g)(p:q∈cZ C):cj (g.mo C v w) q x=(cj g q x).mo C v w:=by
 have f:(iZ C).filter (λk=>decide (k≠q))=iZ C:=Sh.mpr λk B=>decide_eq_true λz=>Nt p (z▸B);cases q with
 |inr y=>
  show Gs.mk (sN g.n y x) (g.ps++[v,w]) ((g.u++iZ C).filter λk=>decide (k≠.inr y)) g.td g.left=Gs.mk (sN g.n y x) (g.ps++[v,w]) ((g.u.filter λk=>decide (k≠.inr y))++iZ C) g.td g.left;rw[Rf,f]
 |inl j=>
  obtain⟨i,A,e⟩:∃i:Nat,i<C.many/\j=(i:Int):=by
   rcases dZ p with⟨y,F,e⟩|⟨i,h,e⟩
   .cases e
   .exact⟨i,h,SF e⟩
  subst e;show Gs.mk g.n ((g.ps++[v,w]).set ((i:Nat):Int).toNat x) ((g.u++iZ C).filter λk=>decide (k≠.inl (i:Int))) g.td g.left=Gs.mk g.n (g.ps.set ((i:Nat):Int).toNat x++[v,w]) ((g.u.filter λk=>decide (k≠.inl (i:Int)))++iZ C) g.td g.left;rw[Rf,f,List.set_append_left _ _ (by rw[Qh,ok.lp];exact A)]
theorem y1(o:C.Ok)(I:SOk C s)(H:SOk C t):∀(f:Nat)(g:Gs),GOk C g->eP g.td->(∀x∈g.u,x∈cZ C)->bZ C.mo (s.mo v w) (t.mo v' w') f (g.mo C v w)=bZ C s t f g
 |0,g,ok,np,hu=>rfl
 |f+1,g,ok,np,hu=>by
  have p:=m4 o (C.most+1) g ok;obtain⟨⟨_,h⟩,_,hask⟩:=i8 (C:=C) (C.most+1) g;obtain⟨O,G⟩:=Ik (v:=v) (w:=w) o (C.most+1) g ok np;unfold bZ;have R:C.mo.most=C.most:=rfl;rw[R,O];generalize bE C (C.most+1) g=go at *;obtain⟨a,B⟩:=go;dsimp only at *;cases a with
  |none=>rfl
  |some q=>
   have e:=hu q (h q<|hask q rfl);dsimp only;rw[qO I e,qO H e,Ds p e,Ds p e];have A:∀y:Sta,SOk C y->bZ C.mo (s.mo v w) (t.mo v' w') f ((cj B q<|aL C y q).mo C v w)=bZ C s t f (cj B q<|aL C y q):=λy P=>by
    refine y1 o I H f _ (lR p<|cu o P e) ?_ λx J=>?_
    .have F:(cj B q<|aL C y q).td=B.td:=by cases q<;>rfl
     rw[F];exact G
    .rw[dR]at J;exact hu x (h x (Qa.mp J).1)
   rw[A s I,A t H]
theorem xn(o:C.Ok)(f:SOk C s)(h:SOk C t)(A:eP C.rows)(p:v≠v')(B:w≠w'):C.mo.tree (s.mo v w) (t.mo v' w')=C.tree s t:=by
 have e:g0 C.mo (s.mo v w) (t.mo v' w')=(g0 C s t).mo C v w:=by
  show Gs.mk _ _ _ _ _=Gs.mk _ _ _ _ _;rw[qW f h p B];rfl
 show bZ C.mo (s.mo v w) (t.mo v' w') 24 (g0 C.mo (s.mo v w)<|t.mo v' w')=bZ C s t 24 (g0 C s t);rw[e];exact y1 o f h 24 _ (Dn o f) A lX
theorem vq{us X:List aG}{a b:Int}:∀(t:Tr)(u:List aG)(S F:Nat),TrN t u->(∀q∈u,q∈us)->dg a b (us++X) t S F=dg a b us t S F
 |.e m,u,S,F,_,_=>rfl
 |.a q x y,u,S,F,h,hs=>by
  have p:bitK (us++X) q=bitK us q:=by
   unfold bitK;rw[List.idxOf_append,if_pos (hs q h.1)]
  have f:∀k∈u.filter (λk=>decide (k≠q)),k∈us:=λk A=>hs k (Qa.mp A).1;unfold dg;rw[p,vq x _ _ _ h.2.1 f,vq y _ _ _ h.2.2 f]
end
def flt(rs:List Rw):List Rw:=rs.filter bj
def Cy(d:D):Bool:=match d with
 |.tup (.str w::_)=>!(decide (w=("if":Str))||decide (w=("again":Str)))
 |_=>true
theorem LR{r:Rw}(h:cA names m many r):Cy r.d=bj r:=by
 have e:∀w rest,Cy (.tup (.str w::rest))=!(decide (w=("if":Str))||decide (w=("again":Str))):=λ_ _=>rfl
 cases r with
 |two w x y z=>
  simp only[Rw.d,e,bj];rcases h.1 with rfl|rfl|rfl|rfl<;>decide +kernel
 |_=>simp only[Rw.d,e,bj];decide +kernel
theorem zq{names:Yv}{m many:Int}:∀{rs:List Rw},bf names m many rs->(aA rs).filter Cy=aA (flt rs)
 |[],_=>rfl
 |r::rs,h=>by
  have e:=zq h.2;unfold flt at e ⊢;rw[aA,QB,QB,LR h.1,e]
  split<;>rfl
theorem vN{names:Yv}{m many:Int}:∀{rs:List Rw},bf names m many rs->bf names m many (flt rs)
 |[],_=>trivial
 |r::rs,h=>by
  have e:=vN h.2;unfold flt at e ⊢;rw[QB]
  split
  .exact⟨h.1,e⟩
  .exact e
theorem pf{r:Rw}(h:cA names m many r):∃(w:Str)(rest:List D),r.d=.tup (.str w::.str (dY r)::rest):=by
 cases r<;>exact⟨_,_,rfl⟩
theorem sK{d:D}(h:d∈aA rs):∃r∈rs,d=r.d:=by
 rw[gy]at h;obtain⟨r,e,rfl⟩:=Qv.mp h;exact⟨r,e,rfl⟩
theorem iO{names:Yv}{m many:Int}:∀{rs:List Rw}{r:Rw},bf names m many rs->r∈rs->cA names m many r
 |r::rs,q,h,hq=>by
  rcases Ql.mp hq with rfl|hq
  .exact h.1
  .exact iO h.2 hq
section
variable{k:Pt}
theorem pe(I:rs.length<=1000)(ok:bf names m many rs)(h:Q (.tup<|aA<|flt rs) M):sZ ad [.tup (aA rs)] M Q E:=by
 rw[Oy (n:=0)];unfold xL;simp only[aF,bF,aa,af,aq,aY,bK,ac,dt,aO,bN,bw,Qt,Qn,Qo,PU];refine dk Cy id aT (by rw[bz];lia) (λx F K q=>?_) (λx F _ K q=>q) ?_
 .obtain⟨r,H,rfl⟩:=sK F
  obtain⟨w,rest,e⟩:=pf (iO ok H);have G:Cy r.d=!(decide (w=("if":Str))||decide (w=("again":Str))):=by rw[e];rfl
  rw[G]at q;rw[e];simp![atI_0];refine⟨aX (by decide),λp f=>?_⟩
  rw[Mem.upd_del,aE f];rcases Decidable.em (w=("if":Str)) with c1|c1
  .subst c1
   simpa [aR] using q
  .rcases Decidable.em (w=("again":Str)) with c2|c2
   .subst c2
    simpa [aR] using q
   .have A:¬("if":Str)=w:=λz=>c1 z.symm
    have B:¬("again":Str)=w:=λz=>c2 z.symm;simpa [aR,c1,c2,A,B] using q
 intro p f;rw[RA,zq ok];refine cD f ?_;exact ak h
theorem fk(f:Has k M)(F:2<=m)(A:m<=997)(B:0<=v/\v<m)(h:∀w M',0<=w->w<m->w≠v->Dr k M M'->Q (.int w) M'):mz ad [.ref k.p,.int m,.int v] M Q E:=by
 rw[Pl (n:=0)];unfold yV;simp![];refine am f (by lia) (by lia) λr M' a b d=>?_
 simp![];refine⟨by lia,ak<|h _ _ (Q0 _<|by lia) (Q8 _<|by lia) ?_ d⟩
 intro z
 by_cases c:v+1+r<m
 .rw[Int.emod_eq_of_lt (by lia) c]at z;lia
 .have e:(v+1+r) % m=v+1+r-m:=by
   rw[<- Int.sub_emod_right,Int.emod_eq_of_lt (by lia) (by lia)]
  rw[e]at z;lia
end
def J7(C:Cse)(s t:Sta):D:=if (C.run s).1=true/\(C.run t).1=true then .tup [.int (nm (C.run s).2.nums C.mn),.int (nm (C.run t).2.nums C.mn)] else .non
theorem ot:∀(n:Nat)(f:Str->Int)(xs:Yv),bv n (xs.map λx=>D.int (f x))=true
 |n,f,[]=>by cases n<;>rfl
 |n,f,x::xs=>by
  have:=ot n f xs;cases n<;>simp[bv,bn,this]
theorem FO{r:Bool×Sx}:bn 60 (eL names r)=true:=by
 unfold eL
 split
 .have:=ot 59 (λx=>nm r.2.nums x) names
  simp[bn,this]
 .rfl
theorem Gu{r:Bool×Sx}:aR (eL names r) .non=!r.1:=by
 unfold eL;cases r.1<;>rfl
theorem E8{r:Bool×Sx}(e:r.1=true)(f:names[j]?=ap mk):∃xs,eL names r=.tup xs/\atI xs (j:Int)=ap (.int<|nm r.2.nums mk):=by
 refine⟨names.map λx=>.int (nm r.2.nums x),by unfold eL;rw[if_pos e],?_⟩
 rw[br (by lia),Qh,Qj,f];rfl
section
variable{t:Sta}
theorem NU{K:DK}(o:C.Ok)(e:SOk C z)(h:K (eL C.names<|C.run z) M):
  ah aw (oa<|aj (mQ ad) EE 3<|aa (ac 1)<|aa (ac 0)<|aa (ac 2) af) (dC<|.int 1) [ap z.d,ap C.d,ap (.int (C.most:Nat))] M K:=by
 rw[e.pd];simp only[ah,oa,aj,aa,ac,af,dC,PN,dt];refine⟨rfl,sE (o.pl e) ?_⟩;unfold AS;simp only[aw,aO,atI_1,PN,dt];exact h
theorem fX(o:C.Ok)(Y:SOk C s)(X:SOk C t)(h:Q (J7 C s t) M):oK ad [C.d,s.d,t.d,.int (C.most:Nat)] M Q E:=by
 have G:=@Dd C;rw[NM (n:=0)];unfold zZ;generalize A:kE ad (aB E)=K3;generalize w:(ah aw (oa<|aj (mQ ad) jf 3<|aa (ac 1)<|aa (ac 0)<|aa (ac 2) af)<|dC<|.int 1)=te;have H:∀{z:Sta}{K:DK},SOk C z->K (eL C.names<|C.run z) M->te [ap z.d,ap C.d,ap (.int (C.most:Nat))] M K:=λ{z K} P q=>by
  rw[<- w];exact NU o P q
 simp only[ai,cE,df,aY,bK,aq,bV,aa,ac,af,dt,PN,bw,PU,Qt,Qn,Qo];refine⟨aX (by simp),λp F=>cD F ?_⟩
 simp only[aO,bN];unfold cw;refine⟨aT,?_⟩;simp only[ag,Qi,dG,if_true,Q4];refine H Y ⟨ji (by simp),?_⟩
 unfold cw;refine⟨aT,?_⟩;simp only[ag,Qi,dG,if_true];refine H X ⟨ji (by simp),?_⟩
 unfold cw;refine⟨aT,λp F=>?_⟩;simp only[Qo,Qn,Qi,dt,PN,fE,Mem.upd_same,Mem.upd_del,aE F];rw[<- A];unfold kE;generalize B:kz ad (aB E)=K2;unfold J7 at h;have S:bv 60 [eL C.names (C.run s),eL C.names (C.run t)]=true:=by simp[bv,FO]
 simp only[ai,aN,ao,ah,dC,ac,dt,PN,Ck,qM,aO,dv,S,(show bn 60 D.non=true from rfl),and_self,if_true,RE,List.any_nil,Gu,Sk]
 by_cases c:(C.run s).1=true/\(C.run t).1=true
 .rw[if_pos c]at h
  simp only[c.1,c.2,SI,Bool.or_self,QA,if_false,aH];rw[<- B];unfold kz;generalize f:kX ad (aB E)=K1;obtain⟨j,J,e⟩:=qk o.mn;obtain⟨xs,I,R⟩:=E8 c.1 e;obtain⟨Z,O,W⟩:=E8 c.2 e;rw[G];simp![atI_1,atI_4,fA,J];rw[<- f];unfold kX;simp![atI_0,atI_1,I,O,R,W];exact⟨Qp o.l1 (by decide),aX (by simp),ak h⟩
 .rw[if_neg c]at h
  have:(!(C.run s).1||!(C.run t).1)=true:=by
   cases h1:(C.run s).1<;>cases h2:(C.run t).1<;>simp_all
  simp only[this,if_true,aF,dC];exact ak h
theorem pF(h:Q (J7 C s t) M):frz (J7 C s t) M Q:=by
 unfold J7 at h ⊢
 split at h
 .rename_i c;rw[if_pos c];exact h
 .rename_i c;rw[if_neg c];exact h
end
section
variable{cf:Cf}
theorem FQ{n:cC}{r:Rw}:iH cf n (rs++rest) r=((iH cf n rs r).1,(iH cf n rs r).2++rest):=by
 cases r with
 |ifr x a b=>simp only[iH,List.append_assoc]
 |again x a=>
  simp only[iH]
  split<;>simp
 |_=>rfl
theorem m5:∀(k:Nat)(n:cC)(rs:List Rw)(f:cC),fin cf k n rs=ap f->∀(e:Nat)(rest:List Rw),∃j,e<=j/\fin cf (k+e) n (rs++rest)=fin cf j f rest
 |k,n,[],f,h,e,rest=>by
  rw[dz]at h;cases h;exact⟨k+e,by lia,rfl⟩
 |0,n,r::rs,f,h,e,rest=>by cases h
 |k+1,n,r::rs,f,h,e,rest=>by
  have w:fin cf k (iH cf n rs r).1 (iH cf n rs r).2=ap f:=h;obtain⟨j,A,p⟩:=m5 k _ _ _ w e rest;refine⟨j,A,?_⟩;have:k+1+e=(k+e)+1:=by lia
  rw[this,Qn];show fin cf (k+e) (iH cf n (rs++rest) r).1 (iH cf n (rs++rest) r).2=_;rw[FQ];exact p
theorem MJ{k1 k2:Nat}{n:cC}{r:Rw}:iH ⟨m,ps,k1⟩ n rest r=iH ⟨m,ps,k2⟩ n rest r:=by cases r<;>rfl
theorem F8{m:Int}{ps:Yu}{k1 k2:Nat}:∀(k:Nat)(n:cC)(rs:List Rw),fin ⟨m,ps,k1⟩ k n rs=fin ⟨m,ps,k2⟩ k n rs
 |k,n,[]=>by rw[dz,dz]
 |0,n,r::rs=>rfl
 |k+1,n,r::rs=>by
  show fin _ k (iH ⟨m,ps,k1⟩ n rs r).1 (iH ⟨m,ps,k1⟩ n rs r).2=fin _ k (iH ⟨m,ps,k2⟩ n rs r).1 (iH ⟨m,ps,k2⟩ n rs r).2;rw[MJ (k1:=k1) (k2:=k2)];exact F8 k _ _
def fz(cf:Cf)(n:cC)(rs:List Rw):cC:=rs.foldl (λn r=>sN n (dY r) (num cf n r)) n
theorem lV:∀(rs:List Rw)(k:Nat)(n:cC),(∀r∈rs,bj r=true)->rs.length<=k->fin cf k n rs=ap (fz cf n rs)
 |[],k,n,_,_=>dz
 |r::rs,0,n,_,h=>by simp at h
 |r::rs,k+1,n,hs,h=>by
  have e:=hs r Qm;have p:iH cf n rs r=(sN n (dY r) (num cf n r),rs):=by
   cases r with
   |ifr=>cases e
   |again=>cases e
   |_=>rfl
  show fin cf k (iH cf n rs r).1 (iH cf n rs r).2=_;rw[p];exact lV rs k _ (λq f=>hs q (Qf _ f)) (by simpa using h)
theorem GW{n:cC}:∀(rs:List Rw),(fz cf n rs).map (·.1)=n.map (·.1):=by
 intro rs
 induction rs generalizing n with
 |nil=>rfl
 |cons r rs ih=>
  show (fz cf (sN n (dY r)<|num cf n r) rs).map (·.1)=_;rw[ih,ig]
theorem Il{y:Str}:∀(rs:List Rw)(n:cC),(∀r∈rs,dY r∈n.map (·.1))->(∀r∈rs,dY r≠y)->nm (fz cf n rs) y=nm n y
 |[],n,_,_=>rfl
 |r::rs,n,hk,hn=>by
  show nm (fz cf (sN n (dY r)<|num cf n r) rs) y=_;rw[Il rs _ (λq e=>by rw[ig];exact hk q (Qf _ e)) (λq e=>hn q (Qf _ e)),h8 (hk r Qm),if_neg λz=>hn r Qm z.symm]
end
theorem Dv{p q:Int}(F:0<=p/\p<m)(B:0<=q/\q<m)(h:p≠q):(a+p) % m≠(a+q) % m:=by
 intro z;have e:(a+p-(a+q)) % m=0:=Int.emod_eq_emod_iff_emod_sub_eq_zero.mp z;have f:a+p-(a+q)=p-q:=by lia
 rw[f]at e;have A:=Int.dvd_of_emod_eq_zero e;obtain⟨c,w⟩:=A;have:c=0:=by
  rcases Int.lt_trichotomy c 0 with g|g|g
  .have:=UP (show c<=-1 by lia) (show (0:Int)<=m by lia)
   rw[Int.mul_neg,UO]at this;lia
  .exact g
  .have:=UP (show 1<=c by lia) (show (0:Int)<=m by lia)
   rw[UO]at this;lia
 subst this;rw[Int.mul_zero]at w;lia
def Cse.rw(C:Cse)(rs:List Rw):Cse:={ C with rows:=rs }
def Cse.two(C:Cse)(s t:Sta):Prop:=∃a b,C.mark s=.int a/\C.mark t=.int b/\a≠b
section
variable{t:Sta}{more:List Rw}{n:cC}
theorem yz(o:C.Ok)(e:SOk C z):NOk C.names C.w (C.run z).2.nums:=dy (o.pl e).co C.rows (o.pl e).ok [] 0 ⟨C.names.zip z.nums,[]⟩ (o.pl e).nok
theorem wU(h:(C.run z).1=true):fin (C.cf z) C.most (C.names.zip z.nums) C.rows=ap (C.run z).2.nums:=by
 have e:=i7 (cf:=C.cf z) C.rows [] 0 ⟨C.names.zip z.nums,[]⟩ [];rw[QO]at e;have f:fin (C.cf z) C.most (C.names.zip z.nums) C.rows=uG (C.cf z) (C.run z) []:=e;rw[f];unfold uG;rw[if_pos h,dz]
theorem kL{n:cC}(h:fin (C.cf z) C.most (C.names.zip z.nums) C.rows=ap n):(C.run z).1=true/\(C.run z).2.nums=n:=by
 have e:=i7 (cf:=C.cf z) C.rows [] 0 ⟨C.names.zip z.nums,[]⟩ [];rw[QO]at e;have f:fin (C.cf z) C.most (C.names.zip z.nums) C.rows=uG (C.cf z) (C.run z) []:=e;rw[f]at h;unfold uG at h
 split at h
 .rename_i c
  rw[dz]at h;cases h;exact⟨c,rfl⟩
 .cases h
theorem eU{n:cC}(h:fin (C.cf z) C.most (C.names.zip z.nums) C.rows=ap n):C.mark z=.int (nm n C.mn):=by
 rw[sf,h];rfl
theorem oE(h:fin (C.cf z) (C.most-4) (C.names.zip z.nums) C.rows=ap n)(B:4<=C.most)(p:∀r∈more,bj r=true)(A:more.length<=4):(C.rw (C.rows++more)).mark z=.int (nm (fz (C.cf z) n more) C.mn):=by
 obtain⟨j,w,e⟩:=m5 _ _ _ _ h 4 more;have f:C.most-4+4=C.most:=by lia
 rw[f,lV more j n p (by lia)]at e
 exact eU (C:=C.rw (C.rows++more)) e
end
def lP(y:Str)(rs:List Rw):List Rw:=rs.filter λr=>decide (dY r≠y)
def GQ(y:Str)(d:D):Bool:=match d with
 |.tup (_::.str x::_)=>decide (x≠y)
 |_=>true
theorem tW{names:Yv}{m many:Int}{y:Str}:∀{rs:List Rw},bf names m many rs->(aA rs).filter (GQ y)=aA (lP y rs)
 |[],_=>rfl
 |r::rs,h=>by
  have f:=tW (y:=y) h.2;obtain⟨w,rest,e⟩:=pf h.1;have p:GQ y r.d=decide (dY r≠y):=by rw[e];rfl
  unfold lP at f ⊢;rw[aA,QB,QB,p,f]
  split<;>rfl
theorem zr{names:Yv}{m many:Int}{p:Rw->Bool}:∀{rs:List Rw},bf names m many rs->bf names m many (rs.filter p)
 |[],_=>trivial
 |r::rs,h=>by
  have e:=zr (p:=p) h.2;rw[QB]
  split
  .exact⟨h.1,e⟩
  .exact e
theorem B9:∀{rs:List Rw},bf names m many rs->(∀r∈rs,bj r=true)->∀r∈rs,cK names m many r:=λh f r e=>gL (iO h e) (f r e)
theorem g8:∀{rs:List Rw},(∀r∈rs,bj r=true)->ei rs=0
 |[],_=>rfl
 |r::rs,h=>by
  have e:=h r Qm;have p:=g8 λq f=>h q (Qf _ f);cases r with
  |ifr=>exact absurd e Qq
  |again=>exact absurd e Qq
  |_=>simp[ei,hR,p]
theorem pJ:∀r∈flt rs,bj r=true:=λr e=>(Qa.mp e).2
theorem gK:∀r∈lP y (flt rs),bj r=true:=λr e=>pJ r (Qa.mp e).1
theorem CV{a b c d e:D}:ko [a,b,c,d,e] cm (ap 3)=[a,b,c]:=rfl
section
variable{t:Sta}
theorem Cse.Ok.rw(o:C.Ok)(e:bf C.names C.w C.many rs)(f:ei rs<=7):(C.rw rs).Ok:=⟨o.m2,o.m1,o.few,o.most,o.nd,o.l0,o.l1,e,f,o.mn⟩
theorem SOk.rw(k:SOk C s):SOk (C.rw rs) s:=⟨k.ln,k.lp,k.rn,k.rp⟩
theorem mI(o:C.Ok)(e:∀r∈rs,bj r=true)(f:rs.length<=C.most):fin ((C.rw rs).cf z) (C.rw rs).most (C.names.zip z.nums) (C.rw rs).rows=ap (fz (C.cf z) (C.names.zip z.nums) rs):=lV (cf:=C.cf z) rs C.most _ e f
theorem Ap(o:C.Ok)(e:∀r∈rs,bj r=true)(f:rs.length<=C.most):(C.rw rs).mark z=.int (nm (fz (C.cf z) (C.names.zip z.nums) rs) C.mn):=eU (C:=C.rw rs) (mI o e f)
theorem D1{n e:cC}(A:fin (C.cf s) C.most (C.names.zip s.nums) C.rows=ap n)(B:fin (C.cf t) C.most (C.names.zip t.nums) C.rows=ap e):J7 C s t=.tup [.int (nm n C.mn),.int (nm e C.mn)]:=by
 obtain⟨h,f⟩:=kL A;obtain⟨w,p⟩:=kL B;unfold J7;rw[if_pos ⟨h,w⟩,f,p]
theorem ne_e{w:D}{rest:List D}(q:K (!decide (x=y)) M):ao (ah jW (ah aw (ac 0)<|dC<|.int 1)<|ac 1) [ap (.tup (w::.str x::rest)),ap (.str y)] M K:=by
 simp only[ao,ah,ac,dC,aw,jW,dv,bn,aR,aO,atI_1,dt,PN];exact⟨trivial,trivial,q⟩
theorem rR(o:C.Ok)(hs:SOk C s)(ht:SOk C t)(hy:y∈C.names)(hn:aL C s (.inr y)≠aL C t (.inr y))(hrl:C.rows.length<=1000)(hl:(flt C.rows).length+1<=C.most)(h:∀rs,(C.rw rs).Ok->(C.rw rs).two s t->(∀r∈rs,bj r=true)->rs.length<=(flt C.rows).length+1->Q (C.rw rs).d M):za ad [C.d,s.d,t.d,.int (C.most:Nat),.str y] M Q E:=by
 have Z:=@Dd C;have A:∀rs,(C.rw rs).d=.tup [.int C.w,.tup (C.names.map D.str),.int (C.many:Nat),.tup (aA rs),.str C.mn]:=λ_=>rfl;have G:=vN o.ok;have B:bf C.names C.w C.many (lP y<|flt C.rows):=zr G;have ln:(lP y<|flt C.rows).length<=(flt C.rows).length:=QH _ _;have lf:(flt C.rows).length<=C.rows.length:=QH _ _;have o1:=o.rw B (by rw[g8 gK];decide)
 have f1:=mI (z:=s) o gK (show (lP y<|flt C.rows).length<=C.most by lia)
 have f2:=mI (z:=t) o gK (show (lP y<|flt C.rows).length<=C.most by lia)
 have em:=D1 (C:=C.rw (lP y<|flt C.rows)) f1 f2;have rk:∀(z:Sta),SOk C z->∀r∈lP y (flt C.rows),dY r∈(C.names.zip z.nums).map (·.1):=λz H r F=>by
  rw[fN H.ln.symm];exact vt (B9 B gK r F)
 have ny:∀(z:Sta),SOk C z->nm (fz (C.cf z) (C.names.zip z.nums)<|lP y<|flt C.rows) y=aL C z (.inr y):=λz H=>Il _ _ (rk z H) λr F=>of_decide_eq_true (Qa.mp F).2;rw[OP (n:=0)];unfold y4;generalize P:kO ad (aB E)=K5;rw[Z];simp only[ai,au,bF,aa,af,aq,aY,bK,aj,ah,ac,dC,aw,aO,atI_3,dt,PN,bw,Qt,PU,Qn,Qo];refine⟨rfl,aP (λ_ _ q=>pe hrl o.ok q) ?_⟩;simp only[frz,bN,aO,Q4];refine dk (GQ y) id aT (by rw[bz];lia) (λx hx K q=>?_) (λx hx _ K q=>q) ?_
 .obtain⟨r,F,rfl⟩:=sK hx
  obtain⟨w,rest,e⟩:=pf (iO G F);have e2:GQ y r.d=decide (dY r≠y):=by rw[e];rfl
  rw[e2]at q;rw[e];exact ne_e (by simpa [aR] using q)
 intro p hp;rw[RA,tW G];simp only[Mem.upd_same,Mem.upd_del,aE hp,cI,aO,ag,Qi];rw[<- P];unfold kO;generalize Y:kC ad (aB E)=K4;simp![CV,atI_4];refine⟨aX (by decide),aX (by decide),?_⟩
 rw[<- Y];unfold kC;generalize R:lj ad (aB E)=K3;simp only[ai,au,aq,aj,aa,ac,af,dt,PN];rw[<- A];refine⟨rfl,aP (λ_ _ q=>fX (C:=C.rw (lP y<|flt C.rows)) o1 hs.rw ht.rw q)<|pF ?_⟩;rw[em];simp only[ag,Qi];rw[<- R];unfold lj;generalize S:ma ad (aB E)=K2;simp![atI_0,atI_1];generalize X:fz (C.cf s) (C.names.zip s.nums) (lP y<|flt C.rows)=ns at *;generalize hft:fz (C.cf t) (C.names.zip t.nums) (lP y<|flt C.rows)=nt' at *;have J:(C.rw<|lP y<|flt C.rows).mn=C.mn:=rfl;rw[J]
 by_cases c:nm ns C.mn=nm nt' C.mn
 .simp only[if_pos c]
  rw[<- S];unfold ma;generalize O:lS ad (aB E)=K1;rw[A];simp![atI_4];refine⟨aX (by decide),?_⟩
  rw[<- O];unfold lS;simp![CV,atI_4,bz];refine⟨aX (by decide),aX (by lia),aX (by decide),aX (by decide),ak ?_⟩
  have er:aA (lP y<|flt C.rows)++[D.tup [.str "sum",.str C.mn,.str C.mn,.str y]]=aA (lP y (flt C.rows)++[.two "sum" C.mn C.mn y]):=by
   rw[bq];rfl
  rw[er,<- A];have f:∀r∈lP y (flt C.rows)++[.two "sum" C.mn C.mn y],bj r=true:=λr F=>by
   rcases QC.mp F with h|h
   .exact gK r h
   .simp only[V7]at h;subst h;rfl
  have W:bf C.names C.w C.many (lP y (flt C.rows)++[.two "sum" C.mn C.mn y]):=OkRs_append.mpr ⟨B,⟨⟨.inl rfl,o.mn,o.mn,hy⟩,trivial⟩⟩;refine h _ (o.rw W<|by rw[g8 f];decide) ?_ f (by rw[PX,Rc];lia)
  have g:∀(z:Sta),SOk C z->(C.rw (lP y (flt C.rows)++[.two "sum" C.mn C.mn y])).mark z=.int ((nm (fz (C.cf z) (C.names.zip z.nums)<|lP y<|flt C.rows) C.mn+aL C z (.inr y)) % C.w):=λz H=>by
   refine (Ap o f<|by rw[PX,Rc];lia).trans ?_
   have e:fz (C.cf z) (C.names.zip z.nums) (lP y (flt C.rows)++[.two "sum" C.mn C.mn y])=sN (fz (C.cf z) (C.names.zip z.nums)<|lP y<|flt C.rows) C.mn (num (C.cf z) (fz (C.cf z) (C.names.zip z.nums)<|lP y<|flt C.rows)<|.two "sum" C.mn C.mn y):=by
    unfold fz;rw[List.foldl_append];rfl
   have ek:C.mn∈(fz (C.cf z) (C.names.zip z.nums)<|lP y<|flt C.rows).map (·.1):=by rw[GW,fN H.ln.symm];exact o.mn
   rw[e];rw[h8 ek,if_pos rfl];show D.int (xw "sum" _ _ _)=_;unfold xw;rw[if_pos rfl,ny z H];rfl
  refine⟨_,_,g s hs,g t ht,?_⟩;rw[X,hft,c];have I:(Qr y:aG)∈cZ C:=QC.mpr (.inl<|Qv.mpr ⟨y,hy,rfl⟩);exact Dv (cu o hs I) (cu o ht I) hn
 .simp only[if_neg c]
  refine ak (h _ o1 ⟨_,_,?_,?_,c⟩ gK<|by lia)
  .exact eU f1
  .exact eU f2
end
theorem oy:∀(n:Nat)(xs:Yv),bv n (xs.map D.str)=true
 |n,[]=>by cases n<;>rfl
 |n,x::xs=>by
  have:=oy n xs;cases n<;>simp[bv,bn,this]
section
variable{t:Sta}
theorem ne_m{p f h w:D}{e:Str}(q:K (!decide (x=e)) M):ao (ah jW (ac 0)<|ah aw (ac 1)<|dC<|.int 4) [ap (.str x),ap (.tup [p,f,h,w,.str e])] M K:=by
 simp only[ao,ah,ac,dC,aw,jW,dv,bn,aR,aO,atI_4,dt,PN];exact⟨trivial,trivial,q⟩
theorem Jv{δ0 e:Option D}{xs:Yv}{b:Bool}(A:b=!xs.isEmpty)(q:K b M):ao (ah jW (ac 2)<|aq<|bV af) [δ0,e,ap (.lst<|xs.map D.str)] M K:=by
 simp only[ao,ah,ac,aq,bV,af,dt,PN];refine⟨aX (by simp),λp h=>cD h ?_⟩
 have w:=oy 59 xs;have f:bv 59 ([]:List D)=true:=rfl;simp only[jW,dv,bn,w,f];refine⟨trivial,trivial,?_⟩;rw[A]at q;cases xs with
 |nil=>exact q
 |cons x xs=>exact q
theorem uX{f h:Str}:∀r∈[Rw.take h 0,.two "sum" f f h],bj r=true:=by
 intro r e;simp only[Ql,QM,or_false]at e;rcases e with rfl|rfl<;>rfl
theorem q_(o:C.Ok)(hs:SOk C s)(ht:SOk C t)(h0:0<C.many)(hn:aL C s (.inl 0)≠aL C t (.inl 0))(hrl:C.rows.length<=1000)(h4:4<=C.most)(f1:fin (C.cf s) (C.most-4) (C.names.zip s.nums) C.rows=ap n1)(Z:fin (C.cf t) (C.most-4) (C.names.zip t.nums) C.rows=ap n2)(k1:n1.map (·.1)=C.names)(k2:n2.map (·.1)=C.names)(he:nm n1 C.mn=nm n2 C.mn)(h:∀more,(C.rw (C.rows++more)).Ok->(C.rw (C.rows++more)).two s t->(∀r∈more,bj r=true)->more.length<=2->Q (C.rw (C.rows++more)).d M):Fi ad [C.d] M Q E:=by
 have S:=@Dd C;have G:∀rs,(C.rw rs).d=.tup [.int C.w,.tup (C.names.map D.str),.int (C.many:Nat),.tup (aA rs),.str C.mn]:=λ_=>rfl;have l1:=o.l1;have F:(Rx 0:aG)∈cZ C:=QC.mpr (.inr<|Qv.mpr ⟨0,Ri.mpr h0,rfl⟩);have Y:∀more:List Rw,(∀r∈more,bj r=true)->bf C.names C.w C.many more->(C.rw (C.rows++more)).Ok:=λmore e O=>o.rw (OkRs_append.mpr ⟨o.ok,O⟩) (by rw[ck,g8 e];have:=o.h;lia)
 rw[u_q7 (n:=0)];unfold Hq;generalize R:qC ad (aB E)=K4;rw[S];simp![atI_4];refine⟨aX (by decide),aX (by decide),?_⟩
 rw[<- R];unfold qC;generalize W:qY ad (aB E)=K3;simp only[ai,cE,df,aY,bK,ah,ac,dC,aw,aO,atI_1,dt,PN,bw,Qt,PU,Qn,Qo,bN,Q4];refine dk (λd=>match d with|.str x=>!decide (x=C.mn)|_=>true) id aT (by rw[PQ];lia) (λx B K q=>?_) (λx B _ K q=>q) ?_
 .obtain⟨y,hy,rfl⟩:=Qv.mp B
  exact ne_m q
 intro p hp;have ef:((C.names.map D.str).filter λd=>match d with|.str x=>!decide (x=C.mn)|_=>true)=(C.names.filter λx=>!decide (x=C.mn)).map D.str:=by
  rw[Rk];rfl
 rw[RA,ef];simp only[fE,Qi,dt,PN,Mem.upd_same,Mem.upd_del,aE hp];rw[<- W];unfold qY;generalize H:nh ad (aB E)=K2;generalize I:pY ad (aB E)=K1;cases hf:C.names.filter λx=>!decide (x=C.mn) with
 |nil=>
  unfold ai aN;refine Jv (b:=eC) rfl ?_;rw[if_neg (by simp),<- H]
  unfold nh;simp![CV,atI_3,atI_4,bz];refine⟨aX (by lia),aX (by decide),aX (by decide),ak ?_⟩
  have P:aA C.rows++[D.tup [.str "take",.str C.mn,.int 0]]=aA (C.rows++[.take C.mn 0]):=by rw[bq];rfl
  rw[P,<- G];have e:∀r∈[Rw.take C.mn 0],bj r=true:=λr X=>by simp only[V7]at X;subst X;rfl
  have g:∀(z:Sta)(n:cC),fin (C.cf z) (C.most-4) (C.names.zip z.nums) C.rows=ap n->n.map (·.1)=C.names->(C.rw (C.rows++[.take C.mn 0])).mark z=.int (aL C z<|.inl 0):=λz n f k=>by
   refine (oE f h4 e<|by simp).trans ?_
   have:nm (fz (C.cf z) n [.take C.mn 0]) C.mn=aL C z (.inl 0):=by
    show nm (sN n C.mn _) C.mn=_;rw[h8 (by rw[k];exact o.mn),if_pos rfl];rfl
   rw[this]
  exact h _ (Y _ e ⟨⟨o.mn,Ss _,by lia⟩,trivial⟩) ⟨_,_,g s n1 f1 k1,g t n2 Z k2,hn⟩ e (by simp)
 |cons x0 xs=>
  have B:x0∈C.names.filter λx=>!decide (x=C.mn):=by rw[hf];exact Qm
  have A:=(Qa.mp B).1;have J:¬x0=C.mn:=by simpa using (Qa.mp B).2
  unfold ai aN;refine Jv (b:=true) rfl ?_;rw[if_pos rfl,<- I];unfold pY;simp![atI_0,atI_4,PU];refine⟨aX (by decide),aX (by decide),aX (by decide),?_⟩
  rw[<- H];unfold nh;simp![CV,atI_3,atI_4,bz];refine⟨aX (by lia),aX (by decide),aX (by decide),ak ?_⟩
  have P:aA C.rows++[D.tup [.str "take",.str x0,.int 0],D.tup [.str "sum",.str C.mn,.str C.mn,.str x0]]=aA (C.rows++[.take x0 0,.two "sum" C.mn C.mn x0]):=by rw[bq];rfl
  rw[P,<- G];have g:∀(z:Sta)(n:cC),fin (C.cf z) (C.most-4) (C.names.zip z.nums) C.rows=ap n->n.map (·.1)=C.names->(C.rw (C.rows++[.take x0 0,.two "sum" C.mn C.mn x0])).mark z=.int ((nm n C.mn+aL C z (.inl 0)) % C.w):=λz n f k=>by
   refine (oE f h4 uX<|by simp).trans ?_
   have:nm (fz (C.cf z) n [.take x0 0,.two "sum" C.mn C.mn x0]) C.mn=(nm n C.mn+aL C z (.inl 0)) % C.w:=by
    show nm (sN (sN n x0<|aL C z<|.inl 0) C.mn<|xw "sum" (nm (sN n x0<|aL C z<|.inl 0) C.mn) (nm (sN n x0<|aL C z<|.inl 0) x0) C.w) C.mn=_;rw[h8 (by rw[ig,k];exact o.mn),if_pos rfl,h8 (by rw[k];exact A),h8 (by rw[k];exact A),if_neg λz=>J z.symm,if_pos rfl]
    unfold xw;rw[if_pos rfl]
   rw[this]
  refine h _ (Y _ uX ⟨⟨A,Ss _,by lia⟩,⟨.inl rfl,o.mn,o.mn,A⟩,trivial⟩) ⟨_,_,g s n1 f1 k1,g t n2 Z k2,?_⟩ uX (by simp)
  rw[he];exact Dv (cu o hs F) (cu o ht F) hn
end
theorem tL{p:Rw->Bool}:∀(rs:List Rw),cRs (rs.filter p)<=cRs rs
 |[]=>PZ _
 |r::rs=>by
  have:=tL (p:=p) rs;rw[QB]
  split
  .simp only[cRs];lia
  .simp only[cRs];lia
theorem qe:∀(rs:List Rw),rs.length<=cRs rs
 |[]=>PZ _
 |r::rs=>by
  have:=qe rs;have:1<=cR r:=by cases r<;>simp only[cR]<;>lia
  simp only[cRs,Qe];lia
theorem qB:∀{rs:List Rw},(∀r∈rs,bj r=true)->cRs rs=rs.length
 |[],_=>rfl
 |r::rs,h=>by
  have e:=h r Qm;have p:=qB λq f=>h q (Qf _ f);cases r with
  |ifr=>exact absurd e Qq
  |again=>exact absurd e Qq
  |_=>simp only[cRs,cR,p,Qe];lia
section
variable{t:Sta}{d0 d1 d2 d5 d6 d8 d9 d10:Option D}
def Nm(C:Cse)(s t:Sta)(fi:Nat):Prop:=if fi<C.names.length then ∀y,C.names[fi]?=ap y->aL C s (.inr y)≠aL C t (.inr y) else aL C s (.inl 0)≠aL C t (.inl 0)
theorem Kf(o:C.Ok)(O:SOk C s)(J:SOk C t)(W:0<C.many)(hc:cRs C.rows<=24)(X:30<=C.most)(p:Nm C s t fi)(I:M ln=ap (.lst<|t.nums.map D.int))(f1:fin (C.cf s) (C.most-4) (C.names.zip s.nums) C.rows=ap n1)(S:fin (C.cf t) (C.most-4) (C.names.zip t.nums) C.rows=ap n2)(k1:n1.map (·.1)=C.names)(k2:n2.map (·.1)=C.names)(Y:nm n1 C.mn=nm n2 C.mn)(h:∀rs,(C.rw rs).Ok->(C.rw rs).two s t->cRs rs<=26->∀e,D'.nx [d0,d1,d2,ap (C.rw rs).d,ap s.d,ap (.ref ln),d6,ap (.int (fi:Nat)),d8,d9,d10,ap t.d,ap (.int (C.most:Nat)),e] M):
  ∀e,g7 ad EE D' [d0,d1,d2,ap C.d,ap s.d,ap (.ref ln),d6,ap (.int (fi:Nat)),d8,d9,d10,ap t.d,ap (.int (C.most:Nat)),e] M:=by
 intro e;have f:=@Dd C;have lr:=qe C.rows;have lf:(flt C.rows).length<=C.rows.length:=QH _ _;have fd:∀{rs:List Rw}{M:Mem}{Q:DK},Q (C.rw rs).d M->frz (C.rw rs).d M Q:=λq=>q;unfold g7;have Z:t.nums.length=C.names.length:=J.ln;simp only[aN,ao,ah,ac,bF,aa,af,dt,PN,bR,aO,I,PQ,vX,jq];unfold Nm at p
 by_cases c:fi<C.names.length
 .rw[if_pos c]at p
  rw[if_pos (by simp;lia)]
  obtain⟨y,H⟩:∃y,C.names[fi]?=ap y:=⟨_,PV c⟩;have B:y∈C.names:=SM H;have P:atI (C.names.map D.str) (fi:Int)=ap (.str y):=by rw[br (by lia),Qh,Qj,H];rfl
  unfold nc;simp only[au,aq,aj,aa,af,ac,ah,dC,dt,PN,f,aw,aO,atI_1,P];rw[<- f];refine⟨rfl,ar λQ' E' G _=>rR o O J B (p y H) (by lia) (by lia) λrs w F A R=>G _ _ (fd ?_)⟩
  simp only[ag,Qi];exact h rs w F (by rw[qB A];lia) _
 .rw[if_neg c]at p
  rw[if_neg (by simp;lia)]
  unfold nI;simp only[au,aq,aj,aa,af,ac,dt,PN];refine⟨rfl,ar λQ' E' G _=>q_ o O J W p (by lia) (by lia) f1 S k1 k2 Y λmore w F A R=>G _ _ (fd ?_)⟩
  simp only[ag,Qi];exact h _ w F (by rw[cq,qB A];lia) _
theorem F6(o:C.Ok)(G:SOk C s)(H:SOk C t)(h0:0<C.many)(hc:cRs C.rows<=24)(I:30<=C.most)(Z:Nm C s t fi)(F:M ln=ap (.lst<|t.nums.map D.int))(f1:fin (C.cf s) (C.most-4) (C.names.zip s.nums) C.rows=ap n1)(O:fin (C.cf t) (C.most-4) (C.names.zip t.nums) C.rows=ap n2)(h:∀rs,(C.rw rs).Ok->(C.rw rs).two s t->cRs rs<=26->D'.rt (bI (C.rw rs) s t) M):
  fS ad EE D' [d0,d1,d2,ap C.d,ap s.d,ap (.ref ln),d6,ap (.int (fi:Nat)),d8,d9,d10,ap t.d,ap (.int (C.most:Nat)),cm] M:=by
 obtain⟨j1,_,A⟩:=m5 _ _ _ _ f1 4 [];obtain⟨j2,_,B⟩:=m5 _ _ _ _ O 4 [];have W:C.most-4+4=C.most:=by lia
 rw[W,QO,dz]at A B;have X:=D1 A B;have S:=kL A;have R:=kL B;have Y:n1.map (·.1)=C.names:=by rw[<- S.2];exact(yz o G).keys
 have P:n2.map (·.1)=C.names:=by rw[<- R.2];exact(yz o H).keys
 have e:∀rs,(C.rw rs).Ok->(C.rw rs).two s t->cRs rs<=26->∀p,gh ad EE D' [d0,d1,d2,ap (C.rw rs).d,ap s.d,ap (.ref ln),d6,ap (.int (fi:Nat)),d8,d9,d10,ap t.d,ap (.int (C.most:Nat)),p] M:=λrs a b c p=>by
  unfold gh;simp only[aF,aM,aa,ac,af,dt,PN];exact⟨aX (by simp),h rs a b c⟩
 unfold fS;generalize w:iE ad EE=K14;simp only[ai,au,aq,aj,aa,af,ac,dt,PN];refine⟨rfl,aP (λ_ _ q=>fX o G H q)<|pF ?_⟩;rw[X];simp only[ag,Qi];rw[<- w];unfold iE;generalize f:g7 ad EE=K12;generalize J:gh ad EE=K13 at *;simp only[ai,aN,ao,ah,ac,dC,dt,PN,aw,aO,atI_0,atI_1,cB,dv,bn,aR];refine⟨trivial,trivial,?_⟩
 by_cases c:nm n1 C.mn=nm n2 C.mn
 .rw[if_pos (by simpa using c)]
  rw[<- f];exact Kf o G H h0 hc I Z F f1 O Y P c e _
 .rw[if_neg (by simpa using c)]
  simp only[aH];exact e C.rows o ⟨_,_,eU A,eU B,c⟩ (by lia) _
theorem LC(o:C.Ok)(p:SOk C s)(A:SOk C t)(W:0<C.many)(X:cRs C.rows<=24)(F:30<=C.most)(S:Nm C s t fi)(B:M ln=ap (.lst<|t.nums.map D.int))(h:∀rs,(C.rw rs).Ok->(C.rw rs).two s t->cRs rs<=26->D'.rt (bI (C.rw rs) s t) M):
  g9 ad EE D' [d0,d1,d2,ap C.d,ap s.d,ap (.ref ln),d6,ap (.int (fi:Nat)),d8,d9,d10,ap t.d,ap (.int (C.most:Nat)),cm] M:=by
 have H:=@Dd C;have lr:=qe C.rows;have lf:(flt C.rows).length<=C.rows.length:=QH _ _;generalize e:({ C with most:=C.most-4 }:Cse)=C4;have Y:C4.Ok:=by subst e;exact⟨o.m2,o.m1,o.few,by show C.most-4<=_;have:=o.most;lia,o.nd,o.l0,o.l1,o.ok,o.h,o.mn⟩
 have s4:SOk C4 s:=by subst e;exact⟨p.ln,p.lp,p.rn,p.rp⟩
 have t4:SOk C4 t:=by subst e;exact⟨A.ln,A.lp,A.rn,A.rp⟩
 have J:C4.d=C.d:=by subst e;rfl
 have em:((C.most:Nat):Int)-4=(C4.most:Nat):=by subst e;show _=((C.most-4:Nat):Int);lia
 have Z:∀z,fin (C4.cf z) C4.most (C4.names.zip z.nums) C4.rows=fin (C.cf z) (C.most-4) (C.names.zip z.nums) C.rows:=λz=>by
  subst e;exact F8 (k1:=C.most-4) (k2:=C.most) (C.most-4) _ _
 have I:=vN o.ok;have of:=o.rw I (by rw[g8 pJ];decide)
 unfold g9;generalize f:fS ad EE=K15;generalize G:lK ad EE=K9;simp only[ai,aN,ao,ah,aq,aj,aa,af,ac,dC,dt,PN,gu,jq,em];rw[<- J];refine⟨rfl,aP (λ_ _ q=>fX Y s4 t4 q)<|pF ?_⟩;rw[J];unfold J7
 by_cases c:(C4.run s).1=true/\(C4.run t).1=true
 .rw[if_pos c]
  have P:=wU c.1;have R:=wU c.2;rw[Z]at P R;simp only[jI,iG,QA,if_false,aH];rw[<- f];exact F6 o p A W X F S B P R h
 .rw[if_neg c]
  simp only[jI,iG,if_true];rw[<- G];unfold lK;rw[H];simp only[au,ah,aq,tX,bM,cP,aM,aa,af,aj,ac,dC,dt,PN,Lb,CV,frz,aw,aO,atI_3,atI_4];refine⟨rfl,aP (λ_ _ q=>pe (by lia) o.ok q) ?_⟩
  simp only[aZ,ag,Qi];refine⟨aX (by simp),aX (by simp),?_⟩
  have eq:D.tup [.int C.w,.tup (C.names.map D.str),.int (C.many:Nat),.tup (aA<|flt C.rows),.str C.mn]=(C.rw<|flt C.rows).d:=rfl;simp only[Qn,Qo,eq];have O:∀z,fin ((C.rw<|flt C.rows).cf z) ((C.rw<|flt C.rows).most-4) (C.names.zip z.nums) (flt C.rows)=ap (fz (C.cf z) (C.names.zip z.nums)<|flt C.rows):=λz=>lV (cf:=C.cf z) _ _ _ pJ (by show _<=C.most-4;lia)
  rw[<- f];exact F6 (C:=C.rw (flt C.rows)) of p.rw A.rw W (Qp (tL C.rows) X) F S B (O s) (O t) h
end
def gA(xs:Yu)(i:Nat):Int:=(xs[i]?).getD 0
def CI(xs ys:Yu):Nat:=((QG xs.length).filter λi=>decide (gA xs i≠gA ys i)).length
theorem tN{p q:Nat->Bool}{j:Nat}:∀(l:List Nat),l.Nodup->(∀i∈l,i≠j->p i=true->q i=true)->(l.filter p).length<=(l.filter q).length+if j∈l then 1 else 0
 |[],_,_=>by simp
 |i::l,nd,h=>by
  have f:=RT.mp nd;have A:=tN (p:=p) (q:=q) (j:=j) l f.2 λk G=>h k (Qf _ G)
  by_cases e:i=j
  .subst e
   rw[if_neg f.1]at A;rw[if_pos Qm,QB,QB]
   split<;>split<;>(try simp only[Qe])<;>lia
  .have F:=h i Qm e
   have B:(if j∈i::l then 1 else 0)=if j∈l then 1 else 0:=by
    have:j∈i::l↔j∈l:=by simp[Ql,Qu e,eq_comm,e]
    simp only[this]
   rw[B,QB,QB]
   by_cases w:p i=true
   .rw[if_pos w,if_pos (F w),Qe,Qe];lia
   .rw[if_neg w]
    split
    .rw[Qe];lia
    .exact A
theorem mv(f:j<xs.length):gA (xs.set j v) i=if i=j then v else gA xs i:=by
 unfold gA;rw[Tn]
 by_cases e:j=i
 .subst e;rw[if_pos rfl,if_pos f,if_pos rfl];rfl
 .rw[if_neg e,if_neg λz=>e z.symm]
theorem lL{ys:Yu}(h:j<ys.length):CI xs (ys.set j v)<=CI xs ys+1:=by
 unfold CI;have:=tN (p:=λi=>decide (gA xs i≠gA (ys.set j v) i)) (q:=λi=>decide (gA xs i≠gA ys i)) (j:=j) (QG xs.length) Uz λi _ e f=>by
  rw[mv h,if_neg e]at f;exact f
 split at this<;>lia
theorem iz:CI xs xs=0:=by
 unfold CI;rw[TF.mpr λi _=>by simp];rfl
theorem pj(h:i<xs.length):gA xs i∈xs:=by
 unfold gA;rw[PV h];exact RJ h
theorem yt(h:i<xs.length):atI (xs.map D.int) (i:Int)=ap (.int<|gA xs i):=by
 rw[br (by lia),Qh,Qj]
 unfold gA;rw[PV h];rfl
structure Cm(k:Pt)(ln lp:eg)(ns ps:Yu)(M0 M:Mem):Prop where
 has:Has k M
 a:ln≠k.p/\ln≠k.q
 b:lp≠k.p/\lp≠k.q
 ab:ln≠lp
 en:M ln=ap (.lst<|ns.map D.int)
 ep:M lp=ap (.lst<|ps.map D.int)
 n0:M0 ln=cm
 p0:M0 lp=cm
 keep:∀b o,b≠k.p->b≠k.q->M0 b=ap o->M b=ap o
structure Df(m:Int)(nums pieces ns ps:Yu)(fi cnt:Nat):Prop where
 ln:ns.length=nums.length
 lp:ps.length=pieces.length
 rn:∀v∈ns,0<=v/\v<m
 rp:∀v∈ps,0<=v/\v<m
 few:CI nums ns+CI pieces ps<=cnt
 fi:if fi<nums.length then gA nums fi≠gA ns fi else gA pieces 0≠gA ps 0
section
variable{k:Pt}{pieces:Yu}{cnt:Nat}
theorem Cm.dr(c:Cm k ln lp ns ps M0 M)(d:Dr k M M'):Cm k ln lp ns ps M0 M':=
 ⟨d.1,c.a,c.b,c.ab,by rw[d.2 ln c.a.1 c.a.2];exact c.en,by rw[d.2 lp c.b.1 c.b.2];exact c.ep,c.n0,c.p0,λb o h f e=>by rw[d.2 b h f];exact c.keep b o h f e⟩
theorem gG:(xs.map D.int).set j (.int v)=(xs.set j v).map D.int:=by rw[List.map_set]
theorem Cm.sN(c:Cm k ln lp ns ps M0 M):Cm k ln lp (ns.set j v) ps M0 (M.upd ln<|.lst<|(ns.set j v).map D.int):=
 ⟨c.has.upd c.a,c.a,c.b,c.ab,Mem.upd_same,by rw[ae c.ab.symm];exact c.ep,c.n0,c.p0,λb o h f e=>by rw[ae (Mem.ne e c.n0)];exact c.keep b o h f e⟩
theorem Cm.sP(c:Cm k ln lp ns ps M0 M):Cm k ln lp ns (ps.set j v) M0 (M.upd lp<|.lst<|(ps.set j v).map D.int):=
 ⟨c.has.upd c.b,c.a,c.b,c.ab,by rw[ae c.ab];exact c.en,Mem.upd_same,c.n0,c.p0,λb o h f e=>by rw[ae (Mem.ne e c.p0)];exact c.keep b o h f e⟩
theorem kH(h:∀v∈xs,0<=v/\v<m)(f:0<=v/\v<m):∀w∈xs.set j v,0<=w/\w<m:=λw e=>by
 rcases Va e with h1|h1
 .exact h w h1
 .subst h1;exact f
theorem Df.sN(d:Df m nums pieces ns ps fi cnt)(w:j<nums.length)(h:0<=v/\v<m)(p:v≠gA nums j):Df m nums pieces (ns.set j v) ps fi (cnt+1):=by
 have f:j<ns.length:=by rw[d.ln];exact w
 refine⟨by rw[RU];exact d.ln,d.lp,kH d.rn h,d.rp,?_,?_⟩
 .have:=lL (xs:=nums) (v:=v) f
  have:=d.few;lia
 .have:=d.fi
  split at this
  .rename_i c
   rw[if_pos c,mv f]
   split
   .rename_i e;rw[e];exact λz=>p z.symm
   .exact this
  .rename_i c;rw[if_neg c];exact this
theorem Df.sP(d:Df m nums pieces ns ps fi cnt)(w:j<pieces.length)(h:0<=v/\v<m)(p:v≠gA pieces j):Df m nums pieces ns (ps.set j v) fi (cnt+1):=by
 have f:j<ps.length:=by rw[d.lp];exact w
 refine⟨d.ln,by rw[RU];exact d.lp,d.rn,kH d.rp h,?_,?_⟩
 .have:=lL (xs:=pieces) (v:=v) f
  have:=d.few;lia
 .have:=d.fi
  split at this
  .rename_i c;rw[if_pos c];exact this
  .rename_i c
   rw[if_neg c,mv f]
   split
   .rename_i e;rw[e];exact λz=>p z.symm
   .exact this
end
section
variable{k:Pt}{pieces:Yu}{cnt:Nat}{d1 d2 d7 d9 d10 d11 d12 d13:Option D}{pl:List D}{sm:Int}
theorem O8(c:Cm k ln lp ns ps M0 M)(d:Df m nums pieces ns ps fi cnt)(Z:2<=m)(m1:m<=997)(rn:∀v∈nums,0<=v/\v<m)(rp:∀v∈pieces,0<=v/\v<m)(hp:atI pl 0=ap (.int m))(s0:0<sm)(s1:sm<=(nums.length:Int)+pieces.length)(hb:nums.length+pieces.length<=1000)(h:∀H G M' I,Cm k ln lp H G M0 M'->Df m nums pieces H G fi (cnt+1)->D'.nx [ap (.ref k.p),d1,d2,ap (.tup pl),ap (bH nums pieces),ap (.ref ln),ap (.ref lp),d7,ap (.int sm),d9,I,d11,d12,d13] M'):
  iQ ad EE D' [ap (.ref k.p),d1,d2,ap (.tup pl),ap (bH nums pieces),ap (.ref ln),ap (.ref lp),d7,ap (.int sm),d9,d10,d11,d12,d13] M:=by
 have e:∀{v:Int}{M:Mem}{Q:DK},Q (.int v) M->frz (.int v) M Q:=λz=>z;unfold iQ;generalize O:lG ad EE=K7;simp only[ai,au,aq,aj,aa,af,ac,dt,PN];refine⟨rfl,am c.has s0 (by lia) λr M1 a1 b1 dr=>e ?_⟩
 have B:=c.dr dr;simp only[ag,Qi];rw[<- O];unfold lG;generalize S:lT ad EE=K4;generalize Y:m7 ad EE=K6;simp only[aN,ao,ah,bF,aa,af,ac,dt,PN,bR,aO,B.en,PQ,vX,jq,d.ln];obtain⟨j,hj⟩:∃j:Nat,r=(j:Int):=⟨r.toNat,by lia⟩
 subst hj
 by_cases q:j<nums.length
 .rw[if_pos (by simp;lia),<- S]
  unfold lT;simp only[au,aq,aj,aa,af,ac,ah,dC,bH,dt,PN,aw,aO,hp,atI_0,yt q];refine⟨rfl,ar λQ' E' X _=>fk B.has Z m1 (rn _<|pj q) λw M2 J R W f=>X _ _ (e ?_)⟩;have F:=B.dr f;simp only[dq,ac,dt,PN,my,F.en,PQ,fj (show (0:Int)<=(j:Int) by lia) (show (j:Int)<(ns.length:Nat) by rw[d.ln];lia),Qh,gG]
  exact h _ _ _ _ F.sN (d.sN q ⟨J,R⟩ W)
 .rw[if_neg (by simp;lia),<- Y]
  unfold m7;generalize P:kF ad EE=K5;simp only[ai,au,ah,bF,aa,af,ac,dt,PN,bR,aO,B.en,PQ,gu,jq,d.ln,ag,Qi];obtain⟨i,hi,A⟩:∃i:Nat,(j:Int)-(nums.length:Int)=(i:Int)/\i<pieces.length:=⟨j-nums.length,by lia,by lia⟩
  rw[hi,<- P];unfold kF;simp only[au,aq,aj,aa,af,ac,ah,dC,bH,dt,PN,aw,aO,hp,atI_0,atI_1,yt A];refine⟨rfl,ar λQ' E' X _=>fk B.has Z m1 (rp _<|pj A) λw M2 J R W f=>X _ _ (e ?_)⟩;have F:=B.dr f;simp only[dq,ac,dt,PN,my,F.ep,PQ,fj (show (0:Int)<=(i:Int) by lia) (show (i:Int)<(ps.length:Nat) by rw[d.lp];lia),Qh,gG]
  exact h _ _ _ _ F.sP (d.sP A ⟨J,R⟩ W)
end
mutual
theorem Lg{names:Yv}{m a b:Int}(h:a<=b):∀(r:Rw),cA names m a r->cA names m b r
 |.put x k,h1=>h1
 |.take x i,h1=>⟨h1.1,h1.2.1,Int.lt_of_lt_of_le h1.2.2 h⟩
 |.pick x y,h1=>⟨h1.1,h1.2.1,Int.lt_of_lt_of_le h1.2.2 h⟩
 |.two w x y z,h1=>h1
 |.ifr x c d,h1=>by
  simp only[cA]at h1 ⊢;exact⟨h1.1,iJ h c h1.2.1,iJ h d h1.2.2⟩
 |.again x c,h1=>by
  simp only[cA]at h1 ⊢;exact⟨h1.1,iJ h c h1.2⟩
theorem iJ{names:Yv}{m a b:Int}(h:a<=b):∀(rs:List Rw),bf names m a rs->bf names m b rs
 |[],_=>trivial
 |r::rs,h1=>⟨Lg h r h1.1,iJ h rs h1.2⟩
end
theorem Fp(l:Yv)(p:aG->Bool):((l.map Qr).filter p).length=((QG l.length).filter λi=>p (.inr<|(l[i]?).getD ("":Str))).length:=by
 have e:l=(QG l.length).map λi=>(l[i]?).getD ("":Str):=List.ext_getElem (by simp) λi f h=>by rw[UB,List.getElem_range,PV f];rfl
 conv=>lhs;rw[e]
 rw[Ro,Rk,PQ];rfl
structure CaOk(C:Cse)(s t:Sta)(few:Nat):Prop where
 o:C.Ok
 hs:SOk C s
 ht:SOk C t
 two:C.two s t
 un:(aC C s t).length<=few
 h0:0<C.many
 h1:C.many<=40
 cn:cRs C.rows<=26
 one:∀x∈C.names,sx x
section
variable{t:Sta}
theorem pI(o:C.Ok)(e:SOk C s)(h:C.names[i]?=ap y):aL C s (.inr y)=gA s.nums i:=by
 have:=uN o.nd e.ln.symm h;unfold gA;rw[this];rfl
theorem Fu(o:C.Ok)(h:SOk C s)(p:SOk C t):(aC C s t).length=CI s.nums t.nums+CI s.pieces t.pieces:=by
 unfold aC cZ;rw[Rf,PX,Fp];congr 1
 .unfold CI
  rw[h.ln];congr 1;refine RZ λi f=>?_;have f:=Ri.mp f;have e:C.names[i]?=ap ((C.names[i]?).getD ("":Str)):=by rw[PV f];rfl
  rw[pI o h e,pI o p e]
 .unfold CI
  rw[Rk,PQ,h.lp];rfl
theorem JJ:aC (C.rw rs) s t=aC C s t:=rfl
end
section
variable{k:Pt}
theorem cut2{a b c d e:D}:ko [a,b,c,d,e] cm (ap 2)=[a,b]:=rfl
theorem Jl{a b c d e:D}:ko [a,b,c,d,e] (ap 3) cm=[d,e]:=rfl
theorem AG{few:Nat}(f1:1<=few)(f5:few<=5)(hp:Has k M)(h:∀C s t M',CaOk C s t few->Kq k M M'->Q (bI C s t) M'):zM ad [.ref k.p,.int 24,.int (few:Nat)] M Q E:=by
 have ft:∀{xs:List D}{M:Mem}{Q:DK},Q (.tup xs) M->frz (.tup xs) M Q:=λz=>z;have H:∀{v:Int}{M:Mem}{Q:DK},Q (.int v) M->frz (.int v) M Q:=λz=>z;rw[PJ (n:=0)];unfold y2;generalize hK26:ja ad (aB E)=K26;simp only[ai,au,aq,aj,aa,af,ac,dt,PN];refine⟨rfl,ar λQ' E' hq _=>AH (v:=24) (by decide) (by decide) hp λm many names rows mk M1 pl hc q1=>hq _ _ (ft ?_)⟩
 simp only[ag,Qi];rw[<- hK26];unfold ja;generalize hK25:ip ad (aB E)=K25;have t4:=pl.t.k0;have t5:=pl.t.k1;have m2:=pl.t.m2;have m1:=pl.t.m1;have l0:=pl.t.n0;have l1:=pl.t.n1;obtain⟨f,hmn,mn1,mn40,mle⟩:∃f:Nat,(if many>1 then many else 1)=(f:Int)/\1<=f/\f<=40/\many<=(f:Int):=by
  refine⟨(if many>1 then many else 1).toNat,?_,?_,?_,?_⟩<;>split<;>lia
 simp only[ai,au,ah,aq,tX,bM,cP,aM,aa,af,bF,ac,dC,iP,dt,PN,Lb,cut2,Jl,frz,aw,aO,atI_2,FA,hmn,aZ,Qe,QN];refine⟨aX (by simp),aX (by simp),aX (by simp),?_⟩
 simp only[Qn,Qo,ag,Qi];have pl':PlG m (f:Int) names rows mk:=⟨⟨pl.t.m2,pl.t.m1,pl.t.n0,pl.t.n1,by lia,by lia⟩,pl.nd,iJ mle _ pl.ok,pl.h,pl.cn,pl.l,pl.ln,pl.mkm,pl.one⟩
 have X:D.tup [.int m,.tup (names.map D.str),.int (f:Int),.tup (aA rows),.str mk]=iP m (f:Int) names rows mk:=rfl;rw[X,<- hK25];unfold ip;generalize hK24:iN ad (aB E)=K24;simp only[ai,au,aq,aj,aa,af,ac,dt,PN];refine⟨rfl,ar λQ' E' hq _=>vp q1.1 pl' λnums pieces M2 ln lp rn rp q2=>hq _ _ (ft ?_)⟩;simp only[ag,Qi];rw[<- hK24];unfold iN;generalize hK23:jc ad (aB E)=K23;simp only[ai,au,bF,ah,aa,af,ac,dC,bH,dt,PN,aw,aO,atI_0,eY];intro J S;simp only[ag,Qi];rw[<- hK23];unfold jc;generalize hK22:jl ad (aB E)=K22;simp only[ai,au,bF,ah,aa,af,ac,dC,dt,PN,aw,aO,atI_1,eY];intro G A;simp only[ag,Qi];have P:J≠G:=Mem.ne Mem.upd_same A;rw[ae P.symm]at A;have Y:nums.length=names.length:=ln;have hlP:pieces.length=f:=by lia
 have c0:Cm k J G nums pieces M2 ((M2.upd J<|.lst<|nums.map D.int).upd G<|.lst<|pieces.map D.int):=by
  have a:=q2.1.nep S;have b:=q2.1.nep A;exact⟨(q2.1.upd a).upd b,a,b,P,by rw[ae P,Mem.upd_same],Mem.upd_same,S,A,λb' o _ _ e=>by rw[ae (Mem.ne e A),ae (Mem.ne e S)];exact e⟩
 generalize (M2.upd J<|.lst<|nums.map D.int).upd G (.lst<|pieces.map D.int)=M3 at c0 ⊢;have es:D.tup [.tup (nums.map D.int),.tup (pieces.map D.int)]=bH nums pieces:=rfl;rw[es,<- hK22];unfold jl;generalize hK21:ii ad (aB E)=K21;simp only[ai,au,aq,aj,ah,bF,aa,af,ac,dC,dt,PN,bR,aO,c0.en,PQ,cN];refine⟨.inl ⟨by decide,by decide⟩,rfl,am c0.has (by lia) (by lia) λr M4 a4 b4 d4=>H ?_⟩
 have O:=c0.dr d4;obtain⟨fi,hfi⟩:∃fi:Nat,r=(fi:Int):=⟨r.toNat,by lia⟩
 subst hfi;simp only[ag,Qi];rw[<- hK21];unfold ii;generalize hK20:iY ad (aB E)=K20;simp only[ai,au,bF,aa,af,ac,dt,PN,bR,aO,O.en,PQ,ag,Qi];rw[<- hK20];unfold iY;generalize hK19:j9 ad (aB E)=K19
 have rest:∀(ns ps:Yu)(M5:Mem)(sm:Int),Cm k J G ns ps M2 M5->Df m nums pieces ns ps fi 1->0<sm->sm<=(nums.length:Int)+pieces.length->
   K19 { nx:=λx M'=>drp Q D.non M',rt:=drp Q } [ap (.ref k.p),ap (.int 24),ap (.int (few:Nat)),ap (iP m (f:Int) names rows mk),ap (bH nums pieces),ap (.ref J),ap (.ref G),ap (.int (fi:Nat)),ap (.int sm),cm,cm,cm,cm,cm] M5:=by
  intro ns ps M5 sm R d5 s0 s1;rw[<- hK19];unfold j9;generalize hK18:j5 ad (aB E)=K18;generalize hK8:iQ ad (aB E)=K8;simp only[ai,cL,gs,aa,af,ah,ac,dC,dt,PN,gu,jq];refine⟨by lia,by lia,?_⟩
  refine cg (λxs U N=>∃(ns ps:Yu)(c9 Z:Option D)(j:Nat),xs.length+j=few-1/\U=[ap (.ref k.p),ap (.int 24),ap (.int (few:Nat)),ap (iP m (f:Int) names rows mk),ap (bH nums pieces),ap (.ref J),ap (.ref G),ap (.int (fi:Nat)),ap (.int sm),c9,Z,cm,cm,cm]/\Cm k J G ns ps M2 N/\Df m nums pieces ns ps fi (1+j))
   (λ_ _ _ _=>aT) ?_ ?_ _ _ _ ⟨ns,ps,cm,cm,0,by simp[dU],rfl,R,d5⟩
  .rintro U N ⟨ns,ps,c9,Z,j,e1,rfl,F,I⟩
   have ej:1+j=few:=by simp at e1;lia
   rw[ej]at I;rw[<- hK18];unfold j5;generalize hK17:iB ad (aB E)=K17;simp only[ai,au,aM,bF,aa,af,ac,dt,PN,cI,gR,aO,F.en,F.ep];refine⟨aX (by simp),?_⟩
   have et:D.tup [.tup (ns.map D.int),.tup (ps.map D.int)]=(Sta.mk ns ps).d:=rfl;simp only[ag,Qi,et];rw[<- hK17];unfold iB;generalize hK16:g9 ad (aB E)=K16;simp only[ai,au,aq,aj,ah,aa,af,ac,dC,dt,PN];refine⟨rfl,am F.has (by decide) (by decide) λr2 M7 a7 b7 d7=>H ?_⟩
   have c7:=F.dr d7;simp only[aZ,ag,Qi];obtain⟨mo,hmo,mo1,mo2⟩:∃mo:Nat,30+r2=(mo:Int)/\30<=mo/\mo<50:=⟨(30+r2).toNat,by lia,by lia,by lia⟩
   rw[hmo];generalize B:(⟨m,f,names,rows,mk,mo⟩:Cse)=C;have o:C.Ok:=by subst B;exact⟨m2,m1,by show f<=100;lia,by show mo<=10000;lia,pl.nd,by show 0<names.length;lia,by show names.length<=100;lia,pl'.ok,Qp pl.h (by decide),pl.mkm⟩
   have hs:SOk C ⟨nums,pieces⟩:=by subst B;exact⟨Y,hlP,rn,rp⟩
   have ht:SOk C ⟨ns,ps⟩:=by subst B;exact⟨I.ln.trans Y,I.lp.trans hlP,I.rn,I.rp⟩
   have eN:C.names.length=nums.length:=by subst B;exact Y.symm
   have ed:iP m (f:Int) names rows mk=C.d:=by subst B;rfl
   have es2:bH nums pieces=(Sta.mk nums pieces).d:=rfl;have em:(mo:Nat)=C.most:=by subst B;rfl
   rw[ed,es2,em];rw[<- hK16];refine LC (s:=⟨nums,pieces⟩) (t:=⟨ns,ps⟩) o hs ht (by subst B;show 0<f;lia) (by subst B;show cRs rows<=24;lia) (by rw[<- em];lia) ?_ c7.en λrs o1 tw cr=>ak (h _ _ _ _ ⟨o1,hs.rw,ht.rw,tw,?_,by subst B;show 0<f;lia,by subst B;exact mn40,cr,by subst B;exact pl.one⟩ ?_)
   .unfold Nm
    rw[eN];have hd:=I.fi
    split
    .rename_i c
     rw[if_pos c]at hd;intro y hy;rw[pI o hs hy,pI o ht hy];exact hd
    .rename_i c
     rw[if_neg c]at hd;exact hd
   .rw[JJ,Fu o hs ht]
    exact I.few
   .exact q1.trans (q2.trans ⟨c7.has,c7.keep⟩)
  .rintro x xs U N ⟨ns,ps,c9,Z,j,e1,rfl,F,I⟩ D' hD _ _ _
   simp only[Qe]at e1;simp only[ag,Qi];rw[<- hK8];refine O8 F I m2 m1 rn rp (by simp) s0 s1 (by lia) λns' ps' M' d10' c' d'=>hD _ _ ⟨ns',ps',_,_,j+1,by lia,rfl,c',?_⟩
   rw[<- Nat.add_assoc];exact d'
 generalize hK1:kY ad (aB E)=K1;generalize hK3:kP ad (aB E)=K3;simp only[ai,aN,ao,ah,bF,aa,af,ac,dt,PN,bR,aO,O.en,PQ,vX,jq];have d0:∀{j:Nat}{v:Int}(hj:j<nums.length),fi=j->0<=v->v<m->v≠gA nums j->Df m nums pieces (nums.set j v) pieces fi 1:=λ{j v} hj e v0 v1 vn=>by
  subst e;refine⟨RU,rfl,kH rn ⟨v0,v1⟩,rp,?_,?_⟩
  .have h1:=lL (xs:=nums) (ys:=nums) (v:=v) hj
   have h2:=iz (xs:=nums);have h3:=iz (xs:=pieces);lia
  .rw[if_pos hj,mv hj,if_pos rfl];exact λz=>vn z.symm
 by_cases q:fi<nums.length
 .rw[if_pos (by simp;lia),<- hK1]
  unfold kY;have W:atI [D.int m,.tup (names.map D.str),.int (f:Int),.tup (aA rows),.str mk] 0=ap (.int m):=by simp
  simp only[au,aq,aj,aa,af,ac,ah,dC,iP,dt,PN,aw,aO,W,O.en,yt q];refine⟨rfl,ar λQ' E' hq _=>fk O.has m2 m1 (rn _<|pj q) λw M5 w0 w1 wn dr5=>hq _ _ (H ?_)⟩;have R:=O.dr dr5;simp only[dq,ac,dt,PN,my,R.en,PQ,fj (show (0:Int)<=(fi:Int) by lia) (show (fi:Int)<(nums.length:Nat) by lia),Qh,gG]
  rw[X];exact rest _ _ _ _ R.sN (d0 q rfl w0 w1 wn) (by lia) (by lia)
 .rw[if_neg (by simp;lia),<- hK3]
  unfold kP;generalize hK2:lz ad (aB E)=K2;have hP:0<pieces.length:=by lia
  have W:atI [D.int m,.tup (names.map D.str),.int (f:Int),.tup (aA rows),.str mk] 0=ap (.int m):=by simp
  have ga0:=yt (xs:=pieces) hP;have ga0':atI (pieces.map D.int) 0=ap (.int<|gA pieces 0):=ga0;simp only[ai,au,aq,aj,aa,af,ac,ah,dC,iP,dt,PN,aw,aO,W,O.ep,ga0'];refine⟨rfl,ar λQ' E' hq _=>fk O.has m2 m1 (rp _<|pj hP) λw M5 w0 w1 wn dr5=>hq _ _ (H ?_)⟩;have R:=O.dr dr5;have ix0':rA pieces.length 0=ap 0:=fj (by decide) (by lia)
  simp only[dq,ac,dC,dt,PN,my,R.ep,PQ,ix0',gG];have F:=R.sP (j:=0) (v:=w);generalize M5.upd G (.lst<|(pieces.set 0 w).map D.int)=M6 at F ⊢;rw[<- hK2];unfold lz;simp only[au,aq,ah,bF,aa,af,ac,dC,dt,PN,bR,aO,F.ep,PQ,RU,cN,ER,aZ,frz,ag,Qi];refine⟨.inl ⟨by decide,by decide⟩,?_⟩
  rw[X];refine rest _ _ _ _ F ⟨rfl,RU,rn,kH rp ⟨w0,w1⟩,?_,?_⟩ (by split<;>lia) (by split<;>lia)
  .have h1:=lL (xs:=pieces) (ys:=pieces) (v:=w) hP
   have h2:=iz (xs:=nums);have h3:=iz (xs:=pieces);lia
  .rw[if_neg q,mv hP,if_pos rfl];exact λz=>wn z.symm
theorem Dj{t:Sta}(h:Q (bI C s t) M):frz (bI C s t) M Q:=h
end
end Tw
namespace L3
open PySem L2
mutual
def ua:D->Prop
 |.non=>True
 |.int i=>i.natAbs<10 ^ 6
 |.str x=>x.length<=100/\∀c∈x.cps.toList,c<16 ^ 8
 |.tup xs=>sU xs
 |_=>False
def sU:List D->Prop
 |[]=>True
 |x::xs=>ua x/\sU xs
end
mutual
def sz:D->Nat
 |.tup xs=>5+wQ xs
 |_=>2000
def wQ:List D->Nat
 |[]=>0
 |x::xs=>sz x+2+wQ xs
end
theorem BY{i:Int}(h:i.natAbs<10 ^ 6):i.natAbs.log2<1920:=by
 by_cases a:i.natAbs=0
 .rw[a];decide
 .exact(V0 a).mpr (Qc h<|Qp (by decide:10 ^ 6<=2 ^ 20)<|QR (by decide)<|by decide)
mutual
theorem yM:∀d:D,ua d->(dm d).showable=true
 |.non,_=>by simp only[dm,SJ]
 |.int i,h=>by simp only[dm,SJ,decide_eq_true_eq];exact BY h
 |.str x,_=>by simp only[dm,SJ]
 |.tup xs,h=>by simp only[dm,SJ];exact tq xs h
 |.bl _,h=>h.elim
 |.lst _,h=>h.elim
 |.ty _,h=>h.elim
 |.ref _,h=>h.elim
 |.mt _,h=>h.elim
 |.ml _,h=>h.elim
theorem tq:∀xs:List D,sU xs->T2 (fD xs)=true
 |[],_=>by simp only[fD,T2]
 |x::xs,h=>by simp only[fD,T2,yM x h.1,tq xs h.2,Vi]
end
theorem HW(a:Yv):(tupleText a).length<=piled a+5:=by
 unfold tupleText;rw[strLen_append,strLen_append];have c:(("(":String):Str).length=1:=rfl;have b:((if a.length==1 then ",)" else ")":String):Str).length<=2:=by split<;>decide
 by_cases h:a=[]
 .subst h
  have:(Str.join ", " ([]:Yv)).length=0:=rfl;lia
 .have:=join_length_add a h
  lia
mutual
theorem o7:∀d:D,ua d->(dm d).shown.length<=sz d
 |.non,_=>by simp only[dm,SU,sz];decide
 |.int i,h=>by simp only[dm,SU,sz];exact Qp (PyProof.Rows.int_text_len_1921<|BY h) (by decide)
 |.str x,h=>by
  simp only[dm,SU,sz];have:=StrLaws.reprText_len x h.2;have:=h.1;lia
 |.tup xs,h=>by
  simp only[dm,SU,sz];have:=HW (Sj<|fD xs);have:=mT xs h;lia
 |.bl _,h=>h.elim
 |.lst _,h=>h.elim
 |.ty _,h=>h.elim
 |.ref _,h=>h.elim
 |.mt _,h=>h.elim
 |.ml _,h=>h.elim
theorem mT:∀xs:List D,sU xs->piled (Sj<|fD xs)<=wQ xs
 |[],_=>by simp[fD,Sj,piled,wQ]
 |x::xs,h=>by
  have b:=o7 x h.1;have a:=mT xs h.2;simp only[fD,Sj,wQ];simp[piled]at a ⊢;lia
end
end L3
namespace Tw
open PySem L2 L3
variable{ad:Ad}{C:Cse}{Q:DK}{E:DX}{a b:Int}{M:Mem}{few n:Nat}{T:Nat->Int}{s:Sta}{x y:Str}
section
variable{names:Yv}{m many:Int}
mutual
theorem sz_R:∀r:Rw,sz r.d+2<=9000*cR r
 |.put _ _=>by simp[Rw.d,sz,wQ,cR]
 |.take _ _=>by simp[Rw.d,sz,wQ,cR]
 |.pick _ _=>by simp[Rw.d,sz,wQ,cR]
 |.two _ _ _ _=>by simp[Rw.d,sz,wQ,cR]
 |.ifr _ a b=>by
  have:=ug a;have:=ug b;simp only[Rw.d,sz,wQ,cR];lia
 |.again _ a=>by
  have:=ug a;simp only[Rw.d,sz,wQ,cR];lia
theorem ug:∀c:List Rw,wQ (aA c)<=9000*cRs c
 |[]=>by simp[aA,wQ,cRs]
 |r::c=>by
  have:=sz_R r;have:=ug c;simp only[aA,wQ,cRs];lia
end
theorem bg(h:sx x):ua (.str x):=by
 obtain⟨n,c,f,i,j,g,rfl⟩:=h;refine⟨?_,λd e=>?_⟩
 .show (RP n c).size<=100
  rw[Array.size_replicate];lia
 .simp at e
  obtain⟨_,rfl⟩:=e;have:(122:Nat)<16 ^ 8:=by decide
  lia
theorem fw{w:String}(h:w∈["put","take","pick","sum","by","less","same","if","again"]):ua (.str<|QI w):=by
 simp only[Ql,QM,or_false]at h;rcases h with rfl|rfl|rfl|rfl|rfl|rfl|rfl|rfl|rfl<;>exact⟨by decide +kernel,by decide +kernel⟩
theorem DR{i:Int}(c:0<=i)(e:i<1000):ua (.int i):=by
 have:(1000:Nat)<10 ^ 6:=by decide
 show i.natAbs<10 ^ 6;lia
mutual
theorem L7(c:∀x∈names,sx x)(i:m<=997)(k1:many<=40):∀r:Rw,cA names m many r->ua r.d
 |.put x k,h=>by
  simp only[cA,cK]at h;exact⟨fw (w:="put") (by simp),bg (c _ h.1),DR h.2.1 (by lia),trivial⟩
 |.take x k,h=>by
  simp only[cA,cK]at h;exact⟨fw (w:="take") (by simp),bg (c _ h.1),DR h.2.1 (by lia),trivial⟩
 |.pick x y,h=>by
  simp only[cA,cK]at h;exact⟨fw (w:="pick") (by simp),bg (c _ h.1),bg (c _ h.2.1),trivial⟩
 |.two w x y z,h=>by
  simp only[cA,cK]at h;obtain⟨j,e,g,f⟩:=h;rcases j with rfl|rfl|rfl|rfl
  .exact⟨fw (w:="sum") (by simp),bg (c _ e),bg (c _ g),bg (c _ f),trivial⟩
  .exact⟨fw (w:="by") (by simp),bg (c _ e),bg (c _ g),bg (c _ f),trivial⟩
  .exact⟨fw (w:="less") (by simp),bg (c _ e),bg (c _ g),bg (c _ f),trivial⟩
  .exact⟨fw (w:="same") (by simp),bg (c _ e),bg (c _ g),bg (c _ f),trivial⟩
 |.ifr x a b,h=>by
  simp only[cA]at h;exact⟨fw (w:="if") (by simp),bg (c _ h.1),il c i k1 a h.2.1,il c i k1 b h.2.2,trivial⟩
 |.again x a,h=>by
  simp only[cA]at h;exact⟨fw (w:="again") (by simp),bg (c _ h.1),il c i k1 a h.2,trivial⟩
theorem il(f:∀x∈names,sx x)(e:m<=997)(k1:many<=40):∀c:List Rw,bf names m many c->sU (aA c)
 |[],_=>trivial
 |r::c,h=>by
  simp only[bf]at h;exact⟨L7 f e k1 r h.1,il f e k1 c h.2⟩
end
end
def Sub(y x:Str):Prop:=∃a b:Array Nat,x.cps=a++y.cps++b
theorem xP:(x++y).cps=x.cps++y.cps:=rfl
theorem Sub.refl:Sub y y:=⟨#[],#[],by simp⟩
theorem Sub.l{z:Str}(h:Sub y x):Sub y (z++x):=by
 obtain⟨a,b,e⟩:=h;exact⟨z.cps++a,b,by rw[xP,e];simp[Sn]⟩
theorem Sub.r{z:Str}(h:Sub y x):Sub y (x++z):=by
 obtain⟨a,b,e⟩:=h;exact⟨a,b++z.cps,by rw[xP,e];simp[Sn]⟩
theorem Mg(h:Sub y x):SS x y=true:=by
 obtain⟨a,b,e⟩:=h;have c:x.length=a.size+y.length+b.size:=by
  show x.cps.size=a.size+y.cps.size+b.size;rw[e,Ui,Ui]
 refine (StrLaws.found_iff x y).mpr ⟨a.size,by lia,?_⟩
 unfold Builtin.Str.subAt;refine beq_iff_eq.mpr ?_;show x.cps.extract a.size (a.size+y.cps.size)=y.cps;rw[e];apply Array.ext';simp[Array.toList_extract,List.extract_eq_take_drop]
theorem tY{y c:Str}:∀{e:Yv}{t:Str},t∈e->Sub y t->Sub y (Str.join c e)
 |[x],t,h,s=>by
  have:t=x:=by simpa using h
  subst this;exact s
 |x::z::r,t,h,s=>by
  show Sub y (x++c++Str.join c (z::r));rcases Ql.mp h with rfl|h
  .exact s.r.r
  .exact(tY h s).l
theorem oC:∀{xs:List D}{x:D},x∈xs->(dm x).shown∈Sj (fD xs)
 |z::xs,x,h=>by
  simp only[fD,Sj];rcases Ql.mp h with rfl|h
  .exact Qm
  .exact Qf _ (oC h)
theorem eA{xs:List D}{x:D}(h:x∈xs)(s:Sub y (dm x).shown):Sub y (dm<|.tup xs).shown:=by
 simp only[dm,SU];unfold tupleText;exact(tY (oC h) s).l.r
theorem BH:Sub "'pick'" (dm<|.str "pick").shown:=by
 have:(dm<|.str "pick").shown=("'pick'":Str):=by
  simp only[dm,SU]
  decide +kernel
 rw[this];exact .refl
mutual
theorem np_R:∀r:Rw,MT r\/Sub "'pick'" (dm r.d).shown
 |.put _ _=>.inl trivial
 |.take _ _=>.inl trivial
 |.two _ _ _ _=>.inl trivial
 |.pick x y=>.inr (eA Qm BH)
 |.ifr x a b=>by
  rcases rQ a with h1|⟨d,hd,h1⟩
  .rcases rQ b with h2|⟨d,hd,h2⟩
   .exact .inl ⟨h1,h2⟩
   .exact .inr (eA (xs:=[.str "if",.str x,.tup (aA a),.tup (aA b)]) (x:=.tup (aA b)) (by simp)<|eA hd h2)
  .exact .inr (eA (xs:=[.str "if",.str x,.tup (aA a),.tup (aA b)]) (x:=.tup (aA a)) (by simp)<|eA hd h1)
 |.again x a=>by
  rcases rQ a with h1|⟨d,hd,h1⟩
  .exact .inl h1
  .exact .inr (eA (xs:=[.str "again",.str x,.tup (aA a)]) (x:=.tup (aA a)) (by simp)<|eA hd h1)
theorem rQ:∀c:List Rw,eP c\/∃d∈aA c,Sub "'pick'" (dm d).shown
 |[]=>.inl trivial
 |r::c=>by
  rcases np_R r with h1|h1
  .rcases rQ c with h2|⟨d,hd,h2⟩
   .exact .inl ⟨h1,h2⟩
   .exact .inr ⟨d,Qf _ hd,h2⟩
  .exact .inr ⟨_,Qm,h1⟩
end
theorem OY{c:List Rw}(h:SS (dm<|.tup<|aA c).shown "'pick'"=eC):eP c:=by
 rcases rQ c with h1|⟨d,hd,h1⟩
 .exact h1
 .rw[Mg (eA hd h1)]at h;cases h
theorem As{names:Yv}{m e:Int}{c:List Rw}(h:∀x∈names,sx x)(i:m<=997)(k1:e<=40)(ok:bf names m e c)(j:ei c<=7)(o:cRs c<=60):
  bn 60 (.tup<|aA c)=true/\(dm<|.tup<|aA c).showable=true/\(dm<|.tup<|aA c).shown.length<=sizeLine:=by
 have f:ua (.tup<|aA c):=il h i k1 c ok;refine⟨?_,yM _ f,Qp (o7 _ f) ?_⟩
 .have g:=jO c 59 (by lia)
  simp[bn,g]
 .have:=ug c
  refine aX ?_;simp only[sz];lia
section
variable{t:Sta}
def Es(us:List aG)(n:Nat)(T:Nat->Int):List D:=(us.zipIdx 0).map λp=>D.tup [kD p.1,xQ n T p.2]
theorem rX:(di C s t a b).length<=2 ^ (aC C s t).length:=by
 have c:(di C s t a b).length<=(dg a b (aC C s t) (C.tree s t) 0 0).length:=QH _ _;rw[jh]at c;have:=oz (C:=C) (s:=s) (t:=t);lia
theorem xK{i:Nat}(c:n<=7)(e:(di C s t a b).length<=128)(ok:∀x∈di C s t a b,OutOk n x):-1000000000000000<=bU n (di C s t a b) i/\bU n (di C s t a b) i<=1000000000000000:=by
 have:=wk (i:=i) c ok;lia
theorem oP(o:C.Ok)(q:SOk C s)(m:SOk C t)(j:C.mark s=.int a)(u:C.mark t=.int b)(e:a≠b)(f:(aC C s t).length<=7)(h:Q (.lst<|Es (aC C s t) (aC C s t).length<|bU (aC C s t).length<|di C s t a b) M):aq (aj (jY ad) E 2<|aa (ac 0)<|aa (dC<|.int 2000) af) [ap (bI C s t)] M Q:=by
 have c:2 ^ (aC C s t).length<=128:=QR (n:=2) (by decide) f
 have v:=oz (C:=C) (s:=s) (t:=t);simp only[aq,aj,aa,ac,dC,af,dt];refine⟨rfl,ar λQ' E' g _=>uc (L:=2000) o q m j u e (by lia) (by lia) (by decide) gB rfl (λi _=>xK f (Qp rX c) gB) λp c=>g _ _ (cD c h)⟩
theorem Ab{T:Nat->Int}:∀(us:List aG)(j:Nat),((us.zipIdx j).map λp=>T p.2)=(Tj j us.length).map T
 |[],j=>rfl
 |u::us,j=>by simp only[RI,PU,Qe,Sa,Ab us (j+1)]
theorem Fx{us:List aG}:((us.zipIdx 0).map λp=>T p.2).sum=((QG us.length).map T).sum:=by
 rw[Ab,SK]
theorem HF(o:C.Ok)(G:C.many<=90)(e:SOk C s)(c:SOk C t)(H:eP C.rows)(J:(aC C s t).length<=20)(F:C.mark s=.int a)(I:C.mark t=.int b):C.mo.mark (s.mo 0 1)=.int a/\C.mo.mark (t.mo 1 0)=.int b:=by
 have m2:=o.m2;have i:=o.mo G;have h:=e.mo (v:=0) (w:=1) ⟨by lia,by lia⟩ ⟨by lia,by lia⟩
 have g:=c.mo (v:=1) (w:=0) ⟨by lia,by lia⟩ ⟨by lia,by lia⟩
 have A:=xn o e c H (v:=0) (v':=1) (w:=1) (w':=0) (by decide) (by decide)
 have u:=qW e c (v:=0) (v':=1) (w:=1) (w':=0) (by decide) (by decide)
 have f:(aC C.mo (s.mo 0 1)<|t.mo 1 0).length<24:=by rw[u,PX];simp[iZ];lia
 have j:=cV (p:=λ_=>eC) i h g h f λq _=>rfl;have m:=cV (p:=λ_=>true) i h g g f λq _=>rfl;have z:=cV (p:=λ_=>eC) o e c e (by lia) λq _=>rfl
 have B:=cV (p:=λ_=>true) o e c c (by lia) λq _=>rfl
 rw[A]at j m;exact⟨by rw[<- j,z,F],by rw[<- m,B,I]⟩
theorem Hn(o:C.Ok)(e:SOk C s)(c:SOk C t)(f:eP C.rows):di C.mo (s.mo 0 1) (t.mo 1 0) a b=di C s t a b:=by
 unfold di;rw[xn o e c f (by decide) (by decide),qW e c (by decide) (by decide),vq _ _ _ _ nF λ_ h=>h]
theorem CT(o:SOk C s)(m:SOk C t):Es (aC C s t++iZ C) ((aC C s t).length+2) (bU ((aC C s t).length+2)<|di C s t a b)=Es (aC C s t) (aC C s t).length (bU (aC C s t).length<|di C s t a b)++[.tup [.int (C.many:Nat),.tup [.int 0,.int 1]],.tup [.int ((C.many:Nat)+1),.tup [.int 0,.int 1]]]:=by
 have j:=dW ((aC C s t).length+2);have c:∀i,(aC C s t).length<=i->xQ ((aC C s t).length+2) (bU ((aC C s t).length+2)<|di C s t a b) i=.tup [.int 0,.int 1]:=λi h=>by
  rw[qh,oR h gB,GY];have g:(0:Int) / ((fct ((aC C s t).length+2):Nat):Int)=0:=Int.zero_ediv _;have f:((fct ((aC C s t).length+2):Nat):Int) / ((fct ((aC C s t).length+2):Nat):Int)=1:=Int.ediv_self (by lia)
  rw[g,f]
 unfold Es;rw[List.zipIdx_append,Sm];congr 1
 .refine Q6 λp _=>?_
  congr 3;rw[qh,qh,oZ gB];have e:=Bl (k:=((aC C s t).length+2)*((aC C s t).length+1)) (d:=fct (aC C s t).length) (T:=bU (aC C s t).length (di C s t a b) p.2) (Nat.mul_pos (by lia)<|by lia) (dW _)
  rw[Jk,e.1,e.2]
 .simp only[iZ,RI,List.zipIdx_nil,PU,Qt]
  rw[c _ (by lia),c _ (by lia)]
  rfl
theorem sG{D':DEnds}{EE:DX}{i:BxW (ao<|ah Be (ac 0)<|dC<|.int 0) (ij ad EE) D'}:∀(f a b:Nat),a<f->D'.nx [ap (.int 0),ap (.int ((So a b:Nat):Int))] M->
  b_ (ao<|ah Be (ac 0)<|dC<|.int 0) (ij ad EE) D' i (f+1) [ap (.int (a:Nat)),ap (.int (b:Nat))] M
 |0,a,b,hf,h=>by lia
 |f+1,a,b,hf,h=>by
  have c:∀K:Bool->Mem->Prop,K (decide ((0:Int)<((a:Nat):Int))) M->ao (ah Be (ac 0)<|dC<|.int 0) [ap (.int (a:Nat)),ap (.int (b:Nat))] M K:=λK q=>by
   simp only[ao,ah,ac,dC,Be,jq,dt];exact q
  by_cases g:a=0
  .subst g
   refine whF (λK q=>c K (by simpa using q)) ?_
   rw[Nat.gcd_zero_left]at h;exact h
  .refine whT (λK q=>c K (by rw[decide_eq_true (by lia)];exact q)) ?_
   unfold ij;have e:((b:Nat):Int) % ((a:Nat):Int)=((b % a:Nat):Int):=by simp
   simp only[K0,aa,ah,ac,af,dw,oI,dt,PN,e,Qi];refine⟨by lia,sG f (b % a) a ?_ ?_⟩
   .have:=Nat.mod_lt b (show a>0 by lia);lia
   .rw[<- Nat.gcd_rec];exact h
theorem sD{a b:Nat}(h:Q (.int ((So a b:Nat):Int)) M):Ag ad [.int (a:Nat),.int (b:Nat)] M Q E:=by
 rw[OJ (n:=0)];unfold wN;simp only[ai,dD];refine⟨a+2,sG _ a b (by lia) ?_⟩
 simp only[aF,ac,dt,PN];exact ak h
end
section
variable{t:Sta}
theorem CL{x:Int}:(if x<0 then -x else x)=((x.natAbs:Nat):Int):=by split<;>lia
theorem Et{D':DEnds}{EE:DX}{q:aG}{i:Nat}{d0 d1 d2 u w A d6 B d12 e:Option D}{top c:Int}(L:n<=20)(S:-1000000000000000<=T i/\T i<=1000000000000000)(h:D'.nx [d0,d1,d2,u,w,A,d6,B,ap (.int (top*((fct n / gT (fct n) (T i):Nat):Int)+T i / ((gT (fct n) (T i):Nat):Int)*c)),ap (.int (c*((fct n / gT (fct n) (T i):Nat):Int))),ap (kD q),ap (xQ n T i),d12,e] M):
  gD ad EE D' [d0,d1,d2,u,w,A,d6,B,ap (.int top),ap (.int c),ap (kD q),ap (xQ n T i),d12,e] M:=by
 have f:=dW n;have F:=fI L;have N:=xT (T:=T i) f;have R:=rj (T:=T i) f;have J:=GK (T:=T i) f;have P:fct n / gT (fct n) (T i)<=fct n:=Nat.div_le_self _ _;have H:((fct n:Nat):Int) / ((gT (fct n) (T i):Nat):Int)=((fct n / gT (fct n) (T i):Nat):Int):=(Int.natCast_ediv _ _).symm;have K:-(2 ^ 64)<T i / ((gT (fct n) (T i):Nat):Int)/\T i / ((gT (fct n) (T i):Nat):Int)<2 ^ 64:=by
  obtain⟨x,j⟩:=L4 (T:=T i) f;generalize gT (fct n) (T i)=g at *;have I:T i / (g:Int)=x:=by rw[j];exact Vq _ (by lia)
  rw[I];have o:(1:Int)<=(g:Int):=by lia
  have G:x.natAbs<=(T i).natAbs:=by
   rw[j,Int.natAbs_mul];exact Nat.le_mul_of_pos_left _ (by lia)
  lia
 have fi':∀{v:Int}{M:Mem}{Q:DK},Q (.int v) M->frz (.int v) M Q:=λz=>z;generalize o:gT (fct n) (T i)=g at *;rw[qh,o]at h ⊢;rw[H]at h ⊢;generalize O:fct n / g=d at *;generalize j:T i / ((g:Nat):Int)=x at *;unfold gD;generalize m:lq ad EE=K2;simp only[ai,aN,BG,ao,ah,ac,dC,dt,PN,aw,aO,atI_1,vX,jq];rw[if_neg (by simp;lia)]
 simp only[aq,aj,bF,aa,af,ah,ac,dC,dt,PN,aw,aO,atI_0,atI_1,FX,CL];refine⟨rfl,aP (λ_ _ q=>sD q)<|fi' ?_⟩;rw[J];simp only[jW,dv,bn,aR];refine⟨trivial,trivial,?_⟩;rw[if_neg (by simp)]
 simp only[aH];rw[<- m];unfold lq qZ;simp only[ai,au,ah,ac,dC,dt,PN,aw,aO,atI_0,atI_1,cN,aZ,ag,Qi];have p:(-(2 ^ 64)<(d:Int)/\(d:Int)<2 ^ 64):=by lia
 exact⟨.inr p,.inl K,.inr p,h⟩
theorem xX{n:Nat}{T:Nat->Int}{d0 d1 d2 j o u d6 w d12 g:Option D}{D':DEnds}{EE:DX}{ok:Mem->Prop}{A:BxF (gZ 2<|bh (ag 10)<|bh (ag 11) gr) (gD ad EE) D' ok}(m:n<=20)(c:∀M,ok M):∀(ps:List (aG×Nat))(top bot:Int)(d10 d11:Option D),(∀p∈ps,-1000000000000000<=T p.2/\T p.2<=1000000000000000)->0<bot->
  top*((fct n:Nat):Int)+bot*(ps.map λp=>T p.2).sum=bot*((fct n:Nat):Int)->(∀v d10 d11,D'.nx [d0,d1,d2,j,o,u,d6,w,ap (.int v),ap (.int v),d10,d11,d12,g] M)->
  gY (gZ 2<|bh (ag 10)<|bh (ag 11) gr) (gD ad EE) D' ok A (ps.map λp=>D.tup [kD p.1,xQ n T p.2]) [d0,d1,d2,j,o,u,d6,w,ap (.int top),ap (.int bot),d10,d11,d12,g] M
 |[],top,bot,d10,d11,_,hb,he,h=>by
  have i:=dW n;have e:top=bot:=by
   simp only[Qt,Um,Int.mul_zero,TU]at he;exact Int.eq_of_mul_eq_mul_right (by lia) he
  subst e;exact⟨c _,h _ _ _⟩
 |p::ps,top,bot,d10,d11,hT,hb,he,h=>by
  have i:=dW n;have F:=xT (T:=T p.2) i;have B:=Cb (T:=T p.2) i;rw[PU];refine⟨c _,?_⟩;simp only[gZ,bh,ag,gr,Qi];refine⟨rfl,Et m (hT p Qm)<|xX m c ps _ _ _ _ (λq z=>hT q (Qf _ z)) (Int.mul_pos hb<|by lia) ?_ h⟩
  rw[PU,QJ]at he;generalize (ps.map λp=>T p.2).sum=S at *;generalize fct n / gT (fct n) (T p.2)=dd at *;generalize T p.2 / ((gT (fct n) (T p.2):Nat):Int)=x at *;generalize T p.2=Tp at *;generalize ((fct n:Nat):Int)=f at*
  grind
end
section
variable{t:Sta}
theorem Cu{us:List aG}:bn 60 (.lst<|Es us n T)=true:=by
 have:∀(l:List (aG×Nat)),bv 59 (l.map λp=>D.tup [kD p.1,xQ n T p.2])=true:=λl=>by
  induction l with
  |nil=>rfl
  |cons p l ih=>
   rw[PU];simp only[bv,ih,T7];simp[bn,bv,CY,xQ]
 simp[bn,Es,this]
theorem Ml{U:Dl}{w e c f:D}{n:Int}{K:DK}(g:U[3]?=ap (ap<|.tup [w,e,.int n,c,f]))(h:K (.tup [w,e,.int (n+2),c,f]) M):
  ah aZ (aM<|aa (ah aw (ac 3)<|dC<|.int 0)<|aa (ah aw (ac 3)<|dC<|.int 1)<|aa (ah aZ (ah aw (ac 3)<|dC<|.int 2)<|dC<|.int 2) af) (aq<|tX (ac 3) (cP<|dC<|.int 3) bM) U M K:=by
 simp only[ah,aM,aa,af,aq,tX,bM,cP,ac,dC,g,aw,aO,atI_0,atI_1,atI_2,dt,PN,aZ,Lb,Jl,frz,Qe,QN];exact⟨aX (by simp),aX (by simp),h⟩
theorem Pi{U:Dl}{d12 p0 q0 d6:D}{sp tp:List D}{K:DK}(c:U[12]?=ap (ap d12))(g:U[4]?=ap (ap<|.tup [p0,.tup sp]))(e:U[5]?=ap (ap<|.tup [q0,.tup tp]))(f:U[6]?=ap (ap d6))(ls:sp.length<=1000)(lt:tp.length<=1000)(h:K (.tup [d12,.tup [p0,.tup (sp++[.int 0,.int 1])],.tup [q0,.tup (tp++[.int 1,.int 0])],d6]) M):
  aM (aa (ac 12)<|aa (aM<|aa (ah aw (ac 4)<|dC<|.int 0)<|aa (ah aZ (ah aw (ac 4)<|dC<|.int 1)<|aM<|aa (dC<|.int 0)<|aa (dC<|.int 1) af) af)<|aa (aM<|aa (ah aw (ac 5)<|dC<|.int 0)<|aa (ah aZ (ah aw (ac 5)<|dC<|.int 1)<|aM<|aa (dC<|.int 1)<|aa (dC<|.int 0) af) af)<|aa (ac 6) af) U M K:=by
 simp only[ah,aM,aa,af,ac,dC,c,g,e,f,aw,aO,atI_0,atI_1,dt,PN,aZ,Qe,QN];exact⟨aX (by simp),aX (by lia),aX (by simp),aX (by simp),aX (by lia),aX (by simp),aX (by simp),h⟩
theorem CF{EE:DX}{D':DEnds}{d0 d1 d2 d8 d9 d10 d11:Option D}(c:CaOk C s t few)(hf:few<=5)(J:eP C.rows)(ea:C.mark s=.int a)(eb:C.mark t=.int b)(F:a≠b)(h:D'.rt (.bl true) M):iS ad EE D' [d0,d1,d2,ap C.d,ap s.d,ap t.d,ap (.int (C.most:Nat)),ap (.lst<|Es (aC C s t) (aC C s t).length<|bU (aC C s t).length<|di C s t a b),d8,d9,d10,d11,cm,cm] M:=by
 have i:=@Dd C;have j:∀z:Sta,z.d=.tup [.tup (z.nums.map D.int),.tup (z.pieces.map D.int)]:=λ_=>rfl;have m2:=c.o.m2;have hu:=c.un;have Z:=c.h1;have R:=c.hs.lp;have P:=c.ht.lp;have I:=qW c.hs c.ht (v:=0) (v':=1) (w:=1) (w':=0) (by decide) (by decide)
 have W:(aC C.mo (s.mo 0 1)<|t.mo 1 0).length=(aC C s t).length+2:=by rw[I,PX];rfl
 obtain⟨O,K⟩:=HF c.o (by lia) c.hs c.ht J (by lia) ea eb
 have N:=Hn (a:=a) (b:=b) c.o c.hs c.ht J;have H:=λ(Q:DK)=>oP (ad:=ad) (E:=EE) (M:=M) (Q:=Q) (c.o.mo<|by lia) (c.hs.mo (v:=0) (w:=1) ⟨by lia,by lia⟩ ⟨by lia,by lia⟩) (c.ht.mo (v:=1) (w:=0) ⟨by lia,by lia⟩ ⟨by lia,by lia⟩) O K F (by lia)
 rw[W,N,I,CT c.hs c.ht]at H;have Y:D.tup [.int C.w,.tup (C.names.map D.str),.int (((C.many:Nat):Int)+2),.tup (aA C.rows),.str C.mn]=C.mo.d:=by
  show _=D.tup [.int C.w,.tup (C.names.map D.str),.int ((C.many+2:Nat):Int),.tup (aA C.rows),.str C.mn];rw[Int.natCast_add];rfl
 have S:D.tup [C.mo.d,.tup [.tup (s.nums.map D.int),.tup (s.pieces.map D.int++[.int 0,.int 1])],.tup [.tup (t.nums.map D.int),.tup (t.pieces.map D.int++[.int 1,.int 0])],.int (C.most:Nat)]=bI C.mo (s.mo 0 1) (t.mo 1 0):=by
  show _=D.tup [C.mo.d,(s.mo 0 1).d,(t.mo 1 0).d,.int (C.most:Nat)];rw[j,j];simp[Sta.mo]
 unfold iS;generalize m:lb ad EE=K5;rw[i];unfold ai au;refine Ml rfl ?_;rw[Y,<- i];unfold ag;dsimp only[Qi];rw[<- m];unfold lb;generalize A:l_ ad EE=K4;unfold ai au;dsimp only[Qi];refine Pi (d12:=C.mo.d) (p0:=.tup (s.nums.map D.int)) (q0:=.tup (t.nums.map D.int)) (d6:=.int (C.most:Nat)) (sp:=s.pieces.map D.int) (tp:=t.pieces.map D.int) ?_ ?_ ?_ ?_ (by rw[PQ];lia) (by rw[PQ];lia) ?_
 .rfl
 .rfl
 .rfl
 .rfl
 unfold ag;dsimp only[Qi];rw[S,<- A];unfold l_;rw[i];generalize g:Es (aC C s t) (aC C s t).length (bU (aC C s t).length<|di C s t a b)=L at *;have f:∀(Q:DK)(U:Dl),U[13]?=ap (ap<|bI C.mo (s.mo 0 1)<|t.mo 1 0)->Q (.lst (L++[.tup [.int (C.many:Nat),.tup [.int 0,.int 1]],.tup [.int ((C.many:Nat)+1),.tup [.int 0,.int 1]]])) M->aq (aj (jY ad) EE 2<|aa (ac 13)<|aa (dC<|.int 2000) af) U M Q:=λQ U B q=>by
  have:=H Q q;simp only[aq,aj,aa,ac,dC,af,dt]at this ⊢;rw[B];exact this
 have ll:L.length<=20:=by rw[<- g];simp[Es];lia
 have G:bn 60 (.lst L)=true:=by rw[<- g];exact Cu
 simp only[aF];unfold ah;refine f _ _ rfl ?_;simp only[aq,ah,bV,aM,aa,af,ac,dC,dt,PN,aw,aO,atI_2,aZ,Qe,QN];refine⟨aX (by simp),aX (by simp),aX (by simp),aX (by simp),aX (by simp),λp X=>cD X ?_⟩
 simp only[gR];refine⟨aX (by simp;lia),λp2 u=>cD u ?_⟩
 have e:bn 60 (.lst (L++[.tup [.int (C.many:Nat),.tup [.int 0,.int 1]],.tup [.int ((C.many:Nat)+1),.tup [.int 0,.int 1]]]))=true:=by
  rw[<- g,<- CT c.hs c.ht];exact Cu
 simp only[cB,dv,e,xm _ _ e];exact⟨trivial,trivial,h⟩
end
theorem Ar(ad:Ad)(S:Yu)(hl:S.length<=63):CA ad [.ml (S.map D.int)] (λ_=>cm) (λd _=>d=.bl true) jf:=by
 have I:∀{v:Int}{M:Mem}{Q:DK},Q (.int v) M->frz (.int v) M Q:=λz=>z;rw[OX (n:=0)];unfold z9;generalize A:j7 ad (aB jf)=K13;simp only[ai,au,aj,aa,af,ac,dt];refine⟨rfl,ar λQ' E' N _=>BS λk M1 hk _=>N _ _ ?_⟩;simp only[ag,Qi];rw[<- A];unfold j7;generalize g:jk ad (aB jf)=K12;simp only[ai,au,aq,aj,aa,af,ah,ac,dC,dt,PN];refine⟨rfl,am hk (by decide) (by decide) λr M2 a2 b2 d2=>I ?_⟩
 simp only[aZ];obtain⟨few,u,f1,P⟩:∃few:Nat,1+r=(few:Int)/\1<=few/\few<=5:=⟨(1+r).toNat,by lia,by lia,by lia⟩
 rw[u];refine⟨rfl,ar λQ' E' N _=>AG f1 P d2.1 λC s t M3 c q3=>N _ _ (Dj ?_)⟩;obtain⟨a,b,K,O,f⟩:=c.two;have hu:=c.un;have B:=@N9 C s t;have F:=@Dd C;simp only[ag,Qi];rw[<- g];unfold jk;generalize m:je ad (aB jf)=K11;simp only[ai,au,ac,dt,PN,B,gZ,bh,ag,gr,Qi];refine⟨rfl,?_⟩;rw[<- B,<- m];unfold je;generalize w:iI ad (aB jf)=K10;have sg:=λ(Q:DK)=>oP (ad:=ad) (E:=aB jf) (M:=M3) (Q:=Q) c.o c.hs c.ht K O f (by lia)
 have s1:=vk c.o c.hs c.ht K O f (by lia)
 have W:∀i,-1000000000000000<=bU (aC C s t).length (di C s t a b) i/\bU (aC C s t).length (di C s t a b) i<=1000000000000000:=λi=>
  xK (by lia) (Qp rX<|QR (n:=2) (j:=7) (by decide)<|by lia) gB
 have lm:=λ(d0 d1 d2 d8 d9 d10 d11:Option D)(D':DEnds)(np:eP C.rows)=>CF (ad:=ad) (M:=M3) (EE:=aB jf) (D':=D') (d0:=d0) (d1:=d1) (d2:=d2) (d8:=d8) (d9:=d9) (d10:=d10) (d11:=d11) c P np K O f;have e:∀(Q:DK)(U:Dl),U[2]?=ap (ap<|bI C s t)->Q (.lst<|Es (aC C s t) (aC C s t).length<|bU (aC C s t).length<|di C s t a b) M3->aq (aj (jY ad) (aB jf) 2<|aa (ac 2)<|aa (dC<|.int 2000) af) U M3 Q:=λQ U L q=>by
  have:=sg Q q;simp only[aq,aj,aa,ac,dC,af,dt]at this ⊢;rw[L];exact this
 simp only[ai];unfold au;refine e _ _ rfl ?_;simp only[ag,Qi];rw[<- w];unfold iI;generalize G:me ad (aB jf)=K9;simp only[ai,au,dC,ag,Qi];rw[<- G];unfold me;generalize H:lQ ad (aB jf)=K8;simp only[ai,cL,bK,ac,dt,PN,aO,bN];have R:Es (aC C s t) (aC C s t).length (bU (aC C s t).length<|di C s t a b)=((aC C s t).zipIdx 0).map λp=>D.tup [kD p.1,xQ (aC C s t).length (bU (aC C s t).length<|di C s t a b) p.2]:=rfl;generalize hT:bU (aC C s t).length (di C s t a b)=T at *;rw[R];refine xX (n:=(aC C s t).length) (T:=T) (by lia) (λ_=>aT) _ 0 1 cm cm (λp _=>W p.2) (by decide) ?_ λv d10 d11=>?_
 .rw[Fx,s1];simp
 rw[<- R,<- H];unfold lQ;generalize J:kJ ad (aB jf)=K7;simp only[ai,aN,ao,ah,ac,dt,PN,jW,dv,bn,aR];refine⟨trivial,trivial,?_⟩;rw[if_neg (by simp)]
 simp only[aH];rw[<- J];unfold kJ;generalize Z:iS ad (aB jf)=K6 at *;obtain⟨r1,X,Y⟩:=As c.one c.o.m1 (show ((C.many:Nat):Int)<=40 by have:=c.h1;lia) c.o.ok c.o.h (by have:=c.cn;lia)
 rw[F];simp only[ai,aN,BG,ao,ah,ac,dC,bF,aa,af,dt,PN,aw,aO,atI_2,atI_3,Be,jq,aF]
 split
 .simp only[aF,dC,if_true]
  exact ak rfl
 .simp only[pi,G6]
  refine⟨r1,X,Y,?_⟩;cases hc:SS (dm<|.tup<|aA C.rows).shown "'pick'" with
  |true=>
   simp only[if_true];exact ak rfl
  |false=>
   simp only[QA,if_false,aH];rw[<- F];refine lm _ _ _ _ _ _ _ _ (OY hc) ?_;dsimp only;exact ak rfl
def Eb(K:PY):Sp:=λc H Q _=>∃(a:eg)(ns:Yu),c=[.ref a]/\EC H/\SqL K H a (ns.map V.int)/\ns.length<=63/\∀H',Q (.bl true) H'
theorem KU{l:W.OpenLaw}{w:g4}{K:PY}{h:hI}{mg:YC}{fa C_Ends C_Going C_Outcome C_Walk C_Dry C_NoCase C_TooMany f1 f2 f3 f4 f5 f6 f7 f8 f9 f10 f11 f12 f13 f14 f15 f16 f17 f18 f19 f20 f21 f22 f23 f24 f25 f26 f27 f28 f29 f30 f31 f32 f33 f34 f35 f36 f37 f38 f39 f40 f41 f42 f43 f44 f45 f46 f47 f48 f49 f50 f51 f52 f53 f54 f55 f56 f57 f58 f59 f60 f61 f62 f63:eg}(X:K.In h)(G:h.Ns fx mg)(hfa:mg "law"=ap (.ref fa)){e1 e2 e3 e4 e5 e6 e7 e8 e9 e10 e11 e12 e13 e14 e15 e16 e17 e18 e19 e20 e21 e22 e23 e24 e25 e26 e27 e28 e29 e30 e31 e32 e33 e34 e35 e36 e37 e38 e39 e40 e41 e42 e43 e44 e45 e46 e47 e48 e49 e50 e51 e52 e53 e54 e55 e56 e57 e58 e59 e60 e61 e62 e63:g5}(z:Rr K fx "Ends"=ap (ap<|.ref C_Ends))(p:Rr K fx "Going"=ap (ap<|.ref C_Going))(g:Rr K fx "Outcome"=ap (ap<|.ref C_Outcome))(u:Rr K fx "Walk"=ap (ap<|.ref C_Walk))(I:Rr K fx "Dry"=ap (ap<|.ref C_Dry))(o:Rr K fx "NoCase"=ap (ap<|.ref C_NoCase))(j:Rr K fx "TooMany"=ap (ap<|.ref C_TooMany))(l1:Mf K C_Walk "__init__" "Walk.__init__" NP f1 e1)(l2:Mf K C_Walk "note_step" "Walk.note_step" P9 f2 e2)(l3:Mf K C_Walk "look" "Walk.look" JE f3 e3)(l4:Nf K "run" Jr f4 e4)(l5:Nf K "mark" Iw f5 e5)(l6:Nf K "do_rows" IK f6 e6)(l7:Af K "do_row_runs" "do_row" JF f7 e7)(l8:Nf K "do_if" I_ f8 e8)(l9:Nf K "do_again" IP f9 e9)(l10:Nf K "number_of" J3 f10 e10)(l11:Nf K "piece_read" IM f11 e11)(l12:Nf K "joined" Ix f12 e12)(l13:Nf K "all_things" Jq f13 e13)(l14:Nf K "in_order" IT f14 e14)(l15:Nf K "number_in" IW f15 e15)(l16:Nf K "names_read" Jw f16 e16)(l17:Nf K "unlike" Ih f17 e17)(l18:Nf K "marks" Ir f18 e18)(l19:Nf K "unlike_of" Jh f19 e19)(l20:Nf K "verdict_of" Im f20 e20)(l21:Mf K C_Going "__init__" "Going.__init__" O0 f21 e21)(l22:Mf K C_Going "settled" "Going.settled" Pn f22 e22)(l23:Mf K C_Ends "__init__" "Ends.__init__" OB f23 e23)(l24:Mf K C_Ends "one_more" "Ends.one_more" Nu f24 e24)(l25:Nf K "start" Iz f25 e25)(l26:Nf K "put_ahead" IF f26 e26)(l27:Nf K "go_on" Je f27 e27)(l28:Nf K "asked_by" Ii f28 e28)(l29:Af K "do_row_trees" "do_row" J0 f29 e29)(l30:Nf K "mark_of" Ji f30 e30)(l31:Nf K "both_ways" Jx f31 e31)(l32:NV K "tree" Jn f32 e32 (500))(l33:Nf K "grown" Jz f33 e33)(l34:Mf K C_Outcome "__init__" "Outcome.__init__" Oq f34 e34)(l35:Nf K "outcomes" IS f35 e35)(l36:Nf K "numbers_of" Jy f36 e36)(l37:NV K "shares" IL f37 e37 (500))(l38:Nf K "mean_of" Iu f38 e38)(l39:Nf K "orders_of" IZ f39 e39)(l40:Nf K "orders_up_to" IY f40 e40)(l41:Nf K "in_lowest_terms" PC f41 e41)(l42:Nf K "_law_stirred" IB f42 e42)(l43:Nf K "_law_pot" Io f43 e43)(l44:Nf K "_law_draw" Jc f44 e44)(l45:Nf K "_law_names" ID f45 e45)(l46:Nf K "_law_row" J2 f46 e46)(l47:Nf K "_law_block" JD f47 e47)(l48:Nf K "_law_rows" Iy f48 e48)(l49:Nf K "_law_plan" Jj f49 e49)(l50:Nf K "_law_stand" Iv f50 e50)(l51:Nf K "_law_becomes" Nk f51 e51)(l52:Nf K "_law_stepped" IR f52 e52)(l53:Nf K "_law_rounds" IG f53 e53)(l54:Nf K "_law_done" JC f54 e54)(l55:Nf K "_law_run" Ig f55 e55)(l56:Nf K "_law_flat" Ja f56 e56)(l57:Nf K "_law_marks" JB f57 e57)(l58:Nf K "_law_other" Jo f58 e58)(l59:Nf K "_law_by_name" Jf f59 e59)(l60:Nf K "_law_by_piece" Pf f60 e60)(l61:Nf K "_law_case" IA f61 e61)(l62:Nf K "_law_common" Jb f62 e62)(U:Nf K "law" jR f63 e63)(W5:VX K C_Dry [.type "ValueError",.type "Exception",.type "BaseException",.type "object"] "ValueError.__new__"=true)(WK:VX K C_NoCase [.type "ValueError",.type "Exception",.type "BaseException",.type "object"] "ValueError.__new__"=true)(WJ:VX K C_TooMany [.type "ValueError",.type "Exception",.type "BaseException",.type "object"] "ValueError.__new__"=true)(WS:SN K C_Ends UE=true)(WT:SX K C_Ends=true)(WU:Tx K C_Ends=true)(WV:QT K (.ref C_Ends) "__setattr__"=ap (ap<|.builtin "object.__setattr__"))(WW:TL K C_Ends=true)(WX:Rj K (.ref C_Ends)=true)(WL:SN K C_Going UE=true)(WM:SX K C_Going=true)(WN:Tx K C_Going=true)(WO:QT K (.ref C_Going) "__setattr__"=ap (ap<|.builtin "object.__setattr__"))(WQ:TL K C_Going=true)(WR:Rj K (.ref C_Going)=true)(WC:SN K C_Outcome UE=true)(WD:SX K C_Outcome=true)(WE:Tx K C_Outcome=true)(WG:QT K (.ref C_Outcome) "__setattr__"=ap (ap<|.builtin "object.__setattr__"))(WH:TL K C_Outcome=true)(WI:Rj K (.ref C_Outcome)=true)(WY:SN K C_Walk UE=true)(WZ:SX K C_Walk=true)(W0:Tx K C_Walk=true)(W2:QT K (.ref C_Walk) "__setattr__"=ap (ap<|.builtin "object.__setattr__"))(W3:TL K C_Walk=true)(W4:Rj K (.ref C_Walk)=true)(Wu:QT K (.ref C_Ends) "count"=ap cm)(Wv:QT K (.ref C_Ends) "limit"=ap cm)(Ww:QT K (.ref C_Going) "left"=ap cm)(Wo:QT K (.ref C_Going) "numbers"=ap cm)(Wr:QT K (.ref C_Going) "pieces"=ap cm)(Wx:QT K (.ref C_Going) "todo"=ap cm)(Wl:QT K (.ref C_Going) "unsettled"=ap cm)(Wn:QT K (.ref C_Outcome) "faulty"=ap cm)(Wq:QT K (.ref C_Outcome) "sound"=ap cm)(Wm:QT K (.ref C_Outcome) "verdict"=ap cm)(WA:QT K (.ref C_Walk) "most"=ap cm)(Ws:QT K (.ref C_Walk) "numbers"=ap cm)(Wt:QT K (.ref C_Walk) "pieces"=ap cm)(WB:QT K (.ref C_Walk) "plan"=ap cm)(Wz:QT K (.ref C_Walk) "steps"=ap cm)(N:Rr K fx "abs"=ap cm)(J:Rr K fx "dict"=ap cm)(f:Rr K fx "enumerate"=ap cm)(c:Rr K fx "isinstance"=ap cm)(S:Rr K fx "len"=ap cm)(B:Rr K fx "list"=ap cm)(P:Rr K fx "max"=ap cm)(Y:Rr K fx "min"=ap cm)(A:Rr K fx "range"=ap cm)(L:Rr K fx "repr"=ap cm)(i:Rr K fx "reversed"=ap cm)(R:Rr K fx "str"=ap cm)(O:Rr K fx "sum"=ap cm)(q:Rr K fx "tuple"=ap cm)(Z:Rr K fx "zip"=ap cm):
  ∃fd:g5,(∀(s:el)(v:ay),XG s fd ⟨[v],[]⟩ [("script",v)])/\∀m:hI,K.In m->m.Ns fx mg->FnOk l.prog w K mg m CX0 35 fa fd ["script"] (Eb K):=by
 have e:=hfa.symm.trans (Tb X G U.a);cases e;obtain⟨_,_,kV,dc,pm,an,cd,ct,_,rfl,_⟩:=U.F.ex;refine⟨SO "law" "law" (cc jR) (bB jR) (aQ jR) .none kV dc pm an cd ct,λs v=>.of_eq rfl,λm _ _=>?_⟩
 let ad:Ad:=⟨C_Ends,C_Going,C_Outcome,C_Walk,C_Dry,C_NoCase,C_TooMany,f1,f2,f3,f4,f5,f6,f7,f8,f9,f10,f11,f12,f13,f14,f15,f16,f17,f18,f19,f20,f21,f22,f23,f24,f25,f26,f27,f28,f29,f30,f31,f32,f33,f34,f35,f36,f37,f38,f39,f40,f41,f42,f43,f44,f45,f46,f47,f48,f49,f50,f51,f52,f53,f54,f55,f56,f57,f58,f59,f60,f61,f62,fa,e1,e2,e3,e4,e5,e6,e7,e8,e9,e10,e11,e12,e13,e14,e15,e16,e17,e18,e19,e20,e21,e22,e23,e24,e25,e26,e27,e28,e29,e30,e31,e32,e33,e34,e35,e36,e37,e38,e39,e40,e41,e42,e43,e44,e45,e46,e47,e48,e49,e50,e51,e52,e53,e54,e55,e56,e57,e58,e59,e60,e61,e62,SO "law" "law" (cc jR) (bB jR) (aQ jR) .none kV dc pm an cd ct⟩
 have T:En l.prog w K mg m ad:=⟨⟨WS,WT,WU,WV⟩,
  Tb X G z,
  ⟨WL,WM,WN,WO⟩,
  Tb X G p,
  ⟨WC,WD,WE,WG⟩,
  Tb X G g,
  ⟨WY,WZ,W0,W2⟩,
  Tb X G u,
  Wu,
  Wv,
  Ww,
  Wo,
  Wr,
  Wx,
  Wl,
  Wn,
  Wq,
  Wm,
  WA,
  Ws,
  Wt,
  WB,
  Wz,
  ib X W5,
  Tb X G I,
  ib X WK,
  Tb X G o,
  ib X WJ,
  Tb X G j,
  Q5 X G N,
  Q5 X G J,
  Q5 X G f,
  Q5 X G c,
  Q5 X G S,
  Q5 X G B,
  Q5 X G P,
  Q5 X G Y,
  Q5 X G A,
  Q5 X G L,
  Q5 X G i,
  Q5 X G R,
  Q5 X G O,
  Q5 X G q,
  Q5 X G Z,
  gi W3 W4 l1,
  gm l2,
  gm l3,
  gf X G l4,
  gf X G l5,
  gf X G l6,
  ga X G l7,
  gf X G l8,
  gf X G l9,
  gf X G l10,
  gf X G l11,
  gf X G l12,
  gf X G l13,
  gf X G l14,
  gf X G l15,
  gf X G l16,
  gf X G l17,
  gf X G l18,
  gf X G l19,
  gf X G l20,
  gi WQ WR l21,
  gm l22,
  gi WW WX l23,
  gm l24,
  gf X G l25,
  gf X G l26,
  gf X G l27,
  gf X G l28,
  ga X G l29,
  gf X G l30,
  gf X G l31,
  gv X G l32 rfl λ_ _ _ _ _ _ _ _=>⟨λ_=>⟨_,rfl,rfl⟩,λ_ _=>⟨_,rfl,rfl⟩⟩,
  gf X G l33,
  gi WH WI l34,
  gf X G l35,
  gf X G l36,
  gv X G l37 rfl λ_ _ _ _ _ _ _ _=>⟨λ_=>⟨_,rfl,rfl⟩,λ_ _=>⟨_,rfl,rfl⟩⟩,
  gf X G l38,
  gf X G l39,
  gf X G l40,
  gf X G l41,
  gf X G l42,
  gf X G l43,
  gf X G l44,
  gf X G l45,
  gf X G l46,
  gf X G l47,
  gf X G l48,
  gf X G l49,
  gf X G l50,
  gf X G l51,
  gf X G l52,
  gf X G l53,
  gf X G l54,
  gf X G l55,
  gf X G l56,
  gf X G l57,
  gf X G l58,
  gf X G l59,
  gf X G l60,
  gf X G l61,
  gf X G l62,
  gf X G U⟩
 exact(Lw<|N4 T).imp λvs H Q E ⟨a,ns,e,hO,hS,hl,k⟩=>by subst e;exact G2 hO hS (Ar ad ns hl) k
theorem walk{l:W.OpenLaw}{q:fy}{loose:Yv}{XP:(Str->Option ay)->hI->Prop}{YP:g4->hI->Prop}{d:DefRec}{K:Params->PY}(v:l.most=ap 63)(g:d.params.defaults=[])(p:∀(w:g4)(h:hI),YP w h->(K w.params).In h)(F:∀(w:g4)(e:YC)(fa:eg)(h:hI),(K w.params).In h->h.Ns fx e->e d.name=ap (.ref fa)->
   ∃fd:g5,(∀(s:el)(u:ay),XG s fd ⟨[u],[]⟩ [("script",u)])/\∀c:hI,(K w.params).In c->c.Ns fx e->FnOk l.prog w (K w.params) e c CX0 35 fa fd ["script"] (Eb<|K w.params)):
  W.WalkO q loose XP YP l.row.toRowW d [] (λf vs=>VW f vs):=
 L2.GJ (n:=63) (k:=35) (x:="script") (CX:=λ_=>CX0) (sp:=λw=>Eb (K w.params)) v (by decide) g ⟨rfl,by decide,by decide,rfl⟩ p F (λ_ _ a i m j o=>⟨a,i,rfl,j,o,m,λ_=>rfl⟩) λ_ _ _ _ _ z=>z
end Tw
open PySem PySem.W PyProof.Rows
structure PySem.W.Fast:Prop where
 (tw7103689247721251636 tw7124466163671743953 tw5736935699331260406 tw14821059038102020348 tw721181917251441749 tw2043618365275159104 tw16731881048962977580 tw698992375867191055 tw8212322202168942616 tw16241222141461820758 tw14081658490968135100 tw4966269989060349958 tw17712251570810434277 tw12220608172179934983 tw9769643576942894309 tw17275379435724337638 tw16719953117392881777 tw11527530950588750117 tw10180475241208329910 tw10108886131117100457 tw7372351961377397980 tw14398559174541004340 tw10908268143174518801 tw16460744747176659810 tw2604389797969549786 tw405957506349635617 tw1325700988581343664 tw8573374847452154078 tw14671096045006950275 tw16346809765590006223 tw16116127740761961175 tw11016880410322123185 tw12952223458796415474 tw16554849810108028613 tw9554505367664367769 tw17699337693818262798 tw6993355331538598510 tw8832025580725735865 tw13233542442323437168 tw13441000161822493010 tw8460086293149712881 tw7364403405777816313 tw10403543853273497772 tw15682153338925139424 tw13469804615079768243 tw4371326352151275165 tw17290726095499577625 tw6138611339230022776 tw837484624214239568 tw3482389702171312905 tw8702534939455890454 tw10010277639316277302 tw10351386913981931019 tw2979578984353124804 tw10547675816188875408 tw5965478164916532441 tw8340115758188534983 tw17705853207014389648 tw7575193744916915334 tw17838848450930975263 tw7838818395173168140 tw17692178252627316279 tw12691343498263510280 tw8793517167352110492 tw17047781311082301493 tw417351613643927349 tw10319711842741331488 tw3586564731096239861 tw14447506083489107122 tw3156137606540221627 tw687122881171129672 tw7603256784585347709 tw2809204520888867130 tw14674867781081509649 tw10045098460299076420 tw17673176990658590366 tw4138620340872668974 tw712096770411407280 tw7502389583200667794 tw16457392493134369072 tw1274995162270238871 tw550359947752965525 tw5349716780025221891 tw9493532730631927806 tw4356997897346940155 tw3960794812284898445 tw7689645266734500227 tw15453747911652470979 tw5745318244500426497 tw8091468930377195934 tw12294959515589692896 tw5713229921986896964 tw7454835030105226622 tw6780124645031030428 tw3651816364860434081 tw4999167719288092623 tw10609162787350514872 tw1059667690073184679 tw15384634426683734840 tw377916025411647264 tw10734005156959279655 tw8989820601350451564 tw9127630401514621534 tw9947080209445995943 tw17864038402735486439 tw17655436333689500018 tw5404306038834091873 tw18219173778090367787 tw310282354004220131 tw14770461977104246294 tw10864054991523651856 tw18413487114814778343 tw7585356374421457555 tw13157934664474307832 tw13846417351233320437 tw12797184296098143718 tw16462389843103180372 tw6173715677148519157 tw2204498150144242378 tw14467429148656080531 tw2166213928351480319 tw9727343306050043078 tw2100014833427395318 tw18107891333346587630 tw12682808418011331194 tw10615999515377815935 tw8520903162803505100 tw5806626831685634906 tw2787523542814721946 tw17231861497820982473 tw17754769868870428610 tw18064210881569982102 tw10990408709175015621 tw8399255758100239931 tw7738222885033993467 tw8933410211107539885 tw6933705664351054850 tw10375357423418487131 tw9319776165861486395 tw16928165097984363076 tw14535111710989912746 tw10450444057191851157 tw481787065052884062 tw11293867737480018757 tw4495555697035399560 tw3057873208632895112 tw851554462791960827 tw12756674917775011251 tw8433883680035709257 tw2093354806627201050 tw9972189782134204168 tw7870624743346588405 tw132298991321557040 tw3537154804231236925 tw715799621129279553 tw7377024446998620856 tw2432674293123387404 tw15618341473071352523 tw7458662904063875664 tw13332141017130654242 tw1617853135064889764 tw16855322687757010974 tw6510864649443204253 tw47207099423063389 tw6422244121054649118 tw7182468460638637904 tw6196396418870494025 tw12832147932576037086 tw7479445785983206889 tw12731949649012458918 tw7971041958701158734 tw17525348382792419245 tw3598075989533560664 tw10513164283243521576 tw7589112772501278825 tw4352974317866142236 tw1990450024632748012 tw1058325948654216889 tw9701134055147219395 tw6596574674074802569 tw274569815223382346 tw5159103591635300165 tw6396405783008323275 tw10860447300969493175 tw17264098014500698942 tw6920161672804899644 tw4404043528894778920 tw5978502332290941312 tw9239314022079923151 tw7378274027856619310 tw706101863395808175 tw10933879174710942232 tw11956470258765326399 tw740739399263647394 tw14802893224406589787 tw459865855501163339 tw2305546197614072195 tw18387215179697756194 tw17305404994986474197:True)
set_option maxRecDepth 100000 in
set_option maxHeartbeats 0 in
theorem PySem.Challenge.cw_twinstride_k53_whole_shares_come_to_one_holds : PySem.Challenge.rw_twinstride_k53_whole_shares_come_to_one.Holds := by
 w_on;o_law;k_head;(case hw=>w_witness2)
 k_fill
 refine Tw.walk (l:=PySem.Challenge.rw_twinstride_k53_whole_shares_come_to_one) rfl rfl (λw h Y=>W.kIn_of Y) ?F
 case F=>
  intro w b fa h KX G a;refine' Tw.KU KX G a ..
  any_goals k_is
  any_goals (first|refine' L3.Nf.mk ?_ (L2.vZ ?_ ?_ ?_)|refine' L3.Mf.mk ?_ ?_ (L2.vZ ?_ ?_ ?_)|refine' L3.Af.mk ?_ (L2.vZ ?_ ?_ ?_)|refine' L3.O7 ?_ ?_ ?_ ?_ ?_)
  any_goals k_is
  any_goals k_exc
